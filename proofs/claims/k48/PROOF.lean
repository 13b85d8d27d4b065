import PyProof.Rows.All
import Wide.All
import OpenK.AllK
import Wide.FinOn
import Lean
import PyProof.EqAt
import PyProof.EqKinds
import PyProof.TupleCall
import PyProof.SetScanFacts
import PyProof.SetKind
import PyProof.DictKinds
import PyProof.FactsAll.set_0
import PyProof.FactsAll.set_1
import PyProof.FactsAll.set_2
import PyProof.FactsAll.set_3
import PyProof.FactsSeq
import PyProof.CollectWalk
import PyProof.ListRange
import PyProof.ZipIter
import PyProof.MeetsSeq
import PyProof.IsRules
import PyProof.Rows.ZipGen
import PyProof.SumWalkG
import PyProof.DictWalks
import PyProof.Rows.SortShell
import PyProof.Rows.SetFrom
import PyProof.SetRoads
import KE.KIntText
import KE.IntTextLaws
import PyProof.StrWalks
import PyProof.StrOps2
import PyProof.SliceStr2
import PyProof.PureStr
import PyProof.StrCalls3
import PyProof.Rows.StrMadeLen
import PyProof.StrLawsIn
import PySem.Challenge.RW_bagwood_k48_four_that_touch
set_option Elab.async false
set_option linter.all false
set_option maxRecDepth 100000
local macro_rules | `(tactic| omega) => `(tactic| first | lia | omega (config := {}))
/-! THE HAND LAYER, for ints, bools, texts, own classes, LISTS and tuples (index, slices, in, append, pop ..), calls, loops. Paste it whole ahead of your own text; what your proof does not reach may be deleted. -/
namespace L2
open PySem PySem.Spec PyProof.Rows

/-- a key: an int or a str -/
abbrev Key := Sum Int Str
def keyIs : Key → Value → Bool
  | .inl k, v => Value.isInt k v
  | .inr x, v => Value.isStrOf x v
def keyH (w : World) : Key → Int
  | .inl k => hashInt k
  | .inr x => hashStr w x
theorem keyIs_shape : ∀ {k : Key} {v : Value}, keyIs k v = true → (∃ i t, k = Sum.inl i ∧ v = Value.int i t) ∨ (∃ x t, k = Sum.inr x ∧ v = Value.str x t)
  | .inl i, v, h => by
    obtain ⟨t, e⟩ := Value.isInt_shape (k := i) (v := v) h
    exact .inl ⟨i, t, rfl, e⟩
  | .inr x, v, h => by
    obtain ⟨t, e⟩ := Value.isStrOf_shape (x := x) (v := v) h
    exact .inr ⟨x, t, rfl, e⟩
theorem key_ll (a b : Int) : decide ((Sum.inl a : Key) = Sum.inl b) = (a == b) := by
  by_cases e : a = b
  · subst e; simp
  · have h : ¬ (Sum.inl a : Key) = Sum.inl b := fun q => e (Sum.inl.inj q)
    rw [decide_eq_false h]
    exact (beq_eq_false_iff_ne.mpr e).symm
theorem key_rr (a b : Str) : decide ((Sum.inr a : Key) = Sum.inr b) = decide (a = b) := by
  by_cases e : a = b
  · subst e; simp
  · have h : ¬ (Sum.inr a : Key) = Sum.inr b := fun q => e (Sum.inr.inj q)
    rw [decide_eq_false h, decide_eq_false e]
theorem key_lr (a : Int) (b : Str) : decide ((Sum.inl a : Key) = Sum.inr b) = false := decide_eq_false (fun q => nomatch q)
theorem key_rl (a : Str) (b : Int) : decide ((Sum.inr a : Key) = Sum.inl b) = false := decide_eq_false (fun q => nomatch q)

def mixKind (prog : Program) (w : World) : PySem.KeyKind prog w Key where
  is := keyIs
  hash := keyH w
  inj := fun v a b ha hb => by
    rcases keyIs_shape ha with ⟨i, t, rfl, rfl⟩ | ⟨x, t, rfl, rfl⟩
    · rcases keyIs_shape hb with ⟨j, u, rfl, e⟩ | ⟨y, u, rfl, e⟩
      · injection e with e1 _; rw [e1]
      · exact nomatch e
    · rcases keyIs_shape hb with ⟨j, u, rfl, e⟩ | ⟨y, u, rfl, e⟩
      · exact nomatch e
      · injection e with e1 _; rw [e1]
  byValue := fun k v h => by
    rcases keyIs_shape h with ⟨i, t, rfl, rfl⟩ | ⟨x, t, rfl, rfl⟩ <;> rfl
  pyHash := fun hv h => by
    rcases keyIs_shape hv with ⟨i, t, rfl, rfl⟩ | ⟨x, t, rfl, rfl⟩
    · exact wpAny_pyHash_int h
    · exact wpAny_pyHash_str h
  eqBool := fun hu hv h => by
    rcases keyIs_shape hu with ⟨i, t, rfl, rfl⟩ | ⟨x, t, rfl, rfl⟩
    · rcases keyIs_shape hv with ⟨j, u, rfl, rfl⟩ | ⟨y, u, rfl, rfl⟩
      · rw [key_ll] at h; exact wpAny_eqBool_int h
      · rw [key_lr] at h; exact SeqAt.EqAt.int_str i t y u _ _ _ _ h
    · rcases keyIs_shape hv with ⟨j, u, rfl, rfl⟩ | ⟨y, u, rfl, rfl⟩
      · rw [key_rl] at h; exact SeqAt.EqAt.str_int x t j u _ _ _ _ h
      · rw [key_rr] at h; exact wpAny_eqBool_str h
  «strs» := fun k x t v h => by
    rcases keyIs_shape h with ⟨i, u, rfl, e⟩ | ⟨y, u, rfl, e⟩
    · exact nomatch e
    · injection e with e1 _
      subst e1
      cases v <;> rfl

end L2

namespace L2
open PySem PySem.Spec PyProof.Rows

/-- a value, without the heap -/
inductive V where
  | non | bl (b : Bool) | int (i : Int) | str (x : Str) | byt (b : Array UInt8) | flt (b : UInt64) | ref (a : Addr) | ty (n : String)
  deriving DecidableEq

def RelV : V → Value → Prop
  | .non, u => u = Value.none
  | .bl b, u => u = Value.bool b
  | .int i, u => ∃ t, u = Value.int i t
  | .str x, u => ∃ t, u = Value.str x t
  | .byt b, u => ∃ t, u = Value.bytes b t
  | .flt b, u => ∃ t, u = Value.float b t
  | .ref a, u => u = Value.ref a
  | .ty n, u => u = Value.type n

abbrev Vals : List V → List Value → Prop := Paired RelV
theorem Vals.length {xs : List V} {us : List Value} (r : Vals xs us) : xs.length = us.length := Paired.length r
theorem Vals.get : ∀ {xs : List V} {us : List Value} {i : Nat} {x : V}, Vals xs us → xs[i]? = some x → ∃ u, us[i]? = some u ∧ RelV x u
  | _, _, _, _, .nil, e => by simp at e
  | _, _, 0, _, .cons r _, e => by simp at e; subst e; exact ⟨_, rfl, r⟩
  | _, _, i + 1, x, .cons _ t, e => by
    obtain ⟨u, h1, h2⟩ := Vals.get (i := i) (x := x) t (by simpa using e)
    exact ⟨u, by simpa using h1, h2⟩
theorem Vals.set {x : V} {u : Value} (r : RelV x u) : ∀ {xs : List V} {us : List Value} (i : Nat), Vals xs us → Vals (xs.set i x) (us.set i u)
  | _, _, _, .nil => .nil
  | _, _, 0, .cons _ t => .cons r t
  | _, _, i + 1, .cons q t => .cons q (Vals.set r i t)
theorem Vals.append : ∀ {xs ys : List V} {us ws : List Value}, Vals xs us → Vals ys ws → Vals (xs ++ ys) (us ++ ws)
  | _, _, _, _, .nil, s => s
  | _, _, _, _, .cons r t, s => .cons r (Vals.append t s)
theorem Vals.take : ∀ {xs : List V} {us : List Value} (n : Nat), Vals xs us → Vals (xs.take n) (us.take n)
  | _, _, 0, _ => .nil
  | _, _, _ + 1, .nil => .nil
  | _, _, n + 1, .cons r t => .cons r (Vals.take n t)
theorem Vals.drop : ∀ {xs : List V} {us : List Value} (n : Nat), Vals xs us → Vals (xs.drop n) (us.drop n)
  | _, _, 0, r => r
  | _, _, _ + 1, .nil => .nil
  | _, _, n + 1, .cons _ t => Vals.drop n t

def RelO : Option V → Option Value → Prop
  | some v, some u => RelV v u
  | none, none => True
  | _, _ => False
def KV {κ : Type} : List (κ × V) → List (κ × Value) → Prop := Paired fun (p : κ × V) (q : κ × Value) => p.1 = q.1 ∧ RelV p.2 q.2

/-- a key of a dict (00_mix): an int or a text -/
def kV : Key → V
  | .inl i => .int i
  | .inr x => .str x

/-- what stands at a tracked address -/
inductive HO where
  /-- a list -/
  | lst (xs : List V)
  /-- a tuple (never changes) -/
  | tup (xs : List V)
  /-- a dict whose keys are ints and texts; one whose keys are tuples of ints and texts (the empty one is both) -/
  | dK (kvs : List (Key × V)) | dT (kvs : List (List Key × V))
  /-- a set of ints: its members, its size -/
  | set (S : Int → Bool) (n : Nat)
  /-- an instance of the class at C, its dict at dx, its attributes -/
  | ins (C dx : Addr) (fs : List (Str × V))
  /-- the dict of the instance at x -/
  | own (x : Addr)
  /-- the dict of an exception -/
  | xd (fs : List (Str × V))
  /-- a bound method, f of x -/
  | met (f x : Addr)
  /-- a range object lo, lo + 1, .. below hi -/
  | rng (lo hi : Int)
  /-- a thing that is known to the object (the script; a dict while a loop walks it): read, never written while it is so -/
  | frz (o : Obj) (u : HO)
  /-- a code object's table -/
  | tbl (ps : Array Value)
  /-- any other thing, by what is true of its one object (a def of one's own: SetO a S n := HO.ext fun h => ..) -/
  | ext (φ : Heap → Prop)

abbrev Hp := Addr → Option HO
def upd (H : Hp) (a : Addr) (o : HO) : Hp := fun b => if b = a then some o else H b
theorem upd_same {H : Hp} {a : Addr} {o : HO} : upd H a o a = some o := by unfold upd; rw [if_pos rfl]
theorem upd_ne {H : Hp} {a b : Addr} {o : HO} (h : b ≠ a) : upd H a o b = H b := by unfold upd; rw [if_neg h]
/-- two objects of different content stand apart -/
theorem ne_of {H : Hp} {a b : Addr} {o u : HO} (h : H a = some o) (h' : H b = some u) (d : o ≠ u) : a ≠ b := by
  intro e; subst e; rw [h] at h'; exact d (Option.some.inj h')
theorem ne_of_none {H : Hp} {a b : Addr} {o : HO} (h : H a = some o) (h' : H b = none) : a ≠ b := by
  intro e; subst e; rw [h] at h'; cases h'

section
variable (P : Program) (w : World)
def ObjOk (H : Hp) (h : Heap) (a : Addr) : HO → Prop
  | .lst xs => xs.length ≤ sizeLine ∧ ∃ (its : List Value) (n : Nat), Vals xs its ∧ h.get? a = some { cls := .type "list", data := .seq its.toArray n }
  | .tup xs => xs.length ≤ sizeLine ∧ ∃ its : List Value, Vals xs its ∧ IsTup h a its.toArray
  | .dK kvs => kvs.length ≤ sizeLine ∧ (a == sysModules) = false ∧ ∃ vs, KV kvs vs ∧ h.DictOf (mixKind P w) a vs
  | .dT kvs => kvs.length ≤ sizeLine ∧ (a == sysModules) = false ∧ ∃ xs : List (List Key × Addr × Value),
      Paired (fun (p : List Key × V) (q : List Key × Addr × Value) => p.1 = q.1 ∧ H q.2.1 = some (.tup (p.1.map kV)) ∧ RelV p.2 q.2.2) kvs xs ∧
      ∃ o es ep, h.get? a = some o ∧ o.ExactDict ∧ o.data = .dict es ep ∧ es.toList = xs.map (entryOfKey (tupleKind (mixKind P w))) ∧ (xs.map (·.1)).Nodup
  | .set S n => h.SetOf (intKind P w) a S n
  | .ins C dx fs => H dx = some (.own a) ∧ fs.length ≤ 1000 ∧ dx ≠ a ∧ h.get? a = some (PySem.W.instObj C dx) ∧
      ∃ mA, h.Ns1 dx mA ∧ (∀ f, RelO (fs.lookup f) (mA f)) ∧ PySem.Within mA (fs.map (·.1))
  | .own _ => ∃ o, h.get? a = some o
  | .xd fs => ∃ mA, h.Ns1 a mA ∧ ∀ f, RelO (fs.lookup f) (mA f)
  | .rng lo hi => ∃ t u v, h.get? a = some { cls := .type "range", data := .fields #[.int lo t, .int hi u, .int 1 v] }
  | .frz o u => h.get? a = some o ∧ ObjOk H h a u
  | .tbl ps => h.get? a = some { cls := .none, data := .fields ps }
  | .met f x => h.get? a = some (PySem.W.methodObj (.ref f) (.ref x))
  | .ext φ => φ h ∧ (∃ o, h.get? a = some o) ∧ ∀ h1 h2 : Heap, φ h1 → (∀ o, h1.get? a = some o → h2.get? a = some o) → φ h2
/-- the abstract heap is held -/
def HOk (H : Hp) (h : Heap) : Prop := ∀ a o, H a = some o → ObjOk P w H h a o
end

section
variable {P : Program} {w : World} {H H' : Hp} {h h' : Heap} {a : Addr} {o : HO}
theorem ObjOk.lt (x : ObjOk P w H h a o) : a < h.objs.size := by
  cases o with
  | lst xs => obtain ⟨_, _, _, _, e⟩ := x; exact Heap.lt_size e
  | tup xs => obtain ⟨_, _, _, p⟩ := x; exact p.lt
  | dK kvs => obtain ⟨_, _, _, _, o, _, _, e, _⟩ := x; exact Heap.lt_size e
  | dT kvs => obtain ⟨_, _, _, _, o, _, _, e, _⟩ := x; exact Heap.lt_size e
  | set S n => obtain ⟨o, _, _, _, e, _⟩ := x; exact Heap.lt_size e
  | ins C dx fs => obtain ⟨_, _, _, e, _⟩ := x; exact Heap.lt_size e
  | own y => obtain ⟨_, e⟩ := x; exact Heap.lt_size e
  | xd fs => obtain ⟨_, ⟨_, _, _, e, _⟩, _⟩ := x; exact Heap.lt_size e
  | rng lo hi => obtain ⟨_, _, _, e⟩ := x; exact Heap.lt_size e
  | frz ob u => obtain ⟨e, _⟩ := x; exact Heap.lt_size e
  | tbl ps => exact Heap.lt_size (show h.get? a = some _ from x)
  | met f y => exact Heap.lt_size (show h.get? a = some _ from x)
  | ext φ => obtain ⟨_, ⟨_, e⟩, _⟩ := x; exact Heap.lt_size e
theorem Paired.mapP {α β : Type} {F G : α → β → Prop} : ∀ {l₁ : List α} {l₂ : List β}, Paired F l₁ l₂ → (∀ a b, F a b → G a b) → Paired G l₁ l₂
  | _, _, .nil, _ => .nil
  | _, _, .cons r t, f => .cons (f _ _ r) (Paired.mapP t f)
/-- what an object's description leans on: its own object, its own dict, the tuples -/
theorem ObjOk.stay (x : ObjOk P w H h a o) (k : ∀ b u, (b = a ∨ H b = some (.own a)) → h.get? b = some u → h'.get? b = some u)
    (ho : ∀ b, H b = some (.own a) → H' b = some (.own a)) (ht : ∀ b xs, H b = some (.tup xs) → H' b = some (.tup xs)) : ObjOk P w H' h' a o := by
  induction o with
  | lst xs => obtain ⟨z, its, n, r, e⟩ := x; exact ⟨z, its, n, r, k _ _ (.inl rfl) e⟩
  | tup xs => obtain ⟨z, its, r, ob, e, c⟩ := x; exact ⟨z, its, r, ob, k _ _ (.inl rfl) e, c⟩
  | dK kvs => obtain ⟨z, y, vs, r, ob, es, ep, e, c⟩ := x; exact ⟨z, y, vs, r, ob, es, ep, k _ _ (.inl rfl) e, c⟩
  | dT kvs =>
    obtain ⟨z, y, xs, r, ob, es, ep, e, c⟩ := x
    exact ⟨z, y, xs, Paired.mapP r fun p q z => ⟨z.1, ht _ _ z.2.1, z.2.2⟩, ob, es, ep, k _ _ (.inl rfl) e, c⟩
  | set S n => obtain ⟨ob, es, ep, t, e, c⟩ := x; exact ⟨ob, es, ep, t, k _ _ (.inl rfl) e, c⟩
  | ins C dx fs =>
    obtain ⟨d, z, ne, e, mA, ⟨od, es, ep, e2, c⟩, r⟩ := x
    exact ⟨ho _ d, z, ne, k _ _ (.inl rfl) e, mA, ⟨od, es, ep, k _ _ (.inr d) e2, c⟩, r⟩
  | own y => obtain ⟨ob, e⟩ := x; exact ⟨ob, k _ _ (.inl rfl) e⟩
  | xd fs => obtain ⟨mA, ⟨od, es, ep, e, c⟩, r⟩ := x; exact ⟨mA, ⟨od, es, ep, k _ _ (.inl rfl) e, c⟩, r⟩
  | rng lo hi => obtain ⟨t, u, v, e⟩ := x; exact ⟨t, u, v, k _ _ (.inl rfl) e⟩
  | frz ob u ih => obtain ⟨e, q⟩ := x; exact ⟨k _ _ (.inl rfl) e, ih q⟩
  | tbl ps =>
    have e : h.get? a = some { cls := .none, data := .fields ps } := x
    show h'.get? a = some { cls := .none, data := .fields ps }
    exact k a _ (.inl rfl) e
  | met f y =>
    have e : h.get? a = some (PySem.W.methodObj (.ref f) (.ref y)) := x
    show h'.get? a = some (PySem.W.methodObj (.ref f) (.ref y))
    exact k a _ (.inl rfl) e
  | ext φ => obtain ⟨p, ⟨o, e⟩, st⟩ := x; exact ⟨st _ _ p fun o q => k _ _ (.inl rfl) q, ⟨o, k _ _ (.inl rfl) e⟩, st⟩
theorem HOk.lt (x : HOk P w H h) (e : H a = some o) : a < h.objs.size := (x a o e).lt
theorem HOk.fresh (x : HOk P w H h) (e : h.objs.size ≤ a) : H a = none := by
  cases q : H a with
  | none => rfl
  | some u => exact absurd (Nat.lt_of_lt_of_le (x.lt q) e) (Nat.lt_irrefl _)
/-- every object of the heap is kept -/
theorem HOk.kept (x : HOk P w H h) (k : ∀ b u, h.get? b = some u → h'.get? b = some u) : HOk P w H h' := fun a o e =>
  (x a o e).stay (fun b u _ q => k b u q) (fun _ q => q) fun _ _ q => q
/-- a new object is laid and tracked -/
theorem HOk.laid (x : HOk P w H h) (k : ∀ b u, h.get? b = some u → h'.get? b = some u) (hp : h.objs.size ≤ a) (new : ObjOk P w (upd H a o) h' a o) : HOk P w (upd H a o) h' := fun b u e => by
  have hn := x.fresh hp
  by_cases hb : b = a
  · subst hb; rw [upd_same] at e; cases e; exact new
  · rw [upd_ne hb] at e
    exact (x b u e).stay (fun c v _ q => k c v q) (fun c q => by rw [upd_ne (ne_of_none q hn)]; exact q) fun c xs q => by rw [upd_ne (ne_of_none q hn)]; exact q
end

/-- what may be read as u: it is u, or a known u -/
def Rd (H : Hp) (a : Addr) (u : HO) : Prop := H a = some u ∨ ∃ o, H a = some (.frz o u)
theorem Rd.ok {P : Program} {w : World} {H : Hp} {h : Heap} {a : Addr} {u : HO} (r : Rd H a u) (x : HOk P w H h) : ObjOk P w H h a u := by
  rcases r with r | ⟨o, r⟩
  · exact x a u r
  · obtain ⟨_, q⟩ := x a _ r
    exact q
/-- what may be written -/
def Mut : Option HO → Prop
  | some (.lst _) => True
  | some (.dK _) => True
  | some (.dT _) => True
  | some (.set _ _) => True
  | some (.ins _ _ _) => True
  | some (.ext _) => True
  | _ => False
section
variable {P : Program} {w : World} {H : Hp} {h h' : Heap} {x e : Addr} {o' : HO}
/-- the object at e is changed: x itself, or the dict of the instance x -/
theorem HOk.write (ok : HOk P w H h) (mu : Mut (H x)) (he : e = x ∨ H e = some (.own x)) (k : ∀ b u, b ≠ e → h.get? b = some u → h'.get? b = some u) (heo : ∃ u, h'.get? e = some u)
    (new : ObjOk P w (upd H x o') h' x o') : HOk P w (upd H x o') h' := fun b u q => by
  have nown : ∀ c y, H c = some (.own y) → c ≠ x := fun c y r z => by subst z; rw [r] at mu; exact mu
  have ntup : ∀ c xs, H c = some (.tup xs) → c ≠ x := fun c xs r z => by subst z; rw [r] at mu; exact mu
  by_cases hb : b = x
  · subst hb; rw [upd_same] at q; cases q; exact new
  · rw [upd_ne hb] at q
    by_cases hbe : b = e
    · have q' : H b = some (.own x) := by
        rcases he with z | z
        · exact absurd (hbe.trans z) hb
        · rw [hbe]; exact z
      rw [q] at q'; cases q'
      obtain ⟨v, hv⟩ := heo
      exact ⟨v, by rw [hbe]; exact hv⟩
    · refine (ok b u q).stay (fun c v hc r => k c v ?_ r) (fun c r => by rw [upd_ne (nown c b r)]; exact r) fun c xs r => by rw [upd_ne (ntup c xs r)]; exact r
      rcases hc with rfl | hc
      · exact hbe
      · rintro rfl
        rcases he with z | z
        · exact nown c b hc z
        · rw [hc] at z; cases z; exact hb rfl
end

/-! ### kept unless tracked; of the frames at fs (the callers') the slots may change (an exception that passes writes there); of the records at ex (iterators) nothing is said -/
structure Un (fs ex : List Addr) (H H' : Hp) (h h' : Heap) : Prop where
  keep : ∀ b o, h.get? b = some o → H b = none → b ∉ fs → b ∉ ex → h'.get? b = some o
  slot : ∀ b o, h.get? b = some o → H b = none → b ∈ fs → b ∉ ex → ∃ sl, h'.get? b = some { o with slots := sl }
  free : ∀ b o, h.get? b = some o → H b = none → b ∉ ex → H' b = none
  there : ∀ b o, h.get? b = some o → b ∉ ex → ∃ o', h'.get? b = some o'
  tups : ∀ b xs, H b = some (.tup xs) → H' b = some (.tup xs)
  frzs : ∀ b o u, H b = some (.frz o u) → H' b = some (.frz o u)
  tbls : ∀ b ps, H b = some (.tbl ps) → ∃ more, H' b = some (.tbl (ps ++ more))
section
variable {fs fs' ex ex' : List Addr} {H H1 H2 : Hp} {h h1 h2 h' : Heap} {a x e : Addr} {o : HO}
theorem Un.any (u : Un fs ex H H1 h h1) {b : Addr} {ob : Obj} (q : h.get? b = some ob) (n : H b = none) (hx : b ∉ ex) : ∃ sl, h1.get? b = some { ob with slots := sl } := by
  by_cases hb : b ∈ fs
  · exact u.slot b ob q n hb hx
  · exact ⟨ob.slots, u.keep b ob q n hb hx⟩
theorem Un.kept (k : ∀ b u, h.get? b = some u → h'.get? b = some u) : Un fs ex H H h h' :=
  ⟨fun b ob q _ _ _ => k b ob q, fun b ob q _ _ _ => ⟨ob.slots, k b ob q⟩, fun _ _ _ n _ => n, fun b ob q _ => ⟨ob, k b ob q⟩, fun _ _ q => q, fun _ _ _ q => q, fun _ ps q => ⟨#[], by rw [q]; simp⟩⟩
theorem Un.refl : Un fs ex H H h h := Un.kept fun _ _ q => q
theorem Un.laid (k : ∀ b u, h.get? b = some u → h'.get? b = some u) (hp : h.objs.size ≤ a) (hn : H a = none) : Un fs ex H (upd H a o) h h' where
  keep := fun b u q _ _ _ => k b u q
  slot := fun b u q _ _ _ => ⟨u.slots, k b u q⟩
  free := fun b u q n _ => by rw [upd_ne (Nat.ne_of_lt (Nat.lt_of_lt_of_le (Heap.lt_size q) hp))]; exact n
  there := fun b u q _ => ⟨u, k b u q⟩
  tups := fun b xs q => by rw [upd_ne (ne_of_none q hn)]; exact q
  frzs := fun b u xs q => by rw [upd_ne (ne_of_none q hn)]; exact q
  tbls := fun b ps q => ⟨#[], by rw [upd_ne (ne_of_none q hn), q]; simp⟩
theorem Un.write (mu : Mut (H x)) (he : e = x ∨ H e = some (.own x)) (k : ∀ b u, b ≠ e → h.get? b = some u → h'.get? b = some u) (heo : ∃ u, h'.get? e = some u) : Un fs ex H (upd H x o) h h' := by
  have hx : ∀ b, H b = none → b ≠ x := fun b n z => by subst z; rw [n] at mu; exact mu
  have hb : ∀ b, H b = none → b ≠ e := fun b n z => by
    subst z
    rcases he with r | r
    · exact hx b n r
    · rw [n] at r; cases r
  have hm : ∀ b u, H b = some u → ¬ Mut (some u) → b ≠ x := fun b u q nm z => by subst z; rw [q] at mu; exact nm mu
  refine ⟨fun b u q n _ _ => k b u (hb b n) q, fun b u q n _ _ => ⟨u.slots, k b u (hb b n) q⟩, fun b u q n _ => by rw [upd_ne (hx b n)]; exact n, fun b u q _ => ?_,
    fun b xs q => by rw [upd_ne (hm b _ q fun z => z)]; exact q, fun b u xs q => by rw [upd_ne (hm b _ q fun z => z)]; exact q, fun b ps q => ⟨#[], by rw [upd_ne (hm b _ q fun z => z), q]; simp⟩⟩
  by_cases hbe : b = e
  · subst hbe; exact heo
  · exact ⟨u, k b u hbe q⟩
end

/-! ### the heap without what is tracked -/
def trk (h : Heap) (H : Hp) : List Addr := (List.range h.objs.size).filter fun a => (H a).isSome
def hidT (h : Heap) (H : Hp) : Heap := PySem.W.hideAll h (trk h H)
theorem hidT_size (h : Heap) (H : Hp) : (hidT h H).objs.size = h.objs.size := PySem.W.hideAll_size _ _
theorem hidT_get {h : Heap} {H : Hp} {b : Addr} {o : Obj} (e : h.get? b = some o) (n : H b = none) : (hidT h H).get? b = some o :=
  PySem.W.hideAll_get _ e fun hm => by
    have q : (H b).isSome = true := (List.mem_filter.mp hm).2
    rw [n] at q; simp at q
theorem of_hidT {h : Heap} {H : Hp} {b : Addr} {o : Obj} (e : (hidT h H).get? b = some o) : h.get? b = some o ∧ H b = none := by
  have e' : h.get? b = some o := PySem.W.of_hideAll (trk h H) e
  refine ⟨e', ?_⟩
  cases q : H b with
  | none => rfl
  | some x =>
    have hm : b ∈ trk h H := List.mem_filter.mpr ⟨List.mem_range.mpr (Heap.lt_size e'), by simp [q]⟩
    have z : (hidT h H).get? b = none := PySem.W.hideAll_none (trk h H) hm
    rw [z] at e; cases e

/-! ### OpenK's ledger, filled with every new object but one -/
end L2

namespace L2
open PySem PySem.Spec PyProof.Rows

/-- the module's facts, over the base: the heap at the law's entry without what is tracked there -/
structure Mod (K : PySem.W.Frag) (mg : Str → Option Value) (base : Heap) : Prop where
  kin : K.In base
  glob : base.Ns mainGlobals mg
  blt : ∃ mb, base.Ns builtinsNs mb ∧ ∀ x : Str, x ≠ "__name__" → mb x = bootBuiltins x
  nolimit : base.NoLimit

/-- the context: a def's body (or a comprehension's block) running. base: fixed through the whole law; s₀, H₀: the entry; outer: the frames whose slots others may change (a def's callers); stack: all frames that run;
   ex: iterators that were made ahead of the entry and are walked here (a comprehension's); fn: the names whose cells were made at the entry (a def: all; a comprehension's block: its own); calm: not within an except suite; pn: pins that every state bears; xe: what is wanted of an exception that leaves the code -/
structure Cx where
  prog : Program
  w : World
  K : PySem.W.Frag
  mg : Str → Option Value
  base : Heap
  A : Around
  N : List Str
  s₀ : Shared
  H₀ : Hp
  env : Env
  outer : List Env
  stack : List Env
  ex : List Addr
  fn : Str → Bool
  calm : Bool
  pn : List (Addr × Obj)
  xe : Value → Shared → Prop
/-- the callers' frames -/
def frs (l : List Env) : List Addr := l.filterMap (·.frame)
abbrev Cx.fs (X : Cx) : List Addr := frs X.outer

def Vis (sc : Scope) (x : Str) : Prop := sc.names.lookup x = some .local ∨ sc.names.lookup x = some .cell ∨ sc.names.lookup x = some .free
def Loc (sc : Scope) (x : Str) : Prop := sc.names.lookup x = some .local ∨ sc.names.lookup x = some .cell
def Look (env : Env) (h : Heap) (m : Str → Option Value) (x : Str) (u : Value) : Prop :=
  (env.kindOf x = some .local ∧ m x = some u) ∨ ((env.kindOf x = some .cell ∨ env.kindOf x = some .free) ∧ ∃ c, env.cells.lookup x = some c ∧ h.IsCell c (some u))

structure Cx.Ok (X : Cx) : Prop where
  mod : Mod X.K X.mg X.base
  kind : X.env.scope.kind = .function
  glob : X.env.globals = mainGlobals
  blt : X.env.builtins = builtinsNs
  above : X.s₀.heap.objs.size ≤ X.env.locals
  inj : ∀ x y c, X.env.cells.lookup x = some c → X.env.cells.lookup y = some c → x = y
  has : ∀ x, (X.env.kindOf x = some .cell ∨ X.env.kindOf x = some .free) → ∃ c, X.env.cells.lookup x = some c
  cab : ∀ x c, X.fn x = true → X.env.cells.lookup x = some c → X.s₀.heap.objs.size ≤ c
  hd : X.calm = true → X.A.handled = none
  frames : X.A.frames = some X.stack
  stk : X.stack = X.outer ∨ (X.stack = X.env :: X.outer ∧ X.env.frame = some X.env.locals)
  exf : ∀ b ∈ X.ex, b ≠ X.env.locals ∧ ∀ x c, X.env.cells.lookup x = some c → c ≠ b
  bs : ∀ b o, X.base.get? b = some o → X.s₀.heap.get? b = some o ∧ X.H₀ b = none
  bsz : X.base.objs.size ≤ X.s₀.heap.objs.size
  noex : ∀ b o, X.base.get? b = some o → b ∉ X.ex
  exfs : ∀ b ∈ X.ex, b ∉ X.fs
  funs : X.s₀.heap.FunFrames X.base X.outer
  frf : ∀ b ∈ X.fs, X.H₀ b = none

structure Inv (X : Cx) (pins : List (Addr × Obj)) (σ : List (Option V)) (H : Hp) (s : Shared) : Prop where
  ok : X.Ok
  os : s.os = X.s₀.os
  bare : AllBare s.gens
  base : Un X.fs X.ex X.H₀ H X.s₀.heap s.heap
  loc : ∃ m, s.heap.Ns X.env.locals m ∧ ∀ (i : Nat) (x : Str) (v : V), X.N[i]? = some x → σ[i]? = some (some v) → Vis X.env.scope x → ∃ u, RelV v u ∧ Look X.env s.heap m x u
  cell : ∀ x c, X.env.cells.lookup x = some c → ∃ v, s.heap.IsCell c v
  free : H X.env.locals = none
  freeC : ∀ x c, X.env.cells.lookup x = some c → H c = none
  pin : ∀ p ∈ X.pn ++ pins, s.heap.get? p.1 = some p.2 ∧ H p.1 = none ∧ p.1 ≠ X.env.locals ∧ p.1 ∉ X.fs ∧ ∀ v, p.2.data ≠ .cell v
  hok : HOk X.prog X.w H s.heap
  len : σ.length = X.N.length

section
variable {X : Cx} {pins : List (Addr × Obj)} {σ : List (Option V)} {H H' : Hp} {s : Shared} {h' : Heap}

theorem Cx.Ok.nofr (ok : X.Ok) {b : Addr} {o : Obj} (e : X.base.get? b = some o) : b ∉ X.fs := fun hb => by
  have := (ok.funs.mem hb).1
  rw [e] at this; cases this
theorem Inv.bs (I : Inv X pins σ H s) : ∀ b o, X.base.get? b = some o → s.heap.get? b = some o ∧ H b = none := fun b o e =>
  ⟨I.base.keep b o (I.ok.bs b o e).1 (I.ok.bs b o e).2 (I.ok.nofr e) (I.ok.noex b o e), I.base.free b o (I.ok.bs b o e).1 (I.ok.bs b o e).2 (I.ok.noex b o e)⟩
theorem Inv.bk (I : Inv X pins σ H s) : ∀ b o, X.base.get? b = some o → s.heap.get? b = some o := fun b o e => (I.bs b o e).1
theorem Inv.mod (I : Inv X pins σ H s) : Mod X.K X.mg X.base := I.ok.mod
theorem Inv.kIn (I : Inv X pins σ H s) : X.K.In s.heap := I.ok.mod.kin.keeps I.bk
theorem Inv.lt (I : Inv X pins σ H s) : X.env.locals < s.heap.objs.size := let ⟨_, hn, _⟩ := I.loc; hn.lt
theorem Inv.sz (I : Inv X pins σ H s) : X.s₀.heap.objs.size ≤ s.heap.objs.size := Nat.le_trans I.ok.above (Nat.le_of_lt I.lt)
theorem Inv.nofs (I : Inv X pins σ H s) {a : Addr} (h : s.heap.objs.size ≤ a) : a ∉ X.fs := fun hb => by
  obtain ⟨_, o, ho, _⟩ := I.ok.funs.mem hb
  exact absurd (Nat.lt_of_lt_of_le (Heap.lt_size ho) (Nat.le_trans I.sz h)) (Nat.lt_irrefl _)
theorem Inv.cne (I : Inv X pins σ H s) : ∀ x c, X.env.cells.lookup x = some c → c ≠ X.env.locals := fun x c e z => by
  obtain ⟨v, o, ho, hd⟩ := I.cell x c e
  obtain ⟨m, ⟨o', es, ep, ho', hd', _⟩, _⟩ := I.loc
  rw [z, ho'] at ho; cases ho; rw [hd'] at hd; cases hd
theorem Inv.funs (I : Inv X pins σ H s) : s.heap.FunFrames X.base X.outer := by
  have all : ∀ (l : List Env), (∀ b ∈ frs l, b ∈ X.fs) → X.s₀.heap.FunFrames X.base l → s.heap.FunFrames X.base l := by
    intro l
    induction l with
    | nil => intro _ _; trivial
    | cons env r ih =>
      intro hs hl
      obtain ⟨hk, ⟨L, o, hf, hn, ho, hd⟩, hr⟩ := hl
      have hL : L ∈ X.fs := hs L (by unfold frs; rw [List.filterMap_cons, hf]; exact List.mem_cons_self)
      obtain ⟨sl, e⟩ := I.base.slot L o ho (I.ok.frf L hL) hL fun z => I.ok.exfs L z hL
      exact ⟨hk, ⟨L, _, hf, hn, e, hd⟩, ih (fun b hb => hs b (by unfold frs; rw [List.filterMap_cons, hf]; exact List.mem_cons_of_mem _ hb)) hr⟩
  exact all X.outer (fun _ hb => hb) I.ok.funs

/-- the frames that run, for a call -/
theorem Inv.stack (I : Inv X pins σ H s) : s.heap.FunFrames X.base X.stack := by
  rcases I.ok.stk with e | ⟨e, hf⟩
  · rw [e]; exact I.funs
  · rw [e]
    obtain ⟨m, hn, _⟩ := I.loc
    refine .cons (by rw [I.ok.kind]; decide) hf hn ?_ I.funs
    exact Heap.get?_none_of_le (Nat.le_trans I.ok.bsz I.ok.above)
theorem Inv.stkSub (I : Inv X pins σ H s) : ∀ b ∈ frs X.stack, b ∈ X.env.locals :: X.fs := fun b hb => by
  rcases I.ok.stk with e | ⟨e, hf⟩
  · rw [e] at hb; exact List.mem_cons_of_mem _ hb
  · rw [e] at hb
    unfold frs at hb
    rw [List.filterMap_cons, hf] at hb
    exact hb
theorem Inv.stkFree (I : Inv X pins σ H s) : ∀ b ∈ frs X.stack, H b = none := fun b hb => by
  rcases List.mem_cons.mp (I.stkSub b hb) with e | hb
  · rw [e]; exact I.free
  · obtain ⟨_, o, ho, _⟩ := I.ok.funs.mem hb
    exact I.base.free b o ho (I.ok.frf b hb) fun z => I.ok.exfs b z hb

/-- THE STEP: the untracked objects but the frame and the records at ch are kept (the callers' frames up to slots), the frame's map is kept, the new abstract heap is held -/
theorem Inv.step {g' : Array GenState} {t' : Nat} {d' : Drawn} {ch : List Addr} (I : Inv X pins σ H s)
    (hch : ∀ b ∈ ch, (b ∈ X.ex ∨ X.s₀.heap.objs.size ≤ b) ∧ b ≠ X.env.locals ∧ (∀ x c, X.env.cells.lookup x = some c → c ≠ b) ∧ ∀ p ∈ X.pn ++ pins, p.1 ≠ b)
    (keep : ∀ b o, b ≠ X.env.locals → b ∉ X.fs → b ∉ ch → s.heap.get? b = some o → H b = none → h'.get? b = some o)
    (slot : ∀ b o, b ≠ X.env.locals → b ∈ X.fs → b ∉ ch → s.heap.get? b = some o → H b = none → ∃ sl, h'.get? b = some { o with slots := sl }) (free : ∀ b o, b ∉ ch → s.heap.get? b = some o → H b = none → H' b = none)
    (there : ∀ b o, b ∉ ch → s.heap.get? b = some o → ∃ o', h'.get? b = some o')
    (tups : ∀ b xs, H b = some (.tup xs) → H' b = some (.tup xs)) (frzs : ∀ b o u, H b = some (.frz o u) → H' b = some (.frz o u)) (tbls : ∀ b ps, H b = some (.tbl ps) → ∃ more, H' b = some (.tbl (ps ++ more)))
    (ns : ∀ m, s.heap.Ns X.env.locals m → h'.Ns X.env.locals m) (hok : HOk X.prog X.w H' h') (hg : AllBare g') :
    Inv X pins σ H' { s with heap := h', gens := g', drawn := d', toks := t' } := by
  have neL : ∀ b o, X.s₀.heap.get? b = some o → b ≠ X.env.locals := fun b o e => Nat.ne_of_lt (Nat.lt_of_lt_of_le (Heap.lt_size e) I.ok.above)
  have neC : ∀ b o, X.s₀.heap.get? b = some o → b ∉ X.ex → b ∉ ch := fun b o e hx hb => by
    rcases (hch b hb).1 with z | z
    · exact hx z
    · exact absurd (Nat.lt_of_lt_of_le (Heap.lt_size e) z) (Nat.lt_irrefl _)
  have cellK : ∀ x c, X.env.cells.lookup x = some c → ∀ v, s.heap.IsCell c v → h'.IsCell c v := fun x c e v ⟨o, ho, hd⟩ => by
    have nch : c ∉ ch := fun z => (hch c z).2.2.1 x c e rfl
    by_cases hc : c ∈ X.fs
    · obtain ⟨sl, q⟩ := slot c o (I.cne x c e) hc nch ho (I.freeC x c e)
      exact ⟨_, q, hd⟩
    · exact ⟨o, keep c o (I.cne x c e) hc nch ho (I.freeC x c e), hd⟩
  refine ⟨I.ok, I.os, hg, ⟨fun b o e n hb hx => ?_, fun b o e n hb hx => ?_, fun b o e n hx => ?_, fun b o e hx => ?_, fun b xs e => tups b xs (I.base.tups b xs e), fun b o xs e => frzs b o xs (I.base.frzs b o xs e), fun b ps e => ?_⟩, ?_, fun x c e => ?_, ?_, fun x c e => ?_, fun p hp => ?_, hok, I.len⟩
  · exact keep b o (neL b o e) hb (neC b o e hx) (I.base.keep b o e n hb hx) (I.base.free b o e n hx)
  · obtain ⟨sl, e1⟩ := I.base.slot b o e n hb hx
    obtain ⟨sl', e2⟩ := slot b _ (neL b o e) hb (neC b o e hx) e1 (I.base.free b o e n hx)
    exact ⟨sl', e2⟩
  · obtain ⟨o', e1⟩ := I.base.there b o e hx
    exact free b o' (neC b o e hx) e1 (I.base.free b o e n hx)
  · obtain ⟨o', e1⟩ := I.base.there b o e hx
    exact there b o' (neC b o e hx) e1
  · obtain ⟨m1, e1⟩ := I.base.tbls b ps e
    obtain ⟨m2, e2⟩ := tbls b _ e1
    exact ⟨m1 ++ m2, by rw [e2, Array.append_assoc]⟩
  · obtain ⟨m, hn, hl⟩ := I.loc
    refine ⟨m, ns m hn, fun i x v e1 e2 e3 => ?_⟩
    obtain ⟨u, r, l⟩ := hl i x v e1 e2 e3
    refine ⟨u, r, ?_⟩
    rcases l with l | ⟨k, c, e, z⟩
    · exact .inl l
    · exact .inr ⟨k, c, e, cellK x c e _ z⟩
  · obtain ⟨v, z⟩ := I.cell x c e
    exact ⟨v, cellK x c e v z⟩
  · obtain ⟨m, ⟨o, _, _, ho, _⟩, _⟩ := I.loc
    exact free _ o (fun z => (hch _ z).2.1 rfl) ho I.free
  · obtain ⟨v, o, ho, hd⟩ := I.cell x c e
    exact free c o (fun z => (hch c z).2.2.1 x c e rfl) ho (I.freeC x c e)
  · obtain ⟨e, n, ne, nf, d⟩ := I.pin p hp
    have nch : p.1 ∉ ch := fun z => (hch p.1 z).2.2.2 p hp rfl
    exact ⟨keep p.1 p.2 ne nf nch e n, free p.1 p.2 nch e n, ne, nf, d⟩
/-- .. where the frame's own object is kept too -/
theorem Inv.un {t' : Nat} (I : Inv X pins σ H s) (u : Un X.fs [] H H' s.heap h') (hok : HOk X.prog X.w H' h') : Inv X pins σ H' { s with heap := h', toks := t' } := by
  obtain ⟨m, ⟨o, es, ep, ho, r⟩, _⟩ := id I.loc
  obtain ⟨sl, hL⟩ := u.any ho I.free (by simp)
  exact I.step (g' := s.gens) (d' := s.drawn) (ch := []) (fun _ z => nomatch z) (fun b o _ hb _ e n => u.keep b o e n hb (by simp)) (fun b o _ hb _ e n => u.slot b o e n hb (by simp)) (fun b o _ e n => u.free b o e n (by simp)) (fun b o _ e => u.there b o e (by simp)) u.tups u.frzs u.tbls (fun m' hm => by
    obtain ⟨o', es', ep', ho', r'⟩ := hm
    rw [ho] at ho'; cases ho'
    exact ⟨_, es', ep', hL, r'⟩) hok I.bare
/-- behind a call (or a comprehension's block): the slots of this frame may have changed too, the records at ch may have turned -/
theorem Inv.call {g' : Array GenState} {t' : Nat} {d' : Drawn} {ch : List Addr} (I : Inv X pins σ H s) (u : Un (frs X.stack) ch H H' s.heap h') (hok : HOk X.prog X.w H' h') (hg : AllBare g')
    (hch : ∀ b ∈ ch, (b ∈ X.ex ∨ X.s₀.heap.objs.size ≤ b) ∧ b ≠ X.env.locals ∧ (∀ x c, X.env.cells.lookup x = some c → c ≠ b) ∧ ∀ p ∈ X.pn ++ pins, p.1 ≠ b) :
    Inv X pins σ H' { s with heap := h', gens := g', drawn := d', toks := t' } := by
  obtain ⟨m, ⟨o, es, ep, ho, r⟩, _⟩ := id I.loc
  obtain ⟨sl, hL⟩ := u.any ho I.free fun z => (hch _ z).2.1 rfl
  exact I.step (ch := ch) hch (fun b o hL hb hc e n => u.keep b o e n (fun z => (List.mem_cons.mp (I.stkSub b z)).elim hL hb) hc) (fun b o _ _ hc e n => u.any e n hc) (fun b o hc e n => u.free b o e n hc) (fun b o hc e => u.there b o e hc) u.tups u.frzs u.tbls (fun m' hm => by
    obtain ⟨o', es', ep', ho', r'⟩ := hm
    rw [ho] at ho'; cases ho'
    exact ⟨_, es', ep', hL, r'⟩) hok hg
/-- an untracked record of ours (an iterator) has turned -/
theorem Inv.turned {t' : Nat} {it : Addr} (I : Inv X pins σ H s) (k : ∀ b o, b ≠ it → s.heap.get? b = some o → h'.get? b = some o) (hn : H it = none) (hL : it ≠ X.env.locals)
    (h1 : it ∈ X.ex ∨ X.s₀.heap.objs.size ≤ it) (h2 : ∀ x c, X.env.cells.lookup x = some c → c ≠ it) (h3 : ∀ p ∈ X.pn ++ pins, p.1 ≠ it) : Inv X pins σ H { s with heap := h', toks := t' } := by
  have nit : ∀ b u, H b = some u → b ≠ it := fun b u e z => by rw [z, hn] at e; cases e
  refine I.step (g' := s.gens) (d' := s.drawn) (ch := [it]) (fun b hb => ?_) (fun b o _ _ hc e _ => k b o (fun z => hc (by simp [z])) e) (fun b o _ _ hc e _ => ⟨o.slots, k b o (fun z => hc (by simp [z])) e⟩) (fun _ _ _ _ n => n)
    (fun b o hc e => ⟨o, k b o (fun z => hc (by simp [z])) e⟩) (fun _ _ e => e) (fun _ _ _ e => e) (fun b ps e => ⟨#[], by rw [e]; simp⟩) (fun m hm => ?_) (fun b u e => ?_) I.bare
  · have e : b = it := by simpa using hb
    subst e
    exact ⟨h1, hL, h2, h3⟩
  · obtain ⟨o, es, ep, ho, r⟩ := hm
    exact ⟨o, es, ep, k _ o (Ne.symm hL) ho, r⟩
  · refine (I.hok b u e).stay (fun c v hc q => k c v ?_ q) (fun _ q => q) fun _ _ q => q
    rcases hc with z | z
    · rw [z]; exact nit b u e
    · exact nit c _ z
theorem Inv.tok (I : Inv X pins σ H s) (t : Nat) : Inv X pins σ H { s with toks := t } := I.un (h' := s.heap) (t' := t) Un.refl I.hok
/-- all objects kept -/
theorem Inv.kept {t' : Nat} (I : Inv X pins σ H s) (k : ∀ b u, s.heap.get? b = some u → h'.get? b = some u) : Inv X pins σ H { s with heap := h', toks := t' } := I.un (Un.kept k) (I.hok.kept k)
/-- a new object laid and tracked -/
theorem Inv.laid {a : Addr} {o : HO} {t' : Nat} (I : Inv X pins σ H s) (k : ∀ b u, s.heap.get? b = some u → h'.get? b = some u) (hp : s.heap.objs.size ≤ a) (new : ObjOk X.prog X.w (upd H a o) h' a o) :
    Inv X pins σ (upd H a o) { s with heap := h', toks := t' } := I.un (Un.laid k hp (I.hok.fresh hp)) (I.hok.laid k hp new)
/-- an object written -/
theorem Inv.write {x e : Addr} {o : HO} {t' : Nat} (I : Inv X pins σ H s) (mu : Mut (H x)) (he : e = x ∨ H e = some (.own x)) (k : ∀ b u, b ≠ e → s.heap.get? b = some u → h'.get? b = some u) (heo : ∃ u, h'.get? e = some u)
    (new : ObjOk X.prog X.w (upd H x o) h' x o) : Inv X pins σ (upd H x o) { s with heap := h', toks := t' } := I.un (Un.write mu he k heo) (I.hok.write mu he k heo new)
theorem Inv.pins_of {pins' : List (Addr × Obj)} (I : Inv X pins σ H s) (h : ∀ p ∈ pins', s.heap.get? p.1 = some p.2 ∧ H p.1 = none ∧ p.1 ≠ X.env.locals ∧ p.1 ∉ X.fs ∧ ∀ v, p.2.data ≠ .cell v) : Inv X pins' σ H s :=
  ⟨I.ok, I.os, I.bare, I.base, I.loc, I.cell, I.free, I.freeC, fun p hp => (List.mem_append.mp hp).elim (fun z => I.pin p (List.mem_append_left _ z)) (h p), I.hok, I.len⟩

theorem nodup_ix {N : List Str} (hN : N.Nodup) {i j : Nat} {x : Str} (a : N[i]? = some x) (b : N[j]? = some x) : i = j := by
  obtain ⟨h1, e1⟩ := List.getElem?_eq_some_iff.mp a
  obtain ⟨h2, e2⟩ := List.getElem?_eq_some_iff.mp b
  exact (List.getElem_inj hN).mp (e1.trans e2.symm)

/-- a name is stored; what changed -/
theorem store_ok2 {M : Model} {A : Around} {E : Value → Shared → Prop} {i : Nat} {x : Str} {v : V} {u : Value} {Q : Unit → Shared → Prop} (I : Inv X pins σ H s) (hN : X.N.Nodup) (hi : X.N[i]? = some x) (hx : Loc X.env.scope x) (r : RelV v u)
    (h : ∀ s', Inv X pins (σ.set i (some v)) H s' → (∃ a, Heap.SameBut a s.heap s'.heap ∧ (a = X.env.locals ∨ X.env.cells.lookup x = some a)) → Q () s') (hf : X.fn x = true ∨ X.env.scope.names.lookup x = some .local := by first | exact .inl rfl | exact .inr rfl | assumption) : wpAny M A (storeName X.env x u) Q E s := by
  obtain ⟨m, hn, hl⟩ := id I.loc
  have hcls : (X.env.scope.kind == .class || (X.env.scope.kind == .module && X.env.locals != X.env.globals)) = false := by rw [I.ok.kind]; rfl
  have hiσ : i < σ.length := by rw [I.len]; exact (List.getElem?_eq_some_iff.mp hi).1
  have cne := I.cne
  have tracked : ∀ {a : Addr} {h' : Heap}, (∃ o, s.heap.get? a = some o ∧ H a = none) → Heap.SameBut a s.heap h' → HOk X.prog X.w H h' := fun {a h'} ha hs b ob e => by
    obtain ⟨_, _, hfree⟩ := ha
    refine (I.hok b ob e).stay (fun c w' hc q => (hs.2 c ?_).trans q) (fun _ q => q) fun _ _ q => q
    rintro rfl
    rcases hc with rfl | hc
    · rw [hfree] at e; cases e
    · rw [hfree] at hc; cases hc
  rcases hx with hk | hk
  · refine wpAny_storeName_local hk hn (fun h' hn' hs => ?_) hcls
    obtain ⟨oL, _, _, hoL, _⟩ := id hn
    refine h _ ⟨I.ok, I.os, I.bare, ⟨fun b o e n hb hx => ?_, fun b o e n hb hx => ?_, I.base.free, fun b o e hx => ?_, I.base.tups, I.base.frzs, I.base.tbls⟩, ⟨_, hn', fun j y v' e1 e2 e3 => ?_⟩, fun y c e => ?_, I.free, I.freeC, fun p hp => ?_, tracked ⟨oL, hoL, I.free⟩ hs, by simpa using I.len⟩ ⟨_, hs, .inl rfl⟩
    · exact (hs.2 b (Nat.ne_of_lt (Nat.lt_of_lt_of_le (Heap.lt_size e) I.ok.above))).trans (I.base.keep b o e n hb hx)
    · obtain ⟨sl, e1⟩ := I.base.slot b o e n hb hx
      exact ⟨sl, (hs.2 b (Nat.ne_of_lt (Nat.lt_of_lt_of_le (Heap.lt_size e) I.ok.above))).trans e1⟩
    · obtain ⟨o', e1⟩ := I.base.there b o e hx
      exact ⟨o', (hs.2 b (Nat.ne_of_lt (Nat.lt_of_lt_of_le (Heap.lt_size e) I.ok.above))).trans e1⟩
    · by_cases hj : j = i
      · subst hj
        rw [hi] at e1; cases e1
        rw [List.getElem?_set_self hiσ] at e2
        cases e2
        exact ⟨u, r, .inl ⟨hk, by simp⟩⟩
      · rw [List.getElem?_set_ne (Ne.symm hj)] at e2
        obtain ⟨u', r', q⟩ := hl j y v' e1 e2 e3
        refine ⟨u', r', ?_⟩
        rcases q with ⟨k, e⟩ | ⟨k, c, e, z⟩
        · refine .inl ⟨k, ?_⟩
          have : y ≠ x := fun e => hj (nodup_ix hN e1 (e ▸ hi))
          simp [this, e]
        · exact .inr ⟨k, c, e, z.sameBut hs (cne y c e)⟩
    · obtain ⟨w', z⟩ := I.cell y c e
      exact ⟨w', z.sameBut hs (cne y c e)⟩
    · obtain ⟨e, n, ne, nf, d⟩ := I.pin p hp
      exact ⟨(hs.2 p.1 ne).trans e, n, ne, nf, d⟩
  · have hfn : X.fn x = true := by
      rcases hf with z | z
      · exact z
      · rw [z] at hk; cases hk
    obtain ⟨c, hc⟩ := I.ok.has x (.inl hk)
    obtain ⟨w', z⟩ := I.cell x c hc
    refine wpAny_storeName_cell I.ok.kind hk hc z (fun h' hc' hs => ?_)
    obtain ⟨oc, hoc, hocd⟩ := id z
    refine h { s with heap := h' } ⟨I.ok, I.os, I.bare, ⟨fun b o e n hb hx => ?_, fun b o e n hb hx => ?_, I.base.free, fun b o e hx => ?_, I.base.tups, I.base.frzs, I.base.tbls⟩, ⟨m, hn.sameBut hs (Ne.symm (cne x c hc)), fun j y v' e1 e2 e3 => ?_⟩, fun y c' e => ?_, I.free, I.freeC, fun p hp => ?_, tracked ⟨oc, hoc, I.freeC x c hc⟩ hs, by simpa using I.len⟩ ⟨c, hs, .inr hc⟩
    · exact (hs.2 b (Nat.ne_of_lt (Nat.lt_of_lt_of_le (Heap.lt_size e) (I.ok.cab x c hfn hc)))).trans (I.base.keep b o e n hb hx)
    · obtain ⟨sl, e1⟩ := I.base.slot b o e n hb hx
      exact ⟨sl, (hs.2 b (Nat.ne_of_lt (Nat.lt_of_lt_of_le (Heap.lt_size e) (I.ok.cab x c hfn hc)))).trans e1⟩
    · obtain ⟨o', e1⟩ := I.base.there b o e hx
      exact ⟨o', (hs.2 b (Nat.ne_of_lt (Nat.lt_of_lt_of_le (Heap.lt_size e) (I.ok.cab x c hfn hc)))).trans e1⟩
    · by_cases hj : j = i
      · subst hj
        rw [hi] at e1; cases e1
        rw [List.getElem?_set_self hiσ] at e2
        cases e2
        exact ⟨u, r, .inr ⟨.inl hk, c, hc, hc'⟩⟩
      · rw [List.getElem?_set_ne (Ne.symm hj)] at e2
        obtain ⟨u', r', q⟩ := hl j y v' e1 e2 e3
        refine ⟨u', r', ?_⟩
        rcases q with q | ⟨k, c', e, z'⟩
        · exact .inl q
        · refine .inr ⟨k, c', e, z'.sameBut hs ?_⟩
          rintro rfl
          exact hj (nodup_ix hN e1 (I.ok.inj _ _ _ e hc ▸ hi))
    · by_cases hcc : c' = c
      · subst hcc; exact ⟨_, hc'⟩
      · obtain ⟨w2, z2⟩ := I.cell y c' e
        exact ⟨w2, z2.sameBut hs hcc⟩
    · obtain ⟨e, n, ne, nf, d⟩ := I.pin p hp
      refine ⟨(hs.2 p.1 ?_).trans e, n, ne, nf, d⟩
      intro q
      rw [q, hoc] at e
      have q' : oc = p.2 := Option.some.inj e
      exact d w' (by rw [← q']; exact hocd)
theorem store_ok {M : Model} {A : Around} {E : Value → Shared → Prop} {i : Nat} {x : Str} {v : V} {u : Value} {Q : Unit → Shared → Prop} (I : Inv X pins σ H s) (hN : X.N.Nodup) (hi : X.N[i]? = some x) (hx : Loc X.env.scope x) (r : RelV v u)
    (h : ∀ s', Inv X pins (σ.set i (some v)) H s' → Q () s') (hf : X.fn x = true ∨ X.env.scope.names.lookup x = some .local := by first | exact .inl rfl | exact .inr rfl | assumption) : wpAny M A (storeName X.env x u) Q E s :=
  store_ok2 I hN hi hx r (fun s' I' _ => h s' I') hf
/-- behind a call or a block, the state as it is -/
theorem Inv.call' {s' : Shared} {ch : List Addr} (I : Inv X pins σ H s) (ho : s'.os = s.os) (u : Un (frs X.stack) ch H H' s.heap s'.heap) (hok : HOk X.prog X.w H' s'.heap) (hg : AllBare s'.gens)
    (hch : ∀ b ∈ ch, (b ∈ X.ex ∨ X.s₀.heap.objs.size ≤ b) ∧ b ≠ X.env.locals ∧ (∀ x c, X.env.cells.lookup x = some c → c ≠ b) ∧ ∀ p ∈ X.pn ++ pins, p.1 ≠ b) : Inv X pins σ H' s' := by
  obtain ⟨h', g', d', t', o'⟩ := s'
  have e : o' = s.os := ho
  subst e
  exact I.call (g' := g') (t' := t') (d' := d') u hok hg hch
end

/-! ### the judgements -/
/-- an exception: its class, its own dict's address (where it has one), the abstract heap behind it -/
abbrev XK := Value → Option Addr → Hp → Prop
abbrev St := List (Option V)
abbrev VK := V → Hp → Prop
/-- an expression's reading; a test's; an argument list's -/
abbrev TE := St → Hp → VK → Prop
abbrev TT := St → Hp → (Bool → Hp → Prop) → Prop
abbrev TA := St → Hp → (List V → Hp → Prop) → Prop
/-- what is wanted behind a statement -/
structure Ends where
  nx : St → Hp → Prop
  rt : VK
  bk : St → Hp → Prop := fun _ _ => False
  ct : St → Hp → Prop := fun _ _ => False
abbrev TS := Ends → St → Hp → Prop

def EP (X : Cx) (pins : List (Addr × Obj)) (σ : St) (Q : VK) (u : Value) (s' : Shared) : Prop := ∃ v H', Inv X pins σ H' s' ∧ RelV v u ∧ Q v H'
def TP (X : Cx) (pins : List (Addr × Obj)) (σ : St) (Q : Bool → Hp → Prop) (b : Bool) (s' : Shared) : Prop := ∃ H', Inv X pins σ H' s' ∧ Q b H'
def AP (X : Cx) (pins : List (Addr × Obj)) (σ : St) (Q : List V → Hp → Prop) (us : List Value) (s' : Shared) : Prop := ∃ vs H', Inv X pins σ H' s' ∧ Vals vs us ∧ Q vs H'
def SP (X : Cx) (pins : List (Addr × Obj)) (D : Ends) (f : Flow) (s' : Shared) : Prop :=
  match f with
  | .next => ∃ σ' H', Inv X pins σ' H' s' ∧ D.nx σ' H'
  | .brk => ∃ σ' H', Inv X pins σ' H' s' ∧ D.bk σ' H'
  | .cont => ∃ σ' H', Inv X pins σ' H' s' ∧ D.ct σ' H'
  | .ret u => ∃ v σ' H', Inv X pins σ' H' s' ∧ RelV v u ∧ D.rt v H'

def PE (X : Cx) (e : Expr) (t : TE) : Prop :=
  ∀ (pins : List (Addr × Obj)) (s : Shared) (σ : St) (H : Hp) (Q : VK), Inv X pins σ H s → t σ H Q → wpAny (model X.prog X.w) X.A (eval e X.env) (EP X pins σ Q) X.xe s
def PT (X : Cx) (e : Expr) (t : TT) : Prop :=
  ∀ (pins : List (Addr × Obj)) (s : Shared) (σ : St) (H : Hp) (Q : Bool → Hp → Prop), Inv X pins σ H s → t σ H Q → wpAny (model X.prog X.w) X.A (isTrue e X.env (eval e X.env)) (TP X pins σ Q) X.xe s
/-- a test whatever its 'whole' is (and, or) -/
def PW (X : Cx) (e : Expr) (t : TT) : Prop :=
  ∀ (whole : Sem Value) (pins : List (Addr × Obj)) (s : Shared) (σ : St) (H : Hp) (Q : Bool → Hp → Prop), Inv X pins σ H s → t σ H Q → wpAny (model X.prog X.w) X.A (isTrue e X.env whole) (TP X pins σ Q) X.xe s
theorem PW.pt {X : Cx} {e : Expr} {t : TT} (h : PW X e t) : PT X e t := h _
/-- an argument list (no star), from the left -/
def PA (X : Cx) (es : List Expr) (t : TA) : Prop :=
  ∀ (pos : Pos) (pins : List (Addr × Obj)) (s : Shared) (σ : St) (H : Hp) (Q : List V → Hp → Prop), Inv X pins σ H s → t σ H Q → wpAny (model X.prog X.w) X.A (spliced (backTo pos (starEach es X.env))) (AP X pins σ Q) X.xe s
def PS (X : Cx) (st : Stmt) (t : TS) : Prop :=
  ∀ (pins : List (Addr × Obj)) (s : Shared) (σ : St) (H : Hp) (D : Ends), Inv X pins σ H s → t D σ H → wpAny (model X.prog X.w) X.A (exec st X.env) (SP X pins D) X.xe s
def PSs (X : Cx) (st : List Stmt) (t : TS) : Prop :=
  ∀ (pins : List (Addr × Obj)) (s : Shared) (σ : St) (H : Hp) (D : Ends), Inv X pins σ H s → t D σ H → wpAny (model X.prog X.w) X.A (execs st X.env) (SP X pins D) X.xe s
/-- weaken the end -/
theorem thn {α : Type} {t : Sem α} {Q Q' : α → Shared → Prop} {M : Model} {A : Around} {E : Value → Shared → Prop} {s : Shared} (h : wpAny M A t Q E s) (hQ : ∀ a s, Q a s → Q' a s) : wpAny M A t Q' E s := wpAny_mono h hQ fun _ _ x => x
end L2

namespace L2
open PySem PySem.Spec PyProof.Rows
section
variable {X : Cx}


/-! ### names and constants -/
def tVar (i : Nat) : TE := fun σ H Q => ∃ v, σ[i]? = some (some v) ∧ Q v H
def tC (v : V) : TE := fun _ H Q => Q v H
theorem pe_var {i : Nat} {x : Str} {pos : Pos} (hN : X.N[i]? = some x) (hv : Vis X.env.scope x) (hd : (x == ("__debug__" : Str)) = false := by decide) (hcd : (x == ("__classdict__" : Str)) = false := by decide) : PE X (.Name x pos) (tVar i) := by
  intro pins s σ H Q I h
  obtain ⟨v, e, h⟩ := h
  obtain ⟨m, hn, hl⟩ := I.loc
  obtain ⟨u, r, l⟩ := hl i x v hN e hv
  have fin : EP X pins σ Q u s := ⟨v, H, I, r, h⟩
  rcases l with ⟨hk, hm⟩ | ⟨hk, c, hc, hcell⟩
  · exact wpAny_Name (wpAny_loadName_local I.ok.kind hk hn hm fin) hd
  · rcases hk with hk | hk
    · exact wpAny_Name (wpAny_loadName_cell I.ok.kind hk hc hcell fin) hd
    · exact wpAny_Name (wpAny_loadName_free I.ok.kind hk hc hcell fin hcd) hd
theorem pe_int {i j pos} : PE X (.Constant (.int i) j pos) (tC (.int i)) := fun _ _ _ H _ I h => wpAny_Constant_int ⟨.int i, H, I.tok _, ⟨_, rfl⟩, h⟩
theorem pe_bl {b j pos} : PE X (.Constant (.bool b) j pos) (tC (.bl b)) := fun _ _ _ H _ I h => Constant_bool ⟨.bl b, H, I, rfl, h⟩
theorem pe_non {j pos} : PE X (.Constant .none j pos) (tC .non) := fun _ _ _ H _ I h => Constant_none ⟨.non, H, I, rfl, h⟩

/-- a global name of the def -/
def Gl (X : Cx) (x : Str) : Prop := X.env.kindOf x = some .globalImplicit
theorem ld_glob {E : Value → Shared → Prop} {pins : List (Addr × Obj)} {s : Shared} {σ : St} {H : Hp} {x : Str} {u : Value} {pos : Pos} {Q : Value → Shared → Prop} (I : Inv X pins σ H s) (hg : Gl X x) (hm : X.mg x = some u) (h : Q u s)
    (hd : (x == ("__debug__" : Str)) = false := by decide) : wpAny (model X.prog X.w) X.A (eval (.Name x pos) X.env) Q E s :=
  Calls.Name_function_global I.ok.kind hg (Calls.loadGlobal_global (by rw [I.ok.glob]; exact I.mod.glob.keeps I.bk) hm h) hd
theorem ld_blt {E : Value → Shared → Prop} {pins : List (Addr × Obj)} {s : Shared} {σ : St} {H : Hp} {x : Str} {u : Value} {pos : Pos} {Q : Value → Shared → Prop} (I : Inv X pins σ H s) (hg : Gl X x) (hm : X.mg x = none) (hv : bootBuiltins x = some u) (h : Q u s)
    (hn : x ≠ "__name__" := by decide) (hd : (x == ("__debug__" : Str)) = false := by decide) : wpAny (model X.prog X.w) X.A (eval (.Name x pos) X.env) Q E s := by
  obtain ⟨mb, h1, h2⟩ := I.mod.blt
  exact Calls.Name_function_global I.ok.kind hg (Calls.loadGlobal_builtin (by rw [I.ok.glob]; exact I.mod.glob.keeps I.bk) hm (by rw [I.ok.blt]; exact h1.keeps I.bk) ((h2 x hn).trans hv) h) hd
theorem pe_bltn {x : Str} {v : V} {u : Value} {pos : Pos} (hg : Gl X x) (hm : X.mg x = none) (hv : bootBuiltins x = some u) (r : RelV v u) (hn : x ≠ "__name__" := by decide) (hd : (x == ("__debug__" : Str)) = false := by decide) : PE X (.Name x pos) (tC v) :=
  fun _ _ _ H _ I h => ld_blt I hg hm hv ⟨v, H, I, r, h⟩ hn hd

/-! ### arithmetic -/
variable {a b : Expr} {ta tb : TE} {pos : Pos}

/-! ### comparisons -/

/-! ### and, or, not -/
variable {tA tB' : TT} {rest : List Expr}
def tAnd (t u : TT) : TT := fun σ H Q => t σ H fun c H1 => if c = true then u σ H1 Q else Q false H1
def tOr (t u : TT) : TT := fun σ H Q => t σ H fun c H1 => if c = true then Q true H1 else u σ H1 Q
def tNot (t : TT) : TT := fun σ H Q => t σ H fun c H1 => Q (!c) H1
theorem pw_and1 (ha : PT X a tA) : PW X (.BoolOp .And [a] pos) tA := by
  intro wh pins s σ H Q I h
  refine isTrue_and (thn (ha pins s σ H Q I h) fun c s1 e => ?_)
  cases c with
  | true => exact isTrue_and_nil e
  | false => exact e
theorem pw_or1 (ha : PT X a tA) : PW X (.BoolOp .Or [a] pos) tA := by
  intro wh pins s σ H Q I h
  refine isTrue_or (thn (ha pins s σ H Q I h) fun c s1 e => ?_)
  cases c with
  | false => exact isTrue_or_nil e
  | true => exact e
theorem pw_and (ha : PT X a tA) (hb : PW X (.BoolOp .And (b :: rest) pos) tB') : PW X (.BoolOp .And (a :: b :: rest) pos) (tAnd tA tB') := by
  intro wh pins s σ H Q I h
  refine isTrue_and (thn (ha pins s σ H _ I h) fun c s1 ⟨H1, I1, q1⟩ => ?_)
  cases c with
  | true => exact hb wh pins s1 σ H1 Q I1 q1
  | false => exact ⟨H1, I1, q1⟩
theorem pw_or (ha : PT X a tA) (hb : PW X (.BoolOp .Or (b :: rest) pos) tB') : PW X (.BoolOp .Or (a :: b :: rest) pos) (tOr tA tB') := by
  intro wh pins s σ H Q I h
  refine isTrue_or (thn (ha pins s σ H _ I h) fun c s1 ⟨H1, I1, q1⟩ => ?_)
  cases c with
  | true => exact ⟨H1, I1, q1⟩
  | false => exact hb wh pins s1 σ H1 Q I1 q1
theorem pt_not (ha : PT X a tA) : PT X (.UnaryOp .Not a pos) (tNot tA) := by
  intro pins s σ H Q I h
  exact isTrue_not (ha pins s σ H (fun c H1 => Q (!c) H1) I h)
/-- .. as values (bools) -/
def tAndV (ta tb : TE) : TE := fun σ H Q => ta σ H fun x H1 => ∃ c, x = .bl c ∧ if c = true then tb σ H1 Q else Q (.bl false) H1
def tNotV (ta : TE) : TE := fun σ H Q => ta σ H fun x H1 => ∃ c, x = .bl c ∧ Q (.bl (!c)) H1
theorem pe_one {op} {t : TE} (h : PE X a t) : PE X (.BoolOp op [a] pos) t := fun pins s σ H Q I hw => BoolOp_one (h pins s σ H Q I hw)
theorem pe_and (ha : PE X a ta) (hb : PE X (.BoolOp .And (b :: rest) pos) tb) : PE X (.BoolOp .And (a :: b :: rest) pos) (tAndV ta tb) := by
  intro pins s σ H Q I h
  refine BoolOp_and (thn (ha pins s σ H _ I h) fun v s1 ⟨x, H1, I1, r1, q1⟩ => ?_)
  obtain ⟨c, rfl, q1⟩ := q1
  cases r1
  refine wpAny_truthy_bool ?_
  cases c with
  | true => exact hb pins s1 σ H1 Q I1 q1
  | false => exact ⟨.bl false, H1, I1, rfl, q1⟩
theorem pe_not (ha : PE X a ta) : PE X (.UnaryOp .Not a pos) (tNotV ta) := by
  intro pins s σ H Q I h
  refine UnaryOp_ (thn (ha pins s σ H _ I h) fun v s1 ⟨x, H1, I1, r1, q1⟩ => ?_)
  obtain ⟨c, rfl, q1⟩ := q1
  cases r1
  exact not_of (wpAny_truthy_bool ⟨.bl (!c), H1, I1, rfl, q1⟩)
/-- a if t else b -/
def tIf (t : TT) (ta tb : TE) : TE := fun σ H Q => t σ H fun c H1 => if c = true then ta σ H1 Q else tb σ H1 Q
theorem pe_ifExp {c : Expr} (hc : PT X c tA) (ha : PE X a ta) (hb : PE X b tb) : PE X (.IfExp c a b pos) (tIf tA ta tb) := by
  intro pins s σ H Q I h
  refine wpAny_IfExp (thn (hc pins s σ H _ I h) fun d s1 ⟨H1, I1, q1⟩ => ?_)
  cases d with
  | true => exact ha pins s1 σ H1 Q I1 q1
  | false => exact hb pins s1 σ H1 Q I1 q1
end
end L2

namespace L2
open PySem PySem.Spec PyProof.Rows

/-! ### a list, a tuple that is read: tracked, frozen, or an object of the module -/
def SqL (K : PySem.W.Frag) (H : Hp) (a : Addr) (xs : List V) : Prop :=
  Rd H a (.lst xs) ∨
    ∃ (o : Obj) (its : Array Value) (n : Nat), K.lookup a = some o ∧ o.cls = .type "list" ∧ o.dict = none ∧ o.data = .seq its n ∧ its.size ≤ sizeLine ∧ Vals xs its.toList
def SqT (K : PySem.W.Frag) (H : Hp) (a : Addr) (xs : List V) : Prop :=
  Rd H a (.tup xs) ∨
    ∃ (o : Obj) (its : Array Value) (n : Nat), K.lookup a = some o ∧ o.cls = .type "tuple" ∧ o.data = .seq its n ∧ its.size ≤ sizeLine ∧ Vals xs its.toList
def absV : Value → Option V
  | .none => some .non
  | .bool b => some (.bl b)
  | .int i _ => some (.int i)
  | .str x _ => some (.str x)
  | .bytes b _ => some (.byt b)
  | .float b _ => some (.flt b)
  | .ref a => some (.ref a)
  | .type n => some (.ty n)
  | _ => none
theorem RelV.abs {x : V} {u : Value} (r : RelV x u) : absV u = some x := by
  cases x with
  | non => cases r; rfl
  | bl _ => cases r; rfl
  | int _ => obtain ⟨t, rfl⟩ := r; rfl
  | str _ => obtain ⟨t, rfl⟩ := r; rfl
  | byt _ => obtain ⟨t, rfl⟩ := r; rfl
  | flt _ => obtain ⟨t, rfl⟩ := r; rfl
  | ref _ => cases r; rfl
  | ty _ => cases r; rfl
theorem RelV.inj {x y : V} {u : Value} (r : RelV x u) (q : RelV y u) : x = y := Option.some.inj (r.abs.symm.trans q.abs)
theorem Vals.inj : ∀ {xs ys : List V} {us : List Value}, Vals xs us → Vals ys us → xs = ys
  | _, _, _, .nil, .nil => rfl
  | _, _, _, .cons r t, .cons r' t' => by rw [r.inj r', Vals.inj t t']
section
variable {X : Cx} {pins : List (Addr × Obj)} {σ : St} {H : Hp} {s : Shared} {a : Addr} {xs ys : List V}
theorem SqL.of {K : PySem.W.Frag} (h : H a = some (.lst xs)) : SqL K H a xs := .inl (.inl h)
theorem SqT.of {K : PySem.W.Frag} (h : H a = some (.tup xs)) : SqT K H a xs := .inl (.inl h)
theorem Inv.list (I : Inv X pins σ H s) (h : SqL X.K H a xs) : ∃ its : List Value, Vals xs its ∧ PlainL s.heap a its.toArray ∧ xs.length ≤ sizeLine := by
  rcases h with h | ⟨o, its, n, hk, hc, hd, hs, hz, r⟩
  · obtain ⟨z, its, n, r, e⟩ := h.ok I.hok
    exact ⟨its, r, ⟨_, n, e, rfl, rfl, rfl⟩, z⟩
  · refine ⟨its.toList, r, ⟨o, n, I.kIn a o hk, hc, hd, by simpa using hs⟩, ?_⟩
    have e := r.length
    simp only [Array.length_toList] at e
    omega
theorem Inv.tuple (I : Inv X pins σ H s) (h : SqT X.K H a xs) : ∃ its : List Value, Vals xs its ∧ IsTup s.heap a its.toArray ∧ xs.length ≤ sizeLine := by
  rcases h with h | ⟨o, its, n, hk, hc, hs, hz, r⟩
  · obtain ⟨z, its, r, p⟩ := h.ok I.hok
    exact ⟨its, r, p, z⟩
  · refine ⟨its.toList, r, ⟨o, I.kIn a o hk, hc, n, by simpa using hs⟩, ?_⟩
    have e := r.length
    simp only [Array.length_toList] at e
    omega
theorem Inv.list_inj (I : Inv X pins σ H s) (h : SqL X.K H a xs) (h' : SqL X.K H a ys) : xs = ys := by
  obtain ⟨its, r, ⟨o, n, e, _, _, d⟩, _⟩ := I.list h
  obtain ⟨its', r', ⟨o', n', e', _, _, d'⟩, _⟩ := I.list h'
  rw [e] at e'; cases e'
  rw [d] at d'
  injection d' with d1 _
  have : its = its' := by simpa using congrArg Array.toList d1
  subst this
  exact r.inj r'
theorem Inv.tuple_inj (I : Inv X pins σ H s) (h : SqT X.K H a xs) (h' : SqT X.K H a ys) : xs = ys := by
  obtain ⟨its, r, ⟨o, e, _, n, d⟩, _⟩ := I.tuple h
  obtain ⟨its', r', ⟨o', e', _, n', d'⟩, _⟩ := I.tuple h'
  rw [e] at e'; cases e'
  rw [d] at d'
  injection d' with d1 _
  have : its = its' := by simpa using congrArg Array.toList d1
  subst this
  exact r.inj r'
end

/-! ### another wish about exceptions -/
abbrev Cx.wish (X : Cx) (E : Value → Shared → Prop) : Cx := { X with xe := E }
/-- no exception leaves -/
abbrev Cx.nox (X : Cx) : Cx := X.wish fun _ _ => False
theorem Cx.Ok.wish {X : Cx} (ok : X.Ok) (E : Value → Shared → Prop) : (X.wish E).Ok :=
  ⟨ok.mod, ok.kind, ok.glob, ok.blt, ok.above, ok.inj, ok.has, ok.cab, ok.hd, ok.frames, ok.stk, ok.exf, ok.bs, ok.bsz, ok.noex, ok.exfs, ok.funs, ok.frf⟩
theorem Cx.Ok.unwish {X : Cx} {E : Value → Shared → Prop} (ok : (X.wish E).Ok) : X.Ok :=
  ⟨ok.mod, ok.kind, ok.glob, ok.blt, ok.above, ok.inj, ok.has, ok.cab, ok.hd, ok.frames, ok.stk, ok.exf, ok.bs, ok.bsz, ok.noex, ok.exfs, ok.funs, ok.frf⟩
section
variable {X : Cx} {pins : List (Addr × Obj)} {σ : St} {H : Hp} {s : Shared} {E : Value → Shared → Prop}
theorem Inv.wish (I : Inv X pins σ H s) (E : Value → Shared → Prop) : Inv (X.wish E) pins σ H s := ⟨I.ok.wish E, I.os, I.bare, I.base, I.loc, I.cell, I.free, I.freeC, I.pin, I.hok, I.len⟩
theorem Inv.unwish (I : Inv (X.wish E) pins σ H s) : Inv X pins σ H s := ⟨I.ok.unwish, I.os, I.bare, I.base, I.loc, I.cell, I.free, I.freeC, I.pin, I.hok, I.len⟩
theorem SP.unwish {D : Ends} {f : Flow} {s' : Shared} (h : SP (X.wish E) pins D f s') : SP X pins D f s' := by
  cases f with
  | next => obtain ⟨σ', H', I, q⟩ := h; exact ⟨σ', H', I.unwish, q⟩
  | brk => obtain ⟨σ', H', I, q⟩ := h; exact ⟨σ', H', I.unwish, q⟩
  | cont => obtain ⟨σ', H', I, q⟩ := h; exact ⟨σ', H', I.unwish, q⟩
  | ret u => obtain ⟨v, σ', H', I, r, q⟩ := h; exact ⟨v, σ', H', I.unwish, r, q⟩
theorem PSs.nox {st : List Stmt} {t : TS} (h : PSs X.nox st t) : PSs X st t := fun pins s σ H D I hw =>
  wpAny_mono (h pins s σ H D (I.wish _) hw) (fun _ _ q => q.unwish) fun _ _ z => False.elim z
end

/-! ### blocks and small statements -/
section
variable {X : Cx} {st : Stmt} {rest : List Stmt} {t u : TS} {e : Expr} {te : TE} {pos : Pos}
def tNext : TS := fun D σ H => D.nx σ H
def tSeq (t u : TS) : TS := fun D σ H => t { D with nx := u D } σ H
theorem pss_nil : PSs X [] tNext := fun _ _ σ H _ I h => wpAny_execs_nil ⟨σ, H, I, h⟩
theorem pss_cons (h1 : PS X st t) (h2 : PSs X rest u) : PSs X (st :: rest) (tSeq t u) := by
  intro pins s σ H D I h
  refine wpAny_execs_cons (thn (h1 pins s σ H { D with nx := u D } I h) fun f s1 q => ?_)
  cases f with
  | next =>
    obtain ⟨σ', H', I', q⟩ := q
    exact h2 pins s1 σ' H' D I' q
  | ret v => exact q
  | brk => exact q
  | cont => exact q
theorem pss_one (h1 : PS X st t) : PSs X [st] t := by
  intro pins s σ H D I h
  refine wpAny_execs_cons (thn (h1 pins s σ H D I h) fun f s1 q => ?_)
  cases f with
  | next => exact wpAny_execs_nil q
  | ret v => exact q
  | brk => exact q
  | cont => exact q
/-- in a def's body nothing is shown -/
theorem Inv.quiet {pins : List (Addr × Obj)} {σ : St} {H : Hp} {s : Shared} (I : Inv X pins σ H s) : interactive X.env = false := by simp [interactive, I.ok.kind]
/-- an expression whose value is dropped -/
def tDrop (te : TE) : TS := fun D σ H => te σ H fun _ H1 => D.nx σ H1
theorem ps_expr (he : PE X e te) (hs : swapsWith e none pos.line X.env = pure false := by rfl) : PS X (.Expr e pos) (tDrop te) := by
  intro pins s σ H D I h
  exact wpAny_Expr_any (thn (he pins s σ H _ I h) fun v s1 ⟨x, H1, I1, r1, q1⟩ => ⟨σ, H1, I1, q1⟩) I.quiet hs
def tRet (te : TE) : TS := fun D σ H => te σ H D.rt
theorem ps_ret (he : PE X e te) : PS X (.Return (some e) pos) (tRet te) := by
  intro pins s σ H D I h
  exact wpAny_Return_some (thn (he pins s σ H _ I h) fun v s1 ⟨x, H1, I1, r1, q1⟩ => ⟨x, σ, H1, I1, r1, q1⟩)
def tIfS (c : TT) (t u : TS) : TS := fun D σ H => c σ H fun b H1 => if b = true then t D σ H1 else u D σ H1
theorem ps_if {c : Expr} {a b : List Stmt} {tc : TT} (hc : PT X c tc) (ha : PSs X a t) (hb : PSs X b u) : PS X (.If c a b pos) (tIfS tc t u) := by
  intro pins s σ H D I h
  refine wpAny_If (thn (hc pins s σ H _ I h) fun d s1 ⟨H1, I1, q1⟩ => ?_)
  cases d with
  | true => exact ha pins s1 σ H1 D I1 q1
  | false => exact hb pins s1 σ H1 D I1 q1
/-- code that the proof never comes to -/
def tNever : TS := fun _ _ _ => False
theorem ps_never : PS X st tNever := fun _ _ _ _ _ _ h => h.elim
end

/-! ### targets -/
abbrev TG := V → St → Hp → (St → Hp → Prop) → Prop
abbrev TGs := List V → St → Hp → (St → Hp → Prop) → Prop
def PG (X : Cx) (target : Expr) (t : TG) : Prop :=
  ∀ (pins : List (Addr × Obj)) (s : Shared) (σ : St) (H : Hp) (v : V) (u : Value) (Q : St → Hp → Prop), Inv X pins σ H s → RelV v u → t v σ H Q →
    wpAny (model X.prog X.w) X.A (assign target X.env u) (fun _ s' => ∃ σ' H', Inv X pins σ' H' s' ∧ Q σ' H') X.xe s
/-- several targets, one after another -/
def PGs (X : Cx) (ts : List Expr) (t : TGs) : Prop :=
  ∀ (pins : List (Addr × Obj)) (s : Shared) (σ : St) (H : Hp) (vs : List V) (us : List Value) (Q : St → Hp → Prop), Inv X pins σ H s → Vals vs us → t vs σ H Q →
    wpAny (model X.prog X.w) X.A (assignInOrder ((assignEach ts X.env).map (·.2)) us) (fun _ s' => ∃ σ' H', Inv X pins σ' H' s' ∧ Q σ' H') X.xe s
/-- o[i] = v, by values -/
abbrev TSet := V → V → V → Hp → (Hp → Prop) → Prop
def PSet (X : Cx) (t : TSet) : Prop :=
  ∀ (pins : List (Addr × Obj)) (s : Shared) (σ : St) (H : Hp) (o i v : V) (ov iv u : Value) (Q : Hp → Prop), Inv X pins σ H s → RelV o ov → RelV i iv → RelV v u → t o i v H Q →
    wpAny (model X.prog X.w) X.A (setItem ov iv u) (fun _ s' => ∃ H', Inv X pins σ H' s' ∧ Q H') X.xe s
section
variable {X : Cx} {pos : Pos}
def gName (i : Nat) : TG := fun v σ H Q => Q (σ.set i (some v)) H
theorem pg_name {i : Nat} {x : Str} (hN : X.N.Nodup) (hi : X.N[i]? = some x) (hx : Loc X.env.scope x) (hf : X.fn x = true ∨ X.env.scope.names.lookup x = some .local := by first | exact .inl rfl | exact .inr rfl | assumption) : PG X (.Name x pos) (gName i) := by
  intro pins s σ H v u Q I r h
  exact wpAny_assign_Name (store_ok I hN hi hx r (fun s' I' => ⟨_, H, I', h⟩) hf)
def gNil : TGs := fun vs σ H Q => vs = [] ∧ Q σ H
def gCons (t : TG) (u : TGs) : TGs := fun vs σ H Q => ∃ v r, vs = v :: r ∧ t v σ H fun σ' H' => u r σ' H' Q
theorem pgs_nil : PGs X [] gNil := by
  intro pins s σ H vs us Q I r h
  obtain ⟨e, h⟩ := h
  subst e
  cases r
  exact assignInOrder_nil ⟨σ, H, I, h⟩
theorem pgs_cons {e : Expr} {es : List Expr} {t : TG} {u : TGs} (h1 : PG X e t) (h2 : PGs X es u)
    (hs : (assignEach (e :: es) X.env).map (·.2) = assign e X.env :: (assignEach es X.env).map (·.2) := by rfl) : PGs X (e :: es) (gCons t u) := by
  intro pins s σ H vs us Q I r h
  obtain ⟨v, vr, e1, h⟩ := h
  subst e1
  cases r with
  | cons r rr =>
    rw [hs]
    refine assignInOrder_cons (thn (h1 pins s σ H _ _ _ I r h) fun _ s1 ⟨σ1, H1, I1, q1⟩ => ?_)
    exact h2 pins s1 σ1 H1 _ _ Q I1 rr q1
/-- (a, b, ..) = a tuple of that length -/
def gTup (K : PySem.W.Frag) (n : Nat) (t : TGs) : TG := fun v σ H Q => ∃ a xs, v = .ref a ∧ SqT K H a xs ∧ xs.length = n ∧ t xs σ H Q
theorem pg_tup {es : List Expr} {k : Nat} {t : TGs} {n : Nat} (hc : X.calm = true) (h : PGs X es t)
    (hn : (assignEach es X.env).length = n := by rfl) (hst : (assignEach es X.env).findIdx? (·.1) = none := by rfl) : PG X (.Tuple es k pos) (gTup X.K n t) := by
  intro pins s σ H v u Q I r hw
  obtain ⟨a, xs, e1, hq, hl, hw⟩ := hw
  subst e1
  cases r
  obtain ⟨its, rv, ht, hz⟩ := I.tuple hq
  refine assign_Tuple_tuple (I.ok.hd hc) ht (by simp [hn, ← hl, rv.length]) hst fun h' hx => ?_
  have I1 : Inv X pins σ H { s with heap := h' } := I.kept (t' := s.toks) fun b o e => hx b o (Nat.ne_of_lt (Heap.lt_size e)) e
  exact h pins _ σ H xs _ Q I1 (by simpa using rv) hw
/-- o[i] = .. -/
def gSub (to ti : TE) (t : TSet) : TG := fun v σ H Q => to σ H fun o H1 => ti σ H1 fun i H2 => t o i v H2 fun H3 => Q σ H3
theorem pg_sub {o i : Expr} {to ti : TE} {t : TSet} (ho : PE X o to) (hi : PE X i ti) (hs : PSet X t)
    (ha : ∀ v, assign (.Subscript o i pos) X.env v = (do
      let ov ← holding [v] (eval o X.env)
      let iv ← holding [v, ov] (eval i X.env)
      standAt pos
      holding [v, ov, iv] (setItem ov iv v)
      release [v, ov, iv] []) := by intro _; rfl) : PG X (.Subscript o i pos) (gSub to ti t) := by
  intro pins s σ H v u Q I r h
  rw [ha]
  refine wpAny_bind (wpAny_holding (thn (ho pins s σ H _ I h) fun ov s1 ⟨x, H1, I1, r1, q1⟩ => ?_))
  refine wpAny_bind (wpAny_holding (thn (hi pins s1 σ H1 _ I1 q1) fun iv s2 ⟨y, H2, I2, r2, q2⟩ => ?_))
  refine wpAny_bind (wpAny_standAt (wpAny_bind (wpAny_holding (thn (hs pins s2 σ H2 x y v ov iv u _ I2 r1 r2 r q2) fun _ s3 ⟨H3, I3, q3⟩ => ?_))))
  exact wpAny_release ⟨σ, H3, I3, q3⟩
/-- target = value -/
def tAsg (te : TE) (g : TG) : TS := fun D σ H => te σ H fun x H1 => g x σ H1 D.nx
theorem ps_asg {tg e : Expr} {te : TE} {g : TG} (he : PE X e te) (hg : PG X tg g) (hs : swapsWithSole [tg] e pos.line X.env = pure false := by rfl) (hw : swappedStores [tg] e X.env = pure none := by rfl)
    (h1 : (assignEach [tg] X.env).map (·.2) = [assign tg X.env] := by rfl) : PS X (.Assign [tg] e pos) (tAsg te g) := by
  intro pins s σ H D I h
  refine wpAny_Assign_stores (thn (he pins s σ H _ I h) fun v s1 ⟨x, H1, I1, r1, q1⟩ => ?_) hs hw
  rw [h1]
  exact thn (hg pins s1 σ H1 x v _ I1 r1 q1) fun _ s2 q => q
/-- name = value -/
theorem ps_set {i : Nat} {x : Str} {e : Expr} {te : TE} {pos' : Pos} (hN : X.N.Nodup) (hi : X.N[i]? = some x) (hx : Loc X.env.scope x) (he : PE X e te) (hs : swapsWith e (some (.Name x pos')) pos.line X.env = pure false := by rfl) (hf : X.fn x = true ∨ X.env.scope.names.lookup x = some .local := by first | exact .inl rfl | exact .inr rfl | assumption) :
    PS X (.Assign [.Name x pos'] e pos) (tAsg te (gName i)) := by
  intro pins s σ H D I h
  refine wpAny_Assign_Name (thn (he pins s σ H _ I h) fun v s1 ⟨y, H1, I1, r1, q1⟩ => ?_) hs
  exact store_ok I1 hN hi hx r1 (fun s2 I2 => ⟨_, H1, I2, q1⟩) hf
end

/-! ### while -/
section
variable {X : Cx} {pos : Pos}
/-- the invariant W with its measure -/
def tWhile (c : TT) (tb : TS) : TS := fun D σ H => ∃ W : Nat → St → Hp → Prop, (∃ m, W m σ H) ∧ ∀ m σ H, W m σ H →
  c σ H fun b H1 => if b = true then ∃ N : St → Hp → Prop, (∀ σ' H', N σ' H' → ∃ m', m' < m ∧ W m' σ' H') ∧ tb { D with nx := N, ct := N, bk := D.nx } σ H1 else D.nx σ H1
theorem ps_while {c : Expr} {body : List Stmt} {tc : TT} {tb : TS} (hp : PassesOwn (model X.prog X.w) X.A X.env X.xe) (hc : PT X c tc) (hb : PSs X body tb) : PS X (.While c body [] pos) (tWhile tc tb) := by
  intro pins s σ H D I h
  obtain ⟨W, ⟨m0, w0⟩, turn⟩ := h
  refine wpAny_While (codeAny_whileLoop (fun n s' => ∃ σ' H', Inv X pins σ' H' s' ∧ W n σ' H') ?_ m0 ⟨σ, H, I, w0⟩)
  rintro n s1 ⟨σ1, H1, I1, w1⟩
  refine wpAny_passesOwn hp (thn (hc pins s1 σ1 H1 _ I1 (turn n σ1 H1 w1)) fun b s2 ⟨H2, I2, q2⟩ => ?_)
  cases b with
  | true =>
    obtain ⟨N, hN, q2⟩ := q2
    rw [if_pos rfl]
    refine wpAny_passesOwn hp (thn (hb pins s2 σ1 H2 _ I2 q2) fun f s3 q3 => ?_)
    cases f with
    | next =>
      obtain ⟨σ3, H3, I3, n3⟩ := q3
      obtain ⟨m', hm, w3⟩ := hN σ3 H3 n3
      exact ⟨m', hm, σ3, H3, I3, w3⟩
    | cont =>
      obtain ⟨σ3, H3, I3, n3⟩ := q3
      obtain ⟨m', hm, w3⟩ := hN σ3 H3 n3
      exact ⟨m', hm, σ3, H3, I3, w3⟩
    | brk => exact q3
    | ret v => exact q3
  | false =>
    rw [if_neg Bool.false_ne_true]
    exact wpAny_execs_nil ⟨σ1, H2, I2, q2⟩
end

/-! ### what a loop or a comprehension walks -/
/-- at turn i: it yields x (the heap may grow), or it stops -/
structure It where
  go : Nat → Hp → Prop
  yld : Nat → Hp → V → Hp → Prop
  stop : Nat → Hp → Prop
/-- the iterator's own objects may turn: they are not the frame's, not pinned, younger than the entry (or a comprehension's own) -/
def FpOk (X : Cx) (pins : List (Addr × Obj)) (H : Hp) (b : Addr) : Prop :=
  H b = none ∧ b ≠ X.env.locals ∧ b ∉ X.fs ∧ (b ∈ X.ex ∨ X.s₀.heap.objs.size ≤ b) ∧ (∀ x c, X.env.cells.lookup x = some c → c ≠ b) ∧ ∀ p ∈ X.pn ++ pins, p.1 ≠ b
theorem Inv.fpOk {X : Cx} {pins : List (Addr × Obj)} {σ : St} {H H' : Hp} {s : Shared} {b : Addr} (I : Inv X pins σ H s) (hb : s.heap.objs.size ≤ b) (hn : H' b = none) : FpOk X pins H' b := by
  refine ⟨hn, Nat.ne_of_gt (Nat.lt_of_lt_of_le I.lt hb), I.nofs hb, .inr (Nat.le_trans I.sz hb), fun x c e z => ?_, fun p hp z => ?_⟩
  · obtain ⟨v, q⟩ := I.cell x c e
    exact absurd (Nat.lt_of_lt_of_le q.lt (by rw [z]; exact hb)) (Nat.lt_irrefl _)
  · exact absurd (Nat.lt_of_lt_of_le (Heap.lt_size (I.pin p hp).1) (by rw [z]; exact hb)) (Nat.lt_irrefl _)
structure Turn (P : Program) (w : World) (K : PySem.W.Frag) (tg : Expr) (J : It) (fp : List Addr) (it : Addr) (tn : Nat → Heap → Prop) : Prop where
  mem : it ∈ fp
  obj : ∀ i h, tn i h → ∀ b ∈ fp, ∃ o, h.get? b = some o ∧ ∀ v, o.data ≠ .cell v
  keep : ∀ i h h', tn i h → (∀ b ∈ fp, ∀ o, h.get? b = some o → h'.get? b = some o) → tn i h'
  item : ∀ (X : Cx), X.prog = P → X.w = w → X.K = K → X.calm = true → ∀ (i : Nat) (pins : List (Addr × Obj)) (s : Shared) (σ : St) (H : Hp) (E : Value → Shared → Prop), Inv X pins σ H s → (∀ b ∈ fp, FpOk X pins H b) → tn i s.heap → J.go i H →
    wpAny (model P w) X.A (pyNext (.ref it)) (fun r s1 => ∃ u, r = some u ∧
      wpAny (model P w) X.A (letOwnedTupleGo tg (.ref it) u) (fun _ s2 => ∃ x H', Inv X pins σ H' s2 ∧ RelV x u ∧ J.yld i H x H' ∧ tn (i + 1) s2.heap ∧ ∀ b ∈ fp, H' b = none) E s1) E s
  done : ∀ (X : Cx), X.prog = P → X.w = w → X.K = K → X.calm = true → ∀ (i : Nat) (pins : List (Addr × Obj)) (s : Shared) (σ : St) (H : Hp) (E : Value → Shared → Prop), Inv X pins σ H s → (∀ b ∈ fp, FpOk X pins H b) → tn i s.heap → J.stop i H →
    wpAny (model P w) X.A (pyNext (.ref it)) (fun r s1 => r = none ∧ Inv X pins σ H s1) E s
  self : ∀ (A : Around) (i : Nat) (s : Shared) (Q : Value → Shared → Prop) (E : Value → Shared → Prop), tn i s.heap → Q (.ref it) s → wpAny (model P w) A (pyIter (.ref it)) Q E s
abbrev TI := St → Hp → (It → Hp → Prop) → Prop
/-- an iterator has come -/
def PIE (X : Cx) (pins : List (Addr × Obj)) (σ : St) (tg : Expr) (R : It → Hp → Prop) (itv : Value) (s2 : Shared) : Prop :=
  ∃ (it : Addr) (fp : List Addr) (tn : Nat → Heap → Prop) (J : It) (H' : Hp), itv = .ref it ∧ Inv X pins σ H' s2 ∧ Turn X.prog X.w X.K tg J fp it tn ∧ tn 0 s2.heap ∧ (∀ b ∈ fp, FpOk X pins H' b) ∧ R J H'
def PI (X : Cx) (tg iter : Expr) (wi : TI) : Prop :=
  ∀ (pins : List (Addr × Obj)) (s : Shared) (σ : St) (H : Hp) (R : It → Hp → Prop), Inv X pins σ H s → wi σ H R →
    wpAny (model X.prog X.w) X.A (eval iter X.env) (fun v s1 => wpAny (model X.prog X.w) X.A (pyIter v) (PIE X pins σ tg R) X.xe s1) X.xe s

/-- the step ahead of the store is nothing for an iterator that keeps no tuple -/
theorem go_of {M : Model} {A : Around} {E : Value → Shared → Prop} {s : Shared} {tg : Expr} {it : Addr} {u : Value} {o : Obj} {n : String} {vs : Array Value} {Q : Unit → Shared → Prop} (ho : s.heap.get? it = some o) (hc : o.cls = .type n) (hd : o.data = .fields vs)
    (hn : ["enumerate", "zip", "dict_itemiterator", "dict_reverseitemiterator", "odict_iterator", "itertools.zip_longest", "itertools.pairwise"].contains n = false) (hQ : Q () s) : wpAny M A (letOwnedTupleGo tg (.ref it) u) Q E s := by
  unfold letOwnedTupleGo
  cases tg <;> first
    | exact wpAny_pure hQ
    | (cases u <;> first
        | exact wpAny_pure hQ
        | (refine wpAny_bind (wpAny_load ho ?_)
           rw [hc, hd]
           show wpAny M A (if (["enumerate", "zip", "dict_itemiterator", "dict_reverseitemiterator", "odict_iterator", "itertools.zip_longest", "itertools.pairwise"].contains n && vs[0]? == some (rawInt _)) = true then _ else _) Q E s
           rw [if_neg (by intro h; rw [hn, Bool.false_and] at h; cases h)]
           exact wpAny_pure hQ))

/-- the list at a, as it stands at each turn (a loop may append to it) -/
def Itl (K : PySem.W.Frag) (a : Addr) : It :=
  ⟨fun i H => ∃ xs x, SqL K H a xs ∧ xs[i]? = some x, fun i H x H' => H' = H ∧ ∀ xs, SqL K H a xs → xs[i]? = some x, fun i H => ∃ xs, SqL K H a xs ∧ xs.length ≤ i⟩
def Itt (K : PySem.W.Frag) (a : Addr) : It :=
  ⟨fun i H => ∃ xs x, SqT K H a xs ∧ xs[i]? = some x, fun i H x H' => H' = H ∧ ∀ xs, SqT K H a xs → xs[i]? = some x, fun i H => ∃ xs, SqT K H a xs ∧ xs.length ≤ i⟩
/-- lo, lo + 1, .. (n of them) -/
def Itr (lo : Int) (n : Nat) : It := ⟨fun i _ => i < n, fun i H x H' => H' = H ∧ x = .int (lo + i), fun i _ => n ≤ i⟩
theorem turn_list {P : Program} {w : World} {K : PySem.W.Frag} {tg : Expr} (a it : Addr) : Turn P w K tg (Itl K a) [it] it (fun i h => h.IsListIter it a i) where
  mem := by simp
  obj := fun i h st b hb => by
    have e : b = it := by simpa using hb
    subst e
    obtain ⟨o, e, c, d⟩ := st
    exact ⟨o, e, fun v z => by rw [d] at z; cases z⟩
  keep := fun i h h' st k => st.at fun o e => k it (by simp) o e
  item := by
    intro X hP hw hK hc i pins s σ H E I hf st hg
    subst hP hw hK
    obtain ⟨xs, x, hq, hx⟩ := hg
    obtain ⟨its, rv, p, hz⟩ := I.list hq
    obtain ⟨u, hu, ru⟩ := rv.get hx
    obtain ⟨f0, f1, f2, f3, f4, f5⟩ := hf it (by simp)
    refine wpAny_pyNext_list_item st p.isList (x := u) (by simpa using hu) fun h' st' sb => ?_
    have I1 : Inv X pins σ H { s with heap := h' } := I.turned (t' := s.toks) (fun b o hb e => (sb.2 b hb).trans e) f0 f1 f3 f4 f5
    obtain ⟨o, e, c, d⟩ := id st'
    exact ⟨u, rfl, go_of (s := { s with heap := h' }) e c d (by decide) ⟨x, H, I1, ru, ⟨rfl, fun ys hy => by rw [I.list_inj hy hq]; exact hx⟩, st', fun b hb => (hf b hb).1⟩⟩
  done := by
    intro X hP hw hK hc i pins s σ H E I hf st hg
    subst hP hw hK
    obtain ⟨xs, hq, hx⟩ := hg
    obtain ⟨its, rv, p, hz⟩ := I.list hq
    obtain ⟨f0, f1, f2, f3, f4, f5⟩ := hf it (by simp)
    have hl := rv.length
    exact wpAny_pyNext_list_end (I.ok.hd hc) st p.isList (by simp; omega) fun h' eb => ⟨rfl, I.turned (t' := s.toks) (fun b o hb e => eb b o hb e) f0 f1 f3 f4 f5⟩
  self := fun _ _ _ _ _ st h => wpAny_pyIter_listiter st h
theorem turn_tuple {P : Program} {w : World} {K : PySem.W.Frag} {tg : Expr} (a it : Addr) : Turn P w K tg (Itt K a) [it] it (fun i h => h.IsTupleIter it a i) where
  mem := by simp
  obj := fun i h st b hb => by
    have e : b = it := by simpa using hb
    subst e
    obtain ⟨o, e, c, d⟩ := st
    exact ⟨o, e, fun v z => by rw [d] at z; cases z⟩
  keep := fun i h h' st k => st.at fun o e => k it (by simp) o e
  item := by
    intro X hP hw hK hc i pins s σ H E I hf st hg
    subst hP hw hK
    obtain ⟨xs, x, hq, hx⟩ := hg
    obtain ⟨its, rv, p, hz⟩ := I.tuple hq
    obtain ⟨u, hu, ru⟩ := rv.get hx
    obtain ⟨f0, f1, f2, f3, f4, f5⟩ := hf it (by simp)
    refine wpAny_pyNext_tuple_item st (show s.heap.IsTuple a its.toArray from p) (x := u) (by simpa using hu) fun h' st' sb => ?_
    have I1 : Inv X pins σ H { s with heap := h' } := I.turned (t' := s.toks) (fun b o hb e => (sb.2 b hb).trans e) f0 f1 f3 f4 f5
    obtain ⟨o, e, c, d⟩ := id st'
    exact ⟨u, rfl, go_of (s := { s with heap := h' }) e c d (by decide) ⟨x, H, I1, ru, ⟨rfl, fun ys hy => by rw [I.tuple_inj hy hq]; exact hx⟩, st', fun b hb => (hf b hb).1⟩⟩
  done := by
    intro X hP hw hK hc i pins s σ H E I hf st hg
    subst hP hw hK
    obtain ⟨xs, hq, hx⟩ := hg
    obtain ⟨its, rv, p, hz⟩ := I.tuple hq
    obtain ⟨f0, f1, f2, f3, f4, f5⟩ := hf it (by simp)
    have hl := rv.length
    exact wpAny_pyNext_tuple_end (I.ok.hd hc) st (show s.heap.IsTuple a its.toArray from p) (by simp; omega) fun h' eb => ⟨rfl, I.turned (t' := s.toks) (fun b o hb e => eb b o hb e) f0 f1 f3 f4 f5⟩
  self := fun _ _ _ _ _ st h => wpAny_pyIter_tupleiter st h
theorem turn_range {P : Program} {w : World} {K : PySem.W.Frag} {tg : Expr} (it : Addr) (lo : Int) (n : Nat) : Turn P w K tg (Itr lo n) [it] it (fun i h => IsRangeIter h it (lo + (i : Nat) * 1) ((n : Int) - (i : Nat)) 1) where
  mem := by simp
  obj := fun i h st b hb => by
    have e : b = it := by simpa using hb
    subst e
    exact ⟨_, st, fun v z => by
      have z' : Data.fields _ = Data.cell v := z
      cases z'⟩
  keep := fun i h h' st k => k it (by simp) _ st
  item := by
    intro X hP hw hK hc i pins s σ H E I hf st hg
    subst hP hw hK
    obtain ⟨f0, f1, f2, f3, f4, f5⟩ := hf it (by simp)
    have W := Walks.range (prog := X.prog) (w := X.w) (I.ok.hd hc) it lo 1 n
    refine W.item i s _ _ hg st fun v h' tk hv st' kk => ?_
    obtain ⟨t, rfl⟩ := hv
    have I1 : Inv X pins σ H { s with heap := h', toks := tk } := I.turned (fun b o hb e => kk b o (by simpa using hb) e) f0 f1 f3 f4 f5
    refine ⟨_, rfl, go_of (s := { s with heap := h', toks := tk }) (n := "range_iterator") st' rfl rfl (by decide) ⟨.int (lo + i), H, I1, ⟨t, ?_⟩, ⟨rfl, rfl⟩, st', fun b hb => (hf b hb).1⟩⟩
    rw [Int.mul_one]
  done := by
    intro X hP hw hK hc i pins s σ H E I hf st hg
    subst hP hw hK
    obtain ⟨f0, f1, f2, f3, f4, f5⟩ := hf it (by simp)
    exact wpAny_pyNext_range_end (I.ok.hd hc) st (by have : n ≤ i := hg; omega) fun h' eb => ⟨rfl, I.turned (t' := s.toks) (fun b o hb e => eb b o hb e) f0 f1 f3 f4 f5⟩
  self := fun _ _ _ _ _ st h => wpAny_pyIter_rangeiter st h
end L2

namespace L2
open PySem PySem.Spec PyProof.Rows
section
variable {X : Cx} {tg : Expr}
def iList (K : PySem.W.Frag) (tl : TE) : TI := fun σ H R => tl σ H fun x H1 => ∃ a, x = .ref a ∧ (∃ xs, SqL K H1 a xs) ∧ R (Itl K a) H1
def iTup (K : PySem.W.Frag) (tl : TE) : TI := fun σ H R => tl σ H fun x H1 => ∃ a, x = .ref a ∧ (∃ xs, SqT K H1 a xs) ∧ R (Itt K a) H1
theorem pi_list {l : Expr} {tl : TE} (hl : PE X l tl) : PI X tg l (iList X.K tl) := by
  intro pins s σ H R I h
  refine thn (hl pins s σ H _ I h) fun v s1 ⟨x, H1, I1, r1, q1⟩ => ?_
  obtain ⟨a, e, ⟨xs, hq⟩, q⟩ := q1
  subst e
  cases r1
  obtain ⟨its, rv, p, hz⟩ := I1.list hq
  refine wpAny_pyIter_list p.isList ?_
  refine ⟨s1.heap.objs.size, [s1.heap.objs.size], _, _, H1, rfl, I1.kept (t' := s1.toks) fun b o e => Heap.get?_push_of_some _ e, turn_list a _, ⟨_, Heap.get?_push_size _ rfl, rfl, rfl⟩, fun b hb => ?_, q⟩
  have e : b = s1.heap.objs.size := by simpa using hb
  subst e
  exact I1.fpOk (Nat.le_refl _) (I1.hok.fresh (Nat.le_refl _))
theorem pi_tup {l : Expr} {tl : TE} (hl : PE X l tl) : PI X tg l (iTup X.K tl) := by
  intro pins s σ H R I h
  refine thn (hl pins s σ H _ I h) fun v s1 ⟨x, H1, I1, r1, q1⟩ => ?_
  obtain ⟨a, e, ⟨xs, hq⟩, q⟩ := q1
  subst e
  cases r1
  obtain ⟨its, rv, p, hz⟩ := I1.tuple hq
  refine wpAny_pyIter_tuple (show s1.heap.IsTuple a its.toArray from p) ?_
  refine ⟨s1.heap.objs.size, [s1.heap.objs.size], _, _, H1, rfl, I1.kept (t' := s1.toks) fun b o e => Heap.get?_push_of_some _ e, turn_tuple a _, ⟨_, Heap.get?_push_size _ rfl, rfl, rfl⟩, fun b hb => ?_, q⟩
  have e : b = s1.heap.objs.size := by simpa using hb
  subst e
  exact I1.fpOk (Nat.le_refl _) (I1.hok.fresh (Nat.le_refl _))
/-- a range object just made, walked -/
theorem range_it {pins : List (Addr × Obj)} {σ : St} {H : Hp} {s : Shared} {R : It → Hp → Prop} {E : Value → Shared → Prop} {lo hi : Int} {t u v : Tok} {tk : Nat} (I : Inv X pins σ H s) (h1 : -(2 ^ 62) ≤ lo) (h2 : lo < 2 ^ 62) (h3 : -(2 ^ 62) ≤ hi) (h4 : hi < 2 ^ 62)
    (q : R (Itr lo (hi - lo).toNat) H) : wpAny (model X.prog X.w) X.A (pyIter (.ref s.heap.objs.size)) (PIE X pins σ tg R) E { s with heap := s.heap.push { cls := .type "range", data := .fields #[.int lo t, .int hi u, .int 1 v] }, toks := tk } := by
  refine wpAny_pyIter_range (IsRange.new ..) (small_one h1 h2 h3 h4) ?_
  have I1 : Inv X pins σ H { s with heap := s.heap.push { cls := .type "range", data := .fields #[.int lo t, .int hi u, .int 1 v] }, toks := tk } := I.kept fun b o e => Heap.get?_push_of_some _ e
  refine ⟨(s.heap.push { cls := .type "range", data := .fields #[.int lo t, .int hi u, .int 1 v] }).objs.size, [(s.heap.push { cls := .type "range", data := .fields #[.int lo t, .int hi u, .int 1 v] }).objs.size], _, _, H, rfl,
    I1.kept (t' := tk) fun b o e => Heap.get?_push_of_some _ e, turn_range _ lo (hi - lo).toNat, ?_, fun b hb => ?_, q⟩
  · have e1 : lo + ((0 : Nat) : Int) * 1 = lo := by simp
    have e2 : (((hi - lo).toNat : Nat) : Int) - ((0 : Nat) : Int) = Builtin.Range.rangeSize lo hi 1 := by rw [rangeSize_one]; split <;> omega
    show IsRangeIter _ _ (lo + ((0 : Nat) : Int) * 1) ((((hi - lo).toNat : Nat) : Int) - ((0 : Nat) : Int)) 1
    rw [e1, e2]
    exact Heap.get?_push_size _ rfl
  · have e : b = (s.heap.push { cls := .type "range", data := .fields #[.int lo t, .int hi u, .int 1 v] }).objs.size := by simpa using hb
    subst e
    exact I1.fpOk (Nat.le_refl _) (I1.hok.fresh (Nat.le_refl _))
def iRng1 (ta : TA) : TI := fun σ H R => ta σ H fun vs H1 => ∃ j : Int, vs = [.int j] ∧ -(2 ^ 62) ≤ j ∧ j < 2 ^ 62 ∧ R (Itr 0 j.toNat) H1
def iRng2 (ta : TA) : TI := fun σ H R => ta σ H fun vs H1 => ∃ i j : Int, vs = [.int i, .int j] ∧ (-(2 ^ 62) ≤ i ∧ i < 2 ^ 62 ∧ -(2 ^ 62) ≤ j ∧ j < 2 ^ 62) ∧ R (Itr i (j - i).toNat) H1
theorem pi_range1 {a : Expr} {ta : TA} {p pos : Pos} (hg : Gl X "range") (hm : X.mg "range" = none) (ha : PA X [a] ta) (hs : starEach [a] X.env = [(false, eval a X.env)] := by rfl) : PI X tg (.Call (.Name "range" p) [a] [] pos) (iRng1 ta) := by
  intro pins s σ H R I h
  refine Call_ (ld_blt I hg hm boot_range (PyProof.Rows.callWith_type1 (thn (ha pos pins s σ H _ I h) fun us s1 ⟨vs, H1, I1, r1, q1⟩ => ?_) hs rfl))
  obtain ⟨j, e, q1, q2, q⟩ := q1
  subst e
  cases r1 with
  | cons r rr =>
    cases rr
    obtain ⟨t, rfl⟩ := r
    exact call_range_1 (range_it I1 (by omega) (by omega) q1 q2 (by simpa using q))
theorem pi_range2 {a b : Expr} {ta : TA} {p pos : Pos} (hg : Gl X "range") (hm : X.mg "range" = none) (ha : PA X [a, b] ta) (hs : starEach [a, b] X.env = [(false, eval a X.env), (false, eval b X.env)] := by rfl) (hs2 : starEach [b] X.env = [(false, eval b X.env)] := by rfl) :
    PI X tg (.Call (.Name "range" p) [a, b] [] pos) (iRng2 ta) := by
  intro pins s σ H R I h
  refine Call_ (ld_blt I hg hm boot_range (PyProof.Rows.callWith_type1 (thn (ha pos pins s σ H _ I h) fun us s1 ⟨vs, H1, I1, r1, q1⟩ => ?_) (by rw [hs, hs2]) (by rw [hs2]; rfl)))
  obtain ⟨i, j, e, ⟨q1, q2, q3, q4⟩, q⟩ := q1
  subst e
  cases r1 with
  | cons r rr =>
    cases rr with
    | cons r' rr =>
      cases rr
      obtain ⟨t, rfl⟩ := r
      obtain ⟨t', rfl⟩ := r'
      exact call_range_2 (range_it I1 q1 q2 q3 q4 q)

/-! ### for -/
/-- W: the invariant by the turn and a measure; N: what the body is to reach -/
def tFor (wi : TI) (g : TG) (tb : TS) : TS := fun D σ H => wi σ H fun J H1 => ∃ W : Nat → Nat → St → Hp → Prop, (∃ m, W 0 m σ H1) ∧ ∀ i m σ H, W i m σ H →
  (J.stop i H ∧ D.nx σ H) ∨ (J.go i H ∧ ∃ N : St → Hp → Prop, (∀ σ' H', N σ' H' → ∃ m', m' < m ∧ W (i + 1) m' σ' H') ∧ ∀ x H', J.yld i H x H' → g x σ H' fun σ2 H2 => tb { D with nx := N, ct := N, bk := D.nx } σ2 H2)
/-- the records at fp as they stand -/
def pinsAt (fp : List Addr) (h : Heap) : List (Addr × Obj) := fp.filterMap fun b => (h.get? b).map fun o => (b, o)
theorem mem_pinsAt {fp : List Addr} {h : Heap} {b : Addr} {o : Obj} (hb : b ∈ fp) (e : h.get? b = some o) : (b, o) ∈ pinsAt fp h := List.mem_filterMap.mpr ⟨b, hb, by rw [e]; rfl⟩
theorem of_pinsAt {fp : List Addr} {h : Heap} {p : Addr × Obj} (hp : p ∈ pinsAt fp h) : p.1 ∈ fp ∧ h.get? p.1 = some p.2 := by
  obtain ⟨b, hb, e⟩ := List.mem_filterMap.mp hp
  cases q : h.get? b with
  | none => rw [q] at e; cases e
  | some o =>
    rw [q] at e
    have e' : (b, o) = p := Option.some.inj e
    subst e'
    exact ⟨hb, q⟩
theorem Inv.pinned {pins : List (Addr × Obj)} {σ : St} {H : Hp} {s : Shared} {fp : List Addr} (I : Inv X pins σ H s) (hf : ∀ b ∈ fp, FpOk X pins H b) (ho : ∀ b ∈ fp, ∃ o, s.heap.get? b = some o ∧ ∀ v, o.data ≠ .cell v) : Inv X (pins ++ pinsAt fp s.heap) σ H s :=
  I.pins_of fun p hp => (List.mem_append.mp hp).elim (fun z => I.pin p (List.mem_append_right _ z)) fun z => by
    obtain ⟨hb, e⟩ := of_pinsAt z
    obtain ⟨f0, f1, f2, _⟩ := hf p.1 hb
    obtain ⟨o, e', d⟩ := ho p.1 hb
    rw [e] at e'; cases e'
    exact ⟨e, f0, f1, f2, d⟩
theorem Inv.unpinned {pins pl : List (Addr × Obj)} {σ : St} {H : Hp} {s : Shared} (I : Inv X (pins ++ pl) σ H s) : Inv X pins σ H s := I.pins_of fun p hp => I.pin p (List.mem_append_right _ (List.mem_append_left _ hp))
theorem ps_for {iter : Expr} {body : List Stmt} {wi : TI} {g : TG} {tb : TS} {pos : Pos} (hp : PassesOwn (model X.prog X.w) X.A X.env X.xe) (hc : X.calm = true) (hi : PI X tg iter wi) (hg : PG X tg g) (hb : PSs X body tb)
    (hs : ∀ x, foldedSetIterable iter X.env x = pure x := by intro _; rfl) : PS X (.For tg iter body [] pos) (tFor wi g tb) := by
  intro pins s σ H D I h
  refine wpAny_For (thn (hi pins s σ H _ I h) fun v s1 h1 => thn h1 fun itv s2 h2 => ?_) hs
  obtain ⟨it, fp, tn, J, H2, e, I2, T, st2, f2, W, ⟨m0, w0⟩, turn⟩ := h2
  subst e
  have stat : ∀ {H' : Hp}, (∀ b ∈ fp, H' b = none) → ∀ b ∈ fp, FpOk X pins H' b := fun hn b hb => ⟨hn b hb, (f2 b hb).2⟩
  refine codeAny_forLoop_any (fun n s' => ∃ i σ' H', Inv X pins σ' H' s' ∧ tn i s'.heap ∧ (∀ b ∈ fp, H' b = none) ∧ W i n σ' H') ?_ m0 ⟨0, σ, H2, I2, st2, fun b hb => (f2 b hb).1, w0⟩
  rintro n s3 ⟨i, σ3, H3, I3, st3, fr3, w3⟩
  rcases turn i n σ3 H3 w3 with ⟨stop, qn⟩ | ⟨go, N, hN, step⟩
  · refine wpAny_passesOwn hp (thn (T.done X rfl rfl rfl hc i pins s3 σ3 H3 X.xe I3 (stat fr3) st3 stop) fun r s4 ⟨hr, I4⟩ => ?_)
    subst hr
    exact wpAny_execs_nil ⟨σ3, H3, I4, qn⟩
  · refine wpAny_passesOwn hp (thn (T.item X rfl rfl rfl hc i pins s3 σ3 H3 X.xe I3 (stat fr3) st3 go) fun r s4 ⟨u, hr, h4⟩ => ?_)
    subst hr
    refine wpAny_passesOwn hp (thn h4 fun _ s5 ⟨x, H5, I5, r5, y5, st5, fr5⟩ => ?_)
    have I5' := I5.pinned (stat fr5) (T.obj _ _ st5)
    refine wpAny_passesOwn hp (thn (hg _ s5 σ3 H5 x u _ I5' r5 (step x H5 y5)) fun _ s6 ⟨σ6, H6, I6, q6⟩ => ?_)
    refine wpAny_passesOwn hp (thn (hb _ s6 σ6 H6 _ I6 q6) fun f s7 q7 => ?_)
    have again : ∀ {σ7 : St} {H7 : Hp}, Inv X (pins ++ pinsAt fp s5.heap) σ7 H7 s7 → N σ7 H7 → ∃ m, m < n ∧ ∃ i σ' H', Inv X pins σ' H' s7 ∧ tn i s7.heap ∧ (∀ b ∈ fp, H' b = none) ∧ W i m σ' H' := fun {σ7 H7} I7 n7 => by
      obtain ⟨m', hm, w7⟩ := hN σ7 H7 n7
      refine ⟨m', hm, i + 1, σ7, H7, I7.unpinned, T.keep _ _ _ st5 fun b hb o e => (I7.pin (b, o) (List.mem_append_right _ (List.mem_append_right _ (mem_pinsAt hb e)))).1, fun b hb => ?_, w7⟩
      obtain ⟨o, e, d⟩ := T.obj _ _ st5 b hb
      exact (I7.pin (b, o) (List.mem_append_right _ (List.mem_append_right _ (mem_pinsAt hb e)))).2.1
    cases f with
    | next => obtain ⟨σ7, H7, I7, n7⟩ := q7; exact again I7 n7
    | cont => obtain ⟨σ7, H7, I7, n7⟩ := q7; exact again I7 n7
    | brk => obtain ⟨σ7, H7, I7, q7⟩ := q7; exact ⟨σ7, H7, I7.unpinned, q7⟩
    | ret v => obtain ⟨x7, σ7, H7, I7, r7, q7⟩ := q7; exact ⟨x7, σ7, H7, I7.unpinned, r7, q7⟩
end

/-! ### the forms one uses -/
/-- over a list that the body leaves as it is -/
theorem for_list {K : PySem.W.Frag} {a : Addr} {xs : List V} {g : TG} {tb : TS} {D : Ends} {σ : St} {H : Hp} (Pv : Nat → St → Hp → Prop) (h0 : Pv 0 σ H) (hl : ∀ i σ H, i ≤ xs.length → Pv i σ H → SqL K H a xs)
    (hs : ∀ i x σ H, xs[i]? = some x → Pv i σ H → g x σ H fun σ2 H2 => tb { D with nx := Pv (i + 1), ct := Pv (i + 1), bk := D.nx } σ2 H2) (hd : ∀ σ H, Pv xs.length σ H → D.nx σ H) :
    ∃ W : Nat → Nat → St → Hp → Prop, (∃ m, W 0 m σ H) ∧ ∀ i m σ H, W i m σ H →
      ((Itl K a).stop i H ∧ D.nx σ H) ∨ ((Itl K a).go i H ∧ ∃ N : St → Hp → Prop, (∀ σ' H', N σ' H' → ∃ m', m' < m ∧ W (i + 1) m' σ' H') ∧ ∀ x H', (Itl K a).yld i H x H' → g x σ H' fun σ2 H2 => tb { D with nx := N, ct := N, bk := D.nx } σ2 H2) := by
  refine ⟨fun i m σ H => m = xs.length - i ∧ i ≤ xs.length ∧ Pv i σ H, ⟨xs.length, by simp, Nat.zero_le _, h0⟩, ?_⟩
  rintro i m σ H ⟨rfl, hi, p⟩
  have q := hl i σ H hi p
  by_cases hlt : i < xs.length
  · refine .inr ⟨⟨xs, xs[i], q, by simp [hlt]⟩, Pv (i + 1), fun σ' H' p' => ⟨xs.length - (i + 1), by omega, rfl, hlt, p'⟩, fun x H' y => ?_⟩
    obtain ⟨e, y⟩ := y
    subst e
    exact hs i x σ _ (y xs q) p
  · have e : i = xs.length := by omega
    subst e
    exact .inl ⟨⟨xs, q, Nat.le_refl _⟩, hd σ H p⟩
theorem for_range {lo : Int} {n : Nat} {g : TG} {tb : TS} {D : Ends} {σ : St} {H : Hp} (Pv : Nat → St → Hp → Prop) (h0 : Pv 0 σ H)
    (hs : ∀ i σ H, i < n → Pv i σ H → g (.int (lo + i)) σ H fun σ2 H2 => tb { D with nx := Pv (i + 1), ct := Pv (i + 1), bk := D.nx } σ2 H2) (hd : ∀ σ H, Pv n σ H → D.nx σ H) :
    ∃ W : Nat → Nat → St → Hp → Prop, (∃ m, W 0 m σ H) ∧ ∀ i m σ H, W i m σ H →
      ((Itr lo n).stop i H ∧ D.nx σ H) ∨ ((Itr lo n).go i H ∧ ∃ N : St → Hp → Prop, (∀ σ' H', N σ' H' → ∃ m', m' < m ∧ W (i + 1) m' σ' H') ∧ ∀ x H', (Itr lo n).yld i H x H' → g x σ H' fun σ2 H2 => tb { D with nx := N, ct := N, bk := D.nx } σ2 H2) := by
  refine ⟨fun i m σ H => m = n - i ∧ i ≤ n ∧ Pv i σ H, ⟨n, by simp, Nat.zero_le _, h0⟩, ?_⟩
  rintro i m σ H ⟨rfl, hi, p⟩
  by_cases hlt : i < n
  · refine .inr ⟨hlt, Pv (i + 1), fun σ' H' p' => ⟨n - (i + 1), by omega, rfl, hlt, p'⟩, fun x H' y => ?_⟩
    obtain ⟨e, y⟩ := y
    subst e y
    exact hs i σ _ hlt p
  · have e : i = n := by omega
    subst e
    exact .inl ⟨Nat.le_refl _, hd σ H p⟩
end L2

namespace L2
open PySem PySem.Spec PyProof.Rows

abbrev R2 := V → V → Hp → VK → Prop
/-- a two-place operation on values: f is binaryOp op, inplaceOp op or compareOp op -/
def OpR (X : Cx) (f : Value → Value → Sem Value) (r : R2) : Prop :=
  ∀ (pins : List (Addr × Obj)) (s : Shared) (σ : St) (H : Hp) (x y : V) (v u : Value) (Q : VK), Inv X pins σ H s → RelV x v → RelV y u → r x y H Q →
    wpAny (model X.prog X.w) X.A (f v u) (EP X pins σ Q) X.xe s
/-- a one-place operation -/
def UnR (X : Cx) (f : Value → Sem Value) (r : V → Hp → VK → Prop) : Prop :=
  ∀ (pins : List (Addr × Obj)) (s : Shared) (σ : St) (H : Hp) (x : V) (v : Value) (Q : VK), Inv X pins σ H s → RelV x v → r x H Q →
    wpAny (model X.prog X.w) X.A (f v) (EP X pins σ Q) X.xe s
/-- a call of a value that is known (a builtin, a type) with values -/
def CallR (X : Cx) (f : Value) (r : List V → Hp → VK → Prop) : Prop :=
  ∀ (pins : List (Addr × Obj)) (s : Shared) (σ : St) (H : Hp) (xs : List V) (us : List Value) (Q : VK), Inv X pins σ H s → Vals xs us → r xs H Q →
    wpAny (model X.prog X.w) X.A (call f us) (EP X pins σ Q) X.xe s
/-- a value's truth -/
def TruR (X : Cx) (r : V → Hp → (Bool → Hp → Prop) → Prop) : Prop :=
  ∀ (pins : List (Addr × Obj)) (s : Shared) (σ : St) (H : Hp) (x : V) (v : Value) (Q : Bool → Hp → Prop), Inv X pins σ H s → RelV x v → r x H Q →
    wpAny (model X.prog X.w) X.A (truthy v) (TP X pins σ Q) X.xe s

def tOp (r : R2) (ta tb : TE) : TE := fun σ H Q => ta σ H fun x H1 => tb σ H1 fun y H2 => r x y H2 Q
def tUn (r : V → Hp → VK → Prop) (ta : TE) : TE := fun σ H Q => ta σ H fun x H1 => r x H1 Q
/-- ints in, under C, and a value out -/
def rI (C : Int → Int → Prop) (g : Int → Int → V) : R2 := fun x y H Q => ∃ i j, x = .int i ∧ y = .int j ∧ C i j ∧ Q (g i j) H
def rI0 (g : Int → Int → V) : R2 := fun x y H Q => ∃ i j, x = .int i ∧ y = .int j ∧ Q (g i j) H
def rU (g : Int → V) : V → Hp → VK → Prop := fun x H Q => ∃ i, x = .int i ∧ Q (g i) H

section
variable {X : Cx} {a b c : Expr} {ta tb tc : TE} {pos : Pos}

theorem binT (ha : PE X a ta) (hb : PE X b tb) {pins : List (Addr × Obj)} {s : Shared} {σ : St} {H : Hp} {R : V → V → Hp → Prop} (I : Inv X pins σ H s)
    (h : ta σ H fun x H1 => tb σ H1 fun y H2 => R x y H2) {Q : Value → Shared → Prop} {f : Value → Value → Sem Value}
    (hf : ∀ v u s2 x y H2, Inv X pins σ H2 s2 → RelV x v → RelV y u → R x y H2 → wpAny (model X.prog X.w) X.A (f v u) Q X.xe s2) :
    wpAny (model X.prog X.w) X.A (eval a X.env) (fun v s₁ => wpAny (model X.prog X.w) X.A (eval b X.env) (fun u s₂ => wpAny (model X.prog X.w) X.A (f v u) Q X.xe s₂) X.xe s₁) X.xe s := by
  refine thn (ha pins s σ H _ I h) fun v s1 ⟨x, H1, I1, r1, q1⟩ => ?_
  refine thn (hb pins s1 σ H1 _ I1 q1) fun u s2 ⟨y, H2, I2, r2, q2⟩ => ?_
  exact hf v u s2 x y H2 I2 r1 r2 q2

theorem pe_op {op : Operator} {r : R2} (ho : OpR X (binaryOp op) r) (ha : PE X a ta) (hb : PE X b tb) : PE X (.BinOp a op b pos) (tOp r ta tb) := by
  intro pins s σ H Q I h
  exact wpAny_BinOp (binT ha hb I h fun v u s2 x y H2 I2 rx ry q => ho pins s2 σ H2 x y v u Q I2 rx ry q)
theorem pe_un {op : UnaryOp} {r : V → Hp → VK → Prop} (ho : UnR X (unaryOp op) r) (ha : PE X a ta) : PE X (.UnaryOp op a pos) (tUn r ta) := by
  intro pins s σ H Q I h
  exact UnaryOp_ (thn (ha pins s σ H _ I h) fun v s1 ⟨x, H1, I1, r1, q1⟩ => ho pins s1 σ H1 x v Q I1 r1 q1)

/-! ### ints -/
theorem opI {f : Value → Value → Sem Value} {C : Int → Int → Prop} {g : Int → Int → Int}
    (rule : ∀ (i j : Int) (t u : Tok) (s : Shared) (Q : Value → Shared → Prop) (E : Value → Shared → Prop), C i j → Q (.int (g i j) s.toks) { s with toks := s.toks + 1 } → wpAny (model X.prog X.w) X.A (f (.int i t) (.int j u)) Q E s) :
    OpR X f (rI C fun i j => .int (g i j)) := by
  intro pins s σ H x y v u Q I rx ry h
  obtain ⟨i, j, rfl, rfl, hc, q⟩ := h
  obtain ⟨t, rfl⟩ := rx
  obtain ⟨t', rfl⟩ := ry
  exact rule i j t t' s _ _ hc ⟨.int (g i j), H, I.tok _, ⟨_, rfl⟩, q⟩
theorem opI0 {f : Value → Value → Sem Value} {g : Int → Int → Int}
    (rule : ∀ (i j : Int) (t u : Tok) (s : Shared) (Q : Value → Shared → Prop) (E : Value → Shared → Prop), Q (.int (g i j) s.toks) { s with toks := s.toks + 1 } → wpAny (model X.prog X.w) X.A (f (.int i t) (.int j u)) Q E s) :
    OpR X f (rI0 fun i j => .int (g i j)) := by
  intro pins s σ H x y v u Q I rx ry h
  obtain ⟨i, j, rfl, rfl, q⟩ := h
  obtain ⟨t, rfl⟩ := rx
  obtain ⟨t', rfl⟩ := ry
  exact rule i j t t' s _ _ ⟨.int (g i j), H, I.tok _, ⟨_, rfl⟩, q⟩
theorem opB0 {f : Value → Value → Sem Value} {g : Int → Int → Bool}
    (rule : ∀ (i j : Int) (t u : Tok) (s : Shared) (Q : Value → Shared → Prop) (E : Value → Shared → Prop), Q (.bool (g i j)) s → wpAny (model X.prog X.w) X.A (f (.int i t) (.int j u)) Q E s) :
    OpR X f (rI0 fun i j => .bl (g i j)) := by
  intro pins s σ H x y v u Q I rx ry h
  obtain ⟨i, j, rfl, rfl, q⟩ := h
  obtain ⟨t, rfl⟩ := rx
  obtain ⟨t', rfl⟩ := ry
  exact rule i j t t' s _ _ ⟨.bl (g i j), H, I, rfl, q⟩

def CDiv (i j : Int) : Prop := 0 < j ∧ j < 1073741824
def CPow (i j : Int) : Prop := 0 ≤ j ∧ j ≤ 1000000 ∧ i.natAbs < 2 ^ 64
def CMul (i j : Int) : Prop := (-(2 ^ 64) < i ∧ i < 2 ^ 64) ∨ (-(2 ^ 64) < j ∧ j < 2 ^ 64)
theorem CMul.ok {i j : Int} (h : CMul i j) : IntMulOk i j := by
  rcases h with ⟨h1, h2⟩ | ⟨h1, h2⟩
  · exact .of_left (intBits_le_64 h1 h2)
  · exact .of_right (intBits_le_64 h1 h2)
theorem two_pow_nn (k : Nat) : (0 : Int) ≤ 2 ^ k := by
  rw [two_pow_cast]
  exact Int.natCast_nonneg _

theorem op_add : OpR X (binaryOp .Add) (rI0 fun i j => .int (i + j)) := opI0 fun _ _ _ _ _ _ _ q => add_int q
theorem op_sub : OpR X (binaryOp .Sub) (rI0 fun i j => .int (i - j)) := opI0 fun _ _ _ _ _ _ _ q => sub_int q
theorem op_mul : OpR X (binaryOp .Mult) (rI CMul fun i j => .int (i * j)) := opI fun _ _ _ _ _ _ _ hc q => mul_int q hc.ok
/-- // by a positive divisor -/
theorem op_fdiv : OpR X (binaryOp .FloorDiv) (rI CDiv fun i j => .int (i / j)) := opI fun i j _ _ _ _ _ hc q => by
  have h1 : (0 : Int) < j := hc.1
  have h2 : j < 1073741824 := hc.2
  exact floordiv_int (by omega) (by rw [Int.fdiv_eq_ediv_of_nonneg i (by omega)]; exact q) (.inl (PyProof.noPylong_small (by omega)))
/-- % by a positive divisor of any size -/
theorem op_mod : OpR X (binaryOp .Mod) (rI (fun _ j => 0 < j) fun i j => .int (i % j)) := opI fun i j _ _ _ _ _ hc q => by
  have h1 : (0 : Int) < j := hc
  exact mod_int' (by omega) (by rw [Int.fmod_eq_emod_of_nonneg i (by omega)]; exact q)
theorem op_shl : OpR X (binaryOp .LShift) (rI CPow fun i j => .int (i * 2 ^ j.toNat)) := opI fun _ _ _ _ _ _ _ hc q => lshift_int_small hc.1 hc.2.1 hc.2.2 q
theorem op_shr : OpR X (binaryOp .RShift) (rI (fun _ j => 0 ≤ j) fun i j => .int (i / 2 ^ j.toNat)) := opI fun i j _ _ _ _ _ hc q =>
  rshift_int hc (by rw [Int.fdiv_eq_ediv_of_nonneg i (two_pow_nn _)]; exact q)
theorem op_and : OpR X (binaryOp .BitAnd) (rI0 fun i j => .int (Builtin.bitAnd i j)) := opI0 fun _ _ _ _ _ _ _ q => and_int q
theorem op_or : OpR X (binaryOp .BitOr) (rI0 fun i j => .int (Builtin.bitOr i j)) := opI0 fun _ _ _ _ _ _ _ q => or_int q


theorem unI {f : Value → Sem Value} {g : Int → Int}
    (rule : ∀ (i : Int) (t : Tok) (s : Shared) (Q : Value → Shared → Prop) (E : Value → Shared → Prop), Q (.int (g i) s.toks) { s with toks := s.toks + 1 } → wpAny (model X.prog X.w) X.A (f (.int i t)) Q E s) :
    UnR X f (rU fun i => .int (g i)) := by
  intro pins s σ H x v Q I rx h
  obtain ⟨i, rfl, q⟩ := h
  obtain ⟨t, rfl⟩ := rx
  exact rule i t s _ _ ⟨.int (g i), H, I.tok _, ⟨_, rfl⟩, q⟩
theorem un_neg : UnR X (unaryOp .USub) (rU fun i => .int (-i)) := unI fun _ _ _ _ _ q => neg_int q

/-! ### bools among ints: n += (a < b) -/
end

/-! ### comparisons -/
/-- the scalars that == tells apart as data does -/
def scal : V → V → Bool
  | .non, .non => true | .non, .int _ => true | .int _, .non => true | .non, .bl _ => true | .bl _, .non => true | .non, .str _ => true | .str _, .non => true
  | .int _, .int _ => true | .bl _, .bl _ => true | .str _, .str _ => true | .byt _, .byt _ => true
  | .int _, .str _ => true | .str _, .int _ => true | .bl _, .str _ => true | .str _, .bl _ => true
  | _, _ => false
def rEq : R2 := fun x y H Q => scal x y = true ∧ Q (.bl (decide (x = y))) H
def rNe : R2 := fun x y H Q => scal x y = true ∧ Q (.bl (!decide (x = y))) H

theorem dec_int {i j : Int} : decide (V.int i = V.int j) = (i == j) := by
  rw [Bool.eq_iff_iff]
  simp
theorem dec_bl {i j : Bool} : decide (V.bl i = V.bl j) = (i == j) := by
  rw [Bool.eq_iff_iff]
  simp
theorem dec_str {i j : Str} : decide (V.str i = V.str j) = (i == j) := by
  rw [Bool.eq_iff_iff]
  simp
theorem dec_byt {i j : Array UInt8} : decide (V.byt i = V.byt j) = (i.toList == j.toList) := by
  rw [Bool.eq_iff_iff]
  cases i
  cases j
  simp

section
variable {X : Cx} {a b c : Expr} {ta tb tc : TE} {pos : Pos}
theorem fin_bl {pins : List (Addr × Obj)} {σ : St} {H : Hp} {s : Shared} {Q : VK} {k k' : Bool} (I : Inv X pins σ H s) (q : Q (.bl k) H) (e : k = k') : EP X pins σ Q (.bool k') s := by
  subst e
  exact ⟨.bl k, H, I, rfl, q⟩
theorem op_eq : OpR X (compareOp .Eq) rEq := by
  intro pins s σ H x y v u Q I rx ry h
  obtain ⟨hs, q⟩ := h
  cases x with
  | non =>
    cases rx
    cases y with
    | non => cases ry; exact PySem.EqNone.eq_none_none (fin_bl I q (by simp))
    | bl j => cases ry; exact PySem.EqNone.eq_none_bool (fin_bl I q (by simp))
    | int j => obtain ⟨t', rfl⟩ := ry; exact PySem.EqNone.eq_none_int (fin_bl I q (by simp))
    | str j => obtain ⟨t', rfl⟩ := ry; exact PySem.EqNone.eq_none_str (fin_bl I q (by simp))
    | _ => exact absurd (show false = true from hs) Bool.false_ne_true
  | bl i =>
    cases rx
    cases y with
    | non => cases ry; exact PySem.EqNone.eq_bool_none (fin_bl I q (by simp))
    | bl j => cases ry; exact eq_bool (fin_bl I q dec_bl)
    | str j => obtain ⟨t', rfl⟩ := ry; exact PySem.EqMixed.eq_bool_str (fin_bl I q (by simp))
    | _ => exact absurd (show false = true from hs) Bool.false_ne_true
  | int i =>
    obtain ⟨t, rfl⟩ := rx
    cases y with
    | non => cases ry; exact PySem.EqNone.eq_int_none (fin_bl I q (by simp))
    | int j => obtain ⟨t', rfl⟩ := ry; exact eq_int (fin_bl I q dec_int)
    | str j => obtain ⟨t', rfl⟩ := ry; exact PySem.EqMixed.eq_int_str (fin_bl I q (by simp))
    | _ => exact absurd (show false = true from hs) Bool.false_ne_true
  | str i =>
    obtain ⟨t, rfl⟩ := rx
    cases y with
    | non => cases ry; exact PySem.EqNone.eq_str_none (fin_bl I q (by simp))
    | bl j => cases ry; exact PySem.EqMixed.eq_str_bool (fin_bl I q (by simp))
    | int j => obtain ⟨t', rfl⟩ := ry; exact PySem.EqMixed.eq_str_int (fin_bl I q (by simp))
    | str j => obtain ⟨t', rfl⟩ := ry; exact eq_str (fin_bl I q dec_str)
    | _ => exact absurd (show false = true from hs) Bool.false_ne_true
  | byt i =>
    obtain ⟨t, rfl⟩ := rx
    cases y with
    | byt j => obtain ⟨t', rfl⟩ := ry; exact PySem.W.eq_bytes (fin_bl I q dec_byt)
    | _ => exact absurd (show false = true from hs) Bool.false_ne_true
  | _ => cases y <;> exact absurd (show false = true from hs) Bool.false_ne_true
theorem op_ne : OpR X (compareOp .NotEq) rNe := by
  intro pins s σ H x y v u Q I rx ry h
  obtain ⟨hs, q⟩ := h
  cases x with
  | non =>
    cases rx
    cases y with
    | non => cases ry; exact PySem.EqNone.ne_none_none (fin_bl I q (by simp))
    | bl j => cases ry; exact PySem.EqNone.ne_none_bool (fin_bl I q (by simp))
    | int j => obtain ⟨t', rfl⟩ := ry; exact PySem.EqNone.ne_none_int (fin_bl I q (by simp))
    | str j => obtain ⟨t', rfl⟩ := ry; exact PySem.EqNone.ne_none_str (fin_bl I q (by simp))
    | _ => exact absurd (show false = true from hs) Bool.false_ne_true
  | bl i =>
    cases rx
    cases y with
    | non => cases ry; exact PySem.EqNone.ne_bool_none (fin_bl I q (by simp))
    | bl j => cases ry; exact ne_bool (fin_bl I q (congrArg not dec_bl))
    | str j => obtain ⟨t', rfl⟩ := ry; exact PySem.EqMixed.ne_bool_str (fin_bl I q (by simp))
    | _ => exact absurd (show false = true from hs) Bool.false_ne_true
  | int i =>
    obtain ⟨t, rfl⟩ := rx
    cases y with
    | non => cases ry; exact PySem.EqNone.ne_int_none (fin_bl I q (by simp))
    | int j => obtain ⟨t', rfl⟩ := ry; exact ne_int (fin_bl I q (congrArg not dec_int))
    | str j => obtain ⟨t', rfl⟩ := ry; exact PySem.EqMixed.ne_int_str (fin_bl I q (by simp))
    | _ => exact absurd (show false = true from hs) Bool.false_ne_true
  | str i =>
    obtain ⟨t, rfl⟩ := rx
    cases y with
    | non => cases ry; exact PySem.EqNone.ne_str_none (fin_bl I q (by simp))
    | bl j => cases ry; exact PySem.EqMixed.ne_str_bool (fin_bl I q (by simp))
    | int j => obtain ⟨t', rfl⟩ := ry; exact PySem.EqMixed.ne_str_int (fin_bl I q (by simp))
    | str j => obtain ⟨t', rfl⟩ := ry; exact ne_str (fin_bl I q (congrArg not dec_str))
    | _ => exact absurd (show false = true from hs) Bool.false_ne_true
  | byt i =>
    obtain ⟨t, rfl⟩ := rx
    cases y with
    | byt j => obtain ⟨t', rfl⟩ := ry; exact PySem.W.ne_bytes (fin_bl I q (congrArg not dec_byt))
    | _ => exact absurd (show false = true from hs) Bool.false_ne_true
  | _ => cases y <;> exact absurd (show false = true from hs) Bool.false_ne_true

theorem op_lt : OpR X (compareOp .Lt) (rI0 fun i j => .bl (decide (i < j))) := opB0 fun _ _ _ _ _ _ _ q => lt_int q
theorem op_le : OpR X (compareOp .LtE) (rI0 fun i j => .bl (decide (i ≤ j))) := opB0 fun _ _ _ _ _ _ _ q => le_int q
theorem op_gt : OpR X (compareOp .Gt) (rI0 fun i j => .bl (decide (j < i))) := opB0 fun _ _ _ _ _ _ _ q => gt_int q
theorem op_ge : OpR X (compareOp .GtE) (rI0 fun i j => .bl (decide (j ≤ i))) := opB0 fun _ _ _ _ _ _ _ q => ge_int q

/-- is None, is not None: the right side a value none -/
theorem op_isN : OpR X (compareOp .Is) (fun x y H Q => y = .non ∧ Q (.bl (decide (x = .non))) H) := by
  intro pins s σ H x y v u Q I rx ry h
  obtain ⟨rfl, q⟩ := h
  cases ry
  refine is_none_gen (fin_bl I q ?_)
  cases x <;> first
    | (cases rx; rfl)
    | (obtain ⟨t, rfl⟩ := rx; rfl)
theorem op_notN : OpR X (compareOp .IsNot) (fun x y H Q => y = .non ∧ Q (.bl (!decide (x = .non))) H) := by
  intro pins s σ H x y v u Q I rx ry h
  obtain ⟨rfl, q⟩ := h
  cases ry
  refine isnot_none_gen (fin_bl I q ?_)
  cases x <;> first
    | (cases rx; rfl)
    | (obtain ⟨t, rfl⟩ := rx; rfl)



theorem nomark (b : Expr) {op : CmpOp} (h : op ≠ .In := by decide) (h2 : op ≠ .NotIn := by decide) : behindInMarks op b = false := by
  have e1 : (op == CmpOp.In) = false := by cases op <;> first | rfl | exact absurd rfl h
  have e2 : (op == CmpOp.NotIn) = false := by cases op <;> first | rfl | exact absurd rfl h2
  cases b <;> simp [behindInMarks, e1, e2]
/-- a comparison as a value; hm: nomark b, or (for in, not in) by with_unfolding_all rfl -/
theorem pe_cmpR {op : CmpOp} {r : R2} (ho : OpR X (compareOp op) r) (ha : PE X a ta) (hb : PE X b tb) (hm : behindInMarks op b = false) : PE X (.Compare a [op] [b] pos) (tOp r ta tb) := by
  intro pins s σ H Q I h
  exact wpAny_Compare1 (binT ha hb I h fun v u s2 x y H2 I2 rx ry q => ho pins s2 σ H2 x y v u Q I2 rx ry q) hm
/-- a reading of a value as a test -/
def tTest (t : TE) : TT := fun σ H Q => t σ H fun x H' => ∃ k, x = .bl k ∧ Q k H'
theorem pt_cmpR {op : CmpOp} {r : R2} (ho : OpR X (compareOp op) r) (ha : PE X a ta) (hb : PE X b tb) (hm : behindInMarks op b = false) : PT X (.Compare a [op] [b] pos) (tTest (tOp r ta tb)) := by
  intro pins s σ H Q I h
  refine wpAny_isTrue_Compare1 (thn (ha pins s σ H _ I h) fun v s1 ⟨x, H1, I1, r1, q1⟩ => thn (hb pins s1 σ H1 _ I1 q1) fun u s2 ⟨y, H2, I2, r2, q2⟩ =>
    thn (ho pins s2 σ H2 x y v u _ I2 r1 r2 q2) fun c s3 ⟨z, H3, I3, r3, k, e, q3⟩ => ?_) hm
  subst e
  cases r3
  exact wpAny_truthy_bool ⟨H3, I3, q3⟩
/-- a op1 b op2 c -/
def tChain (r r' : R2) (ta tb tc : TE) : TE := fun σ H Q => ta σ H fun x H1 => tb σ H1 fun y H2 => r x y H2 fun z H3 => ∃ k, z = .bl k ∧
  (if k = true then tc σ H3 fun w' H4 => r' y w' H4 Q else Q (.bl false) H3)
theorem pe_chain {op op' : CmpOp} {r r' : R2} (ho : OpR X (compareOp op) r) (ho' : OpR X (compareOp op') r') (ha : PE X a ta) (hb : PE X b tb) (hc : PE X c tc)
    (hm : lastMarks [op, op'] [b, c] = false := by with_unfolding_all rfl) : PE X (.Compare a [op, op'] [b, c] pos) (tChain r r' ta tb tc) := by
  intro pins s σ H Q I h
  refine Compare_chain (thn (ha pins s σ H _ I h) fun v s1 ⟨x, H1, I1, r1, q1⟩ => chain_link (thn (hb pins s1 σ H1 _ I1 q1) fun u s2 ⟨y, H2, I2, r2, q2⟩ =>
    thn (ho pins s2 σ H2 x y v u _ I2 r1 r2 q2) fun d s3 ⟨z, H3, I3, r3, k, e, q3⟩ => ?_)) hm
  subst e
  cases r3
  refine wpAny_truthy_bool ?_
  cases k with
  | false => exact ite_ff ⟨.bl false, H3, I3, rfl, q3⟩
  | true => exact ite_tt (chain_last (thn (hc pins s3 σ H3 _ I3 q3) fun w' s4 ⟨z', H4, I4, r4, q4⟩ => ho' pins s4 σ H4 y z' u w' Q I4 r2 r4 q4))

/-! ### truth -/
/-- a value's truth by the abstract heap -/
def TruV (K : PySem.W.Frag) (x : V) (H : Hp) (k : Bool) : Prop :=
  match x with
  | .non => k = false
  | .bl b => k = b
  | .int i => k = (i != 0)
  | .str y => y.length ≤ sizeLine ∧ k = ((y.length : Int) != 0)
  | .byt y => y.size ≤ sizeLine ∧ k = ((y.size : Int) != 0)
  | .ref p => (∃ xs, SqL K H p xs ∧ k = !xs.isEmpty) ∨ (∃ xs, SqT K H p xs ∧ k = !xs.isEmpty) ∨ ∃ kvs, H p = some (.dK kvs) ∧ k = !kvs.isEmpty
  | _ => False
theorem isEmpty_kv {κ : Type} {kvs : List (κ × V)} {vs : List (κ × Value)} (r : KV kvs vs) : (!vs.isEmpty) = !kvs.isEmpty := by
  cases r <;> rfl
theorem isEmpty_of {xs : List V} {its : List Value} (r : Vals xs its) : (!its.toArray.isEmpty) = !xs.isEmpty := by
  cases r <;> simp
theorem line63 : (sizeLine : Nat) < 2 ^ 63 := by rw [sizeLine_eq]; decide
theorem tru_ok : TruR X (fun x H Q => ∃ k, TruV X.K x H k ∧ Q k H) := by
  intro pins s σ H x v Q I rx h
  obtain ⟨k, e, q⟩ := h
  have hl := line63
  have hs : sizeLine = 16777216 := sizeLine_eq
  cases x with
  | non =>
    cases rx
    have e' : k = false := e
    subst e'
    exact truthy_none ⟨H, I, q⟩
  | bl b =>
    cases rx
    have e' : k = b := e
    subst e'
    exact wpAny_truthy_bool ⟨H, I, q⟩
  | int i =>
    obtain ⟨t, rfl⟩ := rx
    have e' : k = (i != 0) := e
    subst e'
    exact PySem.P.truthy_int ⟨H, I, q⟩
  | str y =>
    obtain ⟨t, rfl⟩ := rx
    obtain ⟨hy, e'⟩ : y.length ≤ sizeLine ∧ k = ((y.length : Int) != 0) := e
    subst e'
    exact PySem.P.truthy_str (by omega) ⟨H, I.tok _, q⟩
  | byt y =>
    obtain ⟨t, rfl⟩ := rx
    obtain ⟨hy, e'⟩ : y.size ≤ sizeLine ∧ k = ((y.size : Int) != 0) := e
    subst e'
    exact PySem.W.truthy_bytes (by omega) ⟨H, I.tok _, q⟩
  | ref p =>
    cases rx
    have e' : (∃ xs, SqL X.K H p xs ∧ k = !xs.isEmpty) ∨ (∃ xs, SqT X.K H p xs ∧ k = !xs.isEmpty) ∨ ∃ kvs, H p = some (.dK kvs) ∧ k = !kvs.isEmpty := e
    rcases e' with ⟨xs, hx, e'⟩ | ⟨xs, hx, e'⟩ | ⟨kvs, hx, e'⟩
    · subst e'
      obtain ⟨its, r, pl, hz⟩ := I.list hx
      have hlen := r.length
      exact wpAny_truthy_list pl.isList (by simp only [List.size_toArray]; omega) ⟨H, I.tok _, by rw [isEmpty_of r]; exact q⟩
    · subst e'
      obtain ⟨its, r, pl, hz⟩ := I.tuple hx
      have hlen := r.length
      exact truthy_tuple pl (by simp only [List.size_toArray]; omega) ⟨H, I.tok _, by rw [isEmpty_of r]; exact q⟩
    · subst e'
      obtain ⟨hz, hS, vs, r, m⟩ : kvs.length ≤ sizeLine ∧ (p == sysModules) = false ∧ ∃ vs, KV kvs vs ∧ s.heap.DictOf (mixKind X.prog X.w) p vs := I.hok p _ hx
      have hlen : kvs.length = vs.length := Paired.length r
      exact wpAny_truthy_dict hS m (by omega) ⟨H, I.tok _, by rw [isEmpty_kv r]; exact q⟩
  | _ => exact (show False from e).elim
/-- any expression whose test is its value's truth (a name, a call, a subscript, a field ..: he by fun _ => rfl) -/
theorem pt_truth (ha : PE X a ta) (he : ∀ whole, isTrue a X.env whole = (do let v ← whole; standAt a.pos; holding [v] (truthy v))) :
    PT X a (fun σ H Q => ta σ H fun x H' => ∃ k, TruV X.K x H' k ∧ Q k H') := by
  intro pins s σ H Q I h
  exact isTrue_plain (thn (ha pins s σ H _ I h) fun v s1 ⟨x, H1, I1, r1, q1⟩ => tru_ok pins s1 σ H1 x v Q I1 r1 q1) (he _)

/-! ### strs and bytes -/


/-! ### scalar builtins, by CallR -/
theorem vals1 {x : V} {us : List Value} (r : Vals [x] us) : ∃ u, us = [u] ∧ RelV x u := by
  cases r with
  | cons r1 r2 => cases r2; exact ⟨_, rfl, r1⟩
theorem vals2 {x y : V} {us : List Value} (r : Vals [x, y] us) : ∃ u w', us = [u, w'] ∧ RelV x u ∧ RelV y w' := by
  cases r with
  | cons r1 r2 =>
    cases r2 with
    | cons r3 r4 => cases r4; exact ⟨_, _, rfl, r1, r3⟩
theorem call_max2 (hc : X.calm = true) : CallR X (.builtin "max") (fun xs H Q => ∃ i j, xs = [.int i, .int j] ∧ Q (.int (if j > i then j else i)) H) := by
  intro pins s σ H xs us Q I r h
  obtain ⟨i, j, rfl, q⟩ := h
  obtain ⟨u, w', rfl, ⟨t, rfl⟩, ⟨t', rfl⟩⟩ := vals2 r
  refine max_two_ints (I.ok.hd hc) fun h' tk k => ⟨_, H, I.kept k, ?_, q⟩
  by_cases hj : j > i
  · rw [if_pos hj, if_pos hj]; exact ⟨_, rfl⟩
  · rw [if_neg hj, if_neg hj]; exact ⟨_, rfl⟩
theorem call_min2 (hc : X.calm = true) : CallR X (.builtin "min") (fun xs H Q => ∃ i j, xs = [.int i, .int j] ∧ Q (.int (if j < i then j else i)) H) := by
  intro pins s σ H xs us Q I r h
  obtain ⟨i, j, rfl, q⟩ := h
  obtain ⟨u, w', rfl, ⟨t, rfl⟩, ⟨t', rfl⟩⟩ := vals2 r
  refine min_two_ints (I.ok.hd hc) fun h' tk k => ⟨_, H, I.kept k, ?_, q⟩
  by_cases hj : j < i
  · rw [if_pos hj, if_pos hj]; exact ⟨_, rfl⟩
  · rw [if_neg hj, if_neg hj]; exact ⟨_, rfl⟩
end
end L2

namespace L2
open PySem PySem.Spec PyProof.Rows

/-! ### an instance, its attributes a map -/
structure ObjM (h : Heap) (x dx C : Addr) (mA : Str → Option Value) : Prop where
  obj : h.get? x = some (PySem.W.instObj C dx)
  ns : h.Ns1 dx mA
  ne : dx ≠ x

theorem lookIn_ns {h : Heap} {dx : Addr} {mA : Str → Option Value} (n : h.Ns1 dx mA) : ∃ od, h.get? dx = some od ∧ ∀ name, PySem.W.lookIn name od = some (mA name) := by
  obtain ⟨o, es, ep, ho, hd, hk, _, hm⟩ := n
  refine ⟨o, ho, fun name => ?_⟩
  have e := hm name
  unfold nsFind findBy at e
  rw [← Array.find?_toList] at e
  unfold PySem.W.lookIn
  rw [hd]
  dsimp only
  split
  · rename_i y q
    rw [q] at e
    exact congrArg some e
  · rename_i q
    rw [q] at e
    have a : es.toList.any (·.refKey) = false := by
      rw [List.any_eq_false]
      intro y hy
      obtain ⟨z, t, hkey⟩ := hk y (Array.mem_toList_iff.mp hy)
      simp [DictEntry.refKey, hkey]
    have a' : ¬ es.toList.any (·.refKey) = true := by rw [a]; exact Bool.false_ne_true
    rw [if_neg a']
    exact congrArg some e

theorem ObjM.look {h : Heap} {x dx C : Addr} {mA : Str → Option Value} (I : ObjM h x dx C mA) : ∃ od, PySem.W.InstAt h x (PySem.W.instObj C dx) C (some od) ∧ ∀ name, PySem.W.lookIn name od = some (mA name) :=
  let ⟨od, ho, hl⟩ := lookIn_ns I.ns
  ⟨od, ⟨I.obj, rfl, rfl, ho⟩, hl⟩

section
variable {prog : Program} {w : World} {A : Around} {E : Value → Shared → Prop} {s : Shared} {K : PySem.W.Frag} {x dx C f : Addr} {mA : Str → Option Value} {name : Str} {v : Value}





end

/-! ### the attributes as a list of pairs -/


section
variable {P : Program} {w : World} {H H' : Hp} {h h' : Heap} {a C dx : Addr} {fs fs' : List (Str × V)}
theorem ins_get (hok : HOk P w H h) (e : H a = some (.ins C dx fs)) : ∃ mA, ObjM h a dx C mA ∧ (∀ f, RelO (fs.lookup f) (mA f)) ∧ PySem.Within mA (fs.map (·.1)) ∧ fs.length ≤ 1000 ∧ H dx = some (.own a) := by
  obtain ⟨d, z, ne, ob, mA, n, r, q⟩ := (show ObjOk P w H h a (.ins C dx fs) from hok a _ e)
  exact ⟨mA, ⟨ob, n, ne⟩, r, q, z, d⟩
end

/-! ### what of the text a class must have -/
structure Cls (K : PySem.W.Frag) (C : Addr) : Prop where
  pg : PySem.W.plainGet K C Str.empty = true
  hd : PySem.W.hasDictIn K C = true
  po : PySem.W.plainOver K C = true
  sa : PySem.W.findIn K (.ref C) "__setattr__" = some (some (.builtin "object.__setattr__"))
theorem Cls.get {K : PySem.W.Frag} {C : Addr} (c : Cls K C) (f : Str) : PySem.W.plainGet K C f = true := c.pg

section
variable {X : Cx} {pins : List (Addr × Obj)} {σ : St} {H : Hp} {s : Shared} {a C dx : Addr} {fs : List (Str × V)} {f : Str} {v : V} {A : Around} {E : Value → Shared → Prop}






end

/-! ### readings and rules -/

section
variable {X : Cx} {o e value : Expr} {f : Str} {pos pos' tpos : Pos} {ta tv : TE}

end

/-! ### isinstance -/
section
variable {X : Cx} {pins : List (Addr × Obj)} {σ : St} {H : Hp} {s : Shared} {A : Around} {E : Value → Shared → Prop} {Q : Value → Shared → Prop} {c : Value} {b : Bool}
/-- the type of a value, as the fragment's deciders take it; for an instance its class -/
inductive TyOf (K : PySem.W.Frag) (H : Hp) : V → Value → Prop where
  | non : TyOf K H .non (.type "NoneType")
  | bl (x : Bool) : TyOf K H (.bl x) (.type "bool")
  | int (i : Int) : TyOf K H (.int i) (.type "int")
  | str (x : Str) : TyOf K H (.str x) (.type "str")
  | flt (x : UInt64) : TyOf K H (.flt x) (.type "float")
  | lst {a : Addr} {xs : List V} (e : H a = some (.lst xs)) : TyOf K H (.ref a) (.type "list")
  | frz {a : Addr} {o : Obj} {xs : List V} (e : H a = some (.frz o (.lst xs))) : TyOf K H (.ref a) (.type "list")
  | tup {a : Addr} {xs : List V} (e : H a = some (.tup xs)) : TyOf K H (.ref a) (.type "tuple")
  | dK {a : Addr} {kvs : List (Key × V)} (e : H a = some (.dK kvs)) : TyOf K H (.ref a) (.type "dict")
  | dT {a : Addr} {kvs : List (List Key × V)} (e : H a = some (.dT kvs)) : TyOf K H (.ref a) (.type "dict")
  | ins {a C dx : Addr} {fs : List (Str × V)} (e : H a = some (.ins C dx fs)) (cl : Cls K C) (ha : PySem.W.findIn K (.ref C) "__class__" = some (some (.builtin "object.__class__")))
      (hn : PySem.W.specialIn K (.builtin "object.__class__") "__get__" = some (some (.builtin "getset_descriptor.__get__"))) (htk : PySem.W.takesIn K (.builtin "object.__class__") = some true)
      (hm : PySem.W.mroIn K C (.type "object") = some true) : TyOf K H (.ref a) (.ref C)
/-- isinstance(x, c) for one class c, a built-in or an own one: kitOne's answer -/
theorem isinst_ok {x : V} {u t : Value} (I : Inv X pins σ H s) (rx : RelV x u) (ty : TyOf X.K H x t) (e : PySem.W.kitOne X.K t c = some b) (h : ∀ tk, Q (.bool b) { s with toks := tk }) :
    wpAny (model X.prog X.w) A (call (.builtin "isinstance") [u, c]) Q E s := by
  cases ty with
  | non => cases (show u = Value.none from rx); exact PySem.W.kia_one PySem.W.kitx_none I.kIn True.intro e (fun z => nomatch z) h
  | bl y => cases (show u = Value.bool y from rx); exact PySem.W.kia_one PySem.W.kitx_bool I.kIn True.intro e (fun z => nomatch z) h
  | int i => obtain ⟨t, q⟩ := (show ∃ t, u = Value.int i t from rx); cases q; exact PySem.W.kia_one PySem.W.kitx_int I.kIn True.intro e (fun z => nomatch z) h
  | str y => obtain ⟨t, q⟩ := (show ∃ t, u = Value.str y t from rx); cases q; exact PySem.W.kia_one PySem.W.kitx_str I.kIn True.intro e (fun z => nomatch z) h
  | flt y => obtain ⟨t, q⟩ := (show ∃ t, u = Value.float y t from rx); cases q; exact PySem.W.kia_one PySem.W.kitx_float I.kIn True.intro e (fun z => nomatch z) h
  | @lst a xs ea =>
    cases (show u = Value.ref a from rx)
    obtain ⟨_, _, n, _, h1⟩ := (show ObjOk X.prog X.w H s.heap a (.lst xs) from I.hok a _ ea)
    exact PySem.W.kia_one PySem.W.kitx_list I.kIn ⟨_, h1, rfl⟩ e (fun z => nomatch z) h
  | @frz a ob xs ea =>
    cases (show u = Value.ref a from rx)
    obtain ⟨_, _, _, n, _, h1⟩ := (show ObjOk X.prog X.w H s.heap a (.frz ob (.lst xs)) from I.hok a _ ea)
    exact PySem.W.kia_one PySem.W.kitx_list I.kIn ⟨_, h1, rfl⟩ e (fun z => nomatch z) h
  | @tup a xs ea =>
    cases (show u = Value.ref a from rx)
    obtain ⟨_, _, _, p⟩ := (show ObjOk X.prog X.w H s.heap a (.tup xs) from I.hok a _ ea)
    obtain ⟨o, h1, h2, _⟩ := p
    exact PySem.W.kia_one PySem.W.kitx_tuple I.kIn ⟨o, h1, h2⟩ e (fun z => nomatch z) h
  | @dK a kvs ea =>
    cases (show u = Value.ref a from rx)
    obtain ⟨_, _, vs, _, p⟩ := (show ObjOk X.prog X.w H s.heap a (.dK kvs) from I.hok a _ ea)
    obtain ⟨o, es, ep, h1, h2, _⟩ := p
    exact PySem.W.kia_one PySem.W.kitx_dict I.kIn ⟨o, h1, h2.1⟩ e (fun z => nomatch z) h
  | @dT a kvs ea =>
    cases (show u = Value.ref a from rx)
    obtain ⟨_, _, xs, _, o, es, ep, h1, h2, _⟩ := (show ObjOk X.prog X.w H s.heap a (.dT kvs) from I.hok a _ ea)
    exact PySem.W.kia_one PySem.W.kitx_dict I.kIn ⟨o, h1, h2.1⟩ e (fun z => nomatch z) h
  | @ins a C dx fs ea cl ha hn htk hm =>
    cases (show u = Value.ref a from rx)
    obtain ⟨mA, O, _⟩ := ins_get I.hok ea
    obtain ⟨od, J, _⟩ := O.look
    exact PySem.W.kia_one (PySem.W.kitx_own (cl.get _) cl.hd ha hn htk hm) I.kIn J e (fun z => nomatch z) h
end
end L2

namespace L2
open PySem PySem.Spec PyProof.Rows

/-! ### room -/
structure Room (k : Nat) (A : Around) : Prop where
  hd : A.handled = none
  dp : A.depth + 3 * k + 5 < recursionLimit
  un : A.units + 16 * k + 200 < cLine
theorem Room.mono {j k : Nat} {A : Around} (r : Room k A) (h : j ≤ k) : Room j A := ⟨r.hd, by have := r.dp; omega, by have := r.un; omega⟩
theorem Room.deeper {k : Nat} {A : Around} (r : Room (k + 1) A) (env : Env) : Room k (A.deeper env) :=
  ⟨r.hd, by have := r.dp; show A.depth + 1 + 3 * k + 5 < _; omega, by have := r.un; show A.units + 3 + 16 * k + 200 < _; omega⟩
theorem Room.depth {k : Nat} {A : Around} (r : Room k A) : A.depth < recursionLimit := by have := r.dp; omega

/-! ### argument lists and displays -/
def tNil : TA := fun _ H Q => Q [] H
def tCons (ta : TE) (tr : TA) : TA := fun σ H Q => ta σ H fun x H1 => tr σ H1 fun xs H2 => Q (x :: xs) H2
section
variable {X : Cx} {e : Expr} {es : List Expr} {te : TE} {t : TA} {pos : Pos}
theorem pa_nil : PA X [] tNil := fun _ _ _ _ H Q I h => Calls.spliced_nil ⟨[], H, I, .nil, h⟩
theorem pa_cons (ha : PE X e te) (hr : PA X es t) (hs : starEach (e :: es) X.env = (false, eval e X.env) :: starEach es X.env := by rfl) : PA X (e :: es) (tCons te t) := by
  intro pos pins s σ H Q I h
  rw [hs]
  show wpAny _ _ (spliced ((false, eval e X.env) :: backTo pos (starEach es X.env))) _ _ s
  refine Calls.spliced_cons (thn (ha pins s σ H _ I h) fun u s1 ⟨x, H1, I1, r1, q1⟩ => ?_)
  exact thn (hr pos pins s1 σ H1 _ I1 q1) fun us s2 ⟨xs, H2, I2, r2, q2⟩ => ⟨x :: xs, H2, I2, .cons r1 r2, q2⟩

end

/-! ### what a def promises -/
/-- a def's promise: the bound arguments in the parameters' order, the heap, the wanted end, the wanted exception -/
abbrev Sp := List V → Hp → VK → XK → Prop
/-- how an exception lies behind a call (file 08 gives it): the callers' frames, abstract heap and state ahead of the call, the wish, the exception, the state -/
abbrev CXT := List Env → Hp → Shared → XK → Value → Shared → Prop

/-- the state at a call -/
structure Env0 (P : Program) (w : World) (K : PySem.W.Frag) (mg : Str → Option Value) (base : Heap) (A : Around) (outer : List Env) (s : Shared) (H : Hp) : Prop where
  frames : A.frames = some outer
  mod : Mod K mg base
  bs : ∀ b o, base.get? b = some o → s.heap.get? b = some o ∧ H b = none
  bsz : base.objs.size ≤ s.heap.objs.size
  funs : s.heap.FunFrames base outer
  frf : ∀ b ∈ frs outer, H b = none
  hok : HOk P w H s.heap
  bare : AllBare s.gens
/-- a call's end -/
def CE (outer : List Env) (P : Program) (w : World) (H : Hp) (s : Shared) (Q : VK) (u : Value) (s' : Shared) : Prop :=
  ∃ v H', s'.os = s.os ∧ AllBare s'.gens ∧ Un (frs outer) [] H H' s.heap s'.heap ∧ HOk P w H' s'.heap ∧ RelV v u ∧ Q v H'
def CR (CX : CXT) (outer : List Env) (P : Program) (w : World) (H : Hp) (s : Shared) (Q : VK) (E : XK) (r : Result) (s' : Shared) : Prop :=
  match r with
  | .ok (.ret u) => CE outer P w H s Q u s'
  | .ok _ => False
  | .error e => CX outer H s E e s'
structure FnOk (P : Program) (w : World) (K : PySem.W.Frag) (mg : Str → Option Value) (base : Heap) (CX : CXT) (k : Nat) (f : Addr) (fd : FuncData) (ps : List Str) (sp : Sp) : Prop where
  len : ∀ vs H Q E, sp vs H Q E → vs.length = ps.length
  run : ∀ (A : Around) (outer : List Env) (s : Shared) (H : Hp) (args : Args) (us : List Value) (vs : List V) (Q : VK) (E : XK), Room k A → Env0 P w K mg base A outer s H → BindsTo s fd args (ps.zip us) → Vals vs us → sp vs H Q E →
    codeAny (model P w) A (.call (.ref f) args) (CR CX outer P w H s Q E) s
theorem FnOk.mono {P : Program} {w : World} {K : PySem.W.Frag} {mg : Str → Option Value} {base : Heap} {CX : CXT} {j k : Nat} {f : Addr} {fd : FuncData} {ps : List Str} {sp : Sp} (F : FnOk P w K mg base CX j f fd ps sp) (h : j ≤ k) :
    FnOk P w K mg base CX k f fd ps sp := ⟨F.len, fun A outer s H args us vs Q E hr => F.run A outer s H args us vs Q E (hr.mono h)⟩


section
variable {X : Cx} {pins : List (Addr × Obj)} {σ : St} {H : Hp} {s s' : Shared}
/-- from a body: what a callee wants -/
theorem Inv.env0 (I : Inv X pins σ H s) : Env0 X.prog X.w X.K X.mg X.base X.A X.stack s H :=
  ⟨I.ok.frames, I.ok.mod, I.bs, Nat.le_trans I.ok.bsz I.sz, I.stack, I.stkFree, I.hok, I.bare⟩
/-- behind a call -/
theorem Inv.after {Q : VK} {u : Value} (I : Inv X pins σ H s) (h : CE X.stack X.prog X.w H s Q u s') : EP X pins σ Q u s' := by
  obtain ⟨v, H', os, bare, un, hok, r, q⟩ := h
  obtain ⟨hh, g, d, t, os'⟩ := s'
  obtain rfl : os' = s.os := os
  exact ⟨v, H', I.call (h' := hh) (g' := g) (d' := d) (t' := t) (ch := []) un hok bare (fun b z => absurd z (by simp)), r, q⟩
end

/-! ### calls -/
/-- f(..): the written arguments, then the defaults dvs; E: what is wanted of an exception -/
def tCall (sp : Sp) (dvs : List V) (E : XK) (t : TA) : TE := fun σ H Q => t σ H fun vs H1 => sp (vs ++ dvs) H1 Q E

/-- how the parameters are bound: us the positional arguments, kw the keywords' values by name, ds the defaults that fill up -/
def Binds (K : PySem.W.Frag) (fd : FuncData) (ps : List Str) (ds : List Value) : Prop :=
  ∀ (s : Shared) (us : List Value), K.In s.heap → (us ++ ds).length = ps.length → BindsTo s fd ⟨us, []⟩ (ps.zip (us ++ ds))
/-- every parameter is given -/
theorem Binds.all {K : PySem.W.Frag} {fd : FuncData} {ps : List Str} (h : ∀ us : List Value, us.length = ps.length → bindArgs fd ⟨us, []⟩ = pure (ps.zip us)) : Binds K fd ps [] := fun s us _ hl => by
  rw [List.append_nil] at hl ⊢
  exact .of_eq (h us hl)

/-- an exception of a callee reaches what this body wants of exceptions -/
def Passes (CX : CXT) (X : Cx) (E : XK) : Prop := ∀ (pins : List (Addr × Obj)) (σ : St) (H : Hp) (s : Shared) (e : Value) (s' : Shared), Inv X pins σ H s → CX X.stack H s E e s' → X.xe e s'

section
variable {X : Cx} {CX : CXT} {k : Nat} {f C : Addr} {fd : FuncData} {ps : List Str} {sp : Sp} {dvs : List V} {ds : List Value} {E : XK} {x m : Str} {p pos apos : Pos} {e o : Expr} {es : List Expr} {ta : TE} {t : TA}

/-- the callee runs -/
theorem run_fn {pins : List (Addr × Obj)} {σ : St} {H : Hp} {s : Shared} {Q : VK} {us : List Value} {vs : List V} (F : FnOk X.prog X.w X.K X.mg X.base CX k f fd ps sp) (hr : Room k X.A) (hb : Binds X.K fd ps ds) (hd : Vals dvs ds) (hx : Passes CX X E)
    (I : Inv X pins σ H s) (r : Vals vs us) (h : sp (vs ++ dvs) H Q E) : wpAny (model X.prog X.w) X.A (call (.ref f) us) (EP X pins σ Q) X.xe s := by
  have r2 : Vals (vs ++ dvs) (us ++ ds) := r.append hd
  have hl : (us ++ ds).length = ps.length := by rw [← r2.length]; exact F.len _ _ _ _ h
  refine wpAny_call (codeAny_mono (F.run X.A X.stack s H ⟨us, []⟩ (us ++ ds) (vs ++ dvs) Q E hr I.env0 (hb s us I.kIn hl) r2 h) fun r s' hq => ?_)
  cases r with
  | error e => exact hx pins σ H s e s' I hq
  | ok fl =>
    cases fl with
    | ret u => exact I.after hq
    | next => exact False.elim hq
    | brk => exact False.elim hq
    | cont => exact False.elim hq

theorem pe_call (F : FnOk X.prog X.w X.K X.mg X.base CX k f fd ps sp) (hr : Room k X.A) (hg : Gl X x) (hm : X.mg x = some (.ref f)) (hk : PySem.W.keepIn X.K (.ref f) = true) (hb : Binds X.K fd ps ds) (hd : Vals dvs ds) (hx : Passes CX X E)
    (ha : PA X (e :: es) t) (hdb : (x == ("__debug__" : Str)) = false := by decide) (he : starEach (e :: es) X.env = (false, eval e X.env) :: starEach es X.env := by rfl) (hpl : (backTo pos (starEach es X.env)).any (·.1) = false := by rfl) :
    PE X (.Call (.Name x p) (e :: es) [] pos) (tCall sp dvs E t) := by
  intro pins s σ H Q I h
  refine wpAny_Call_Name_kw (ld_glob I hg hm ?_ hdb)
  refine PySem.W.callWith_K (h₀ := X.base) I.ok.mod.kin hk (thn (ha pos pins s σ H _ I h) fun us s1 ⟨vs, H1, I1, r, q⟩ => ⟨I1.kIn, ?_⟩) he hpl
  exact run_fn F hr hb hd hx I1 r q



end

/-! ### keywords -/
section
variable {X : Cx} {CX : CXT} {k : Nat} {f C : Addr} {fd : FuncData} {ps ks : List Str} {sp : Sp} {E : XK} {x m : Str} {p pos apos kpos : Pos} {e o : Expr} {es : List Expr} {kws : List Keyword} {te ta : TE} {t tk : TA} {nm : Option Str}

variable {g : List Value → List Value → List Value} {gV : List V → List V → List V}
end

/-! ### a def's body keeps its promise -/
/-- names: the parameters first -/
structure FnScope (N P : List Str) (sc : Scope) : Prop where
  kind : sc.kind = .function
  co : sc.isCoroutine = false
  gen : sc.isGenerator = false
  nd : N.Nodup
  pre : N.take P.length = P
  par : ∀ x ∈ P, sc.names.lookup x = some .local ∨ sc.names.lookup x = some .cell
  nofree : ∀ y ∈ sc.names, y.2 ≠ .free

theorem bindL_out {kindOf : Str → Option NameKind} {x : Str} : ∀ {binds : List (Str × Value)} {m : Str → Option Value}, (∀ v, (x, v) ∉ binds) → bindL kindOf binds m x = m x
  | [], _, _ => rfl
  | (n, v) :: r, m, h => by
    unfold bindL
    rw [bindL_out fun w hw => h w (List.mem_cons_of_mem _ hw)]
    split
    · have : x ≠ n := by rintro rfl; exact h v List.mem_cons_self
      simp [this]
    · rfl
theorem bindC_out {kindOf : Str → Option NameKind} {x : Str} : ∀ {binds : List (Str × Value)} {m : Str → Option Value}, (∀ v, (x, v) ∉ binds) → bindC kindOf binds m x = m x
  | [], _, _ => rfl
  | (n, v) :: r, m, h => by
    unfold bindC
    rw [bindC_out fun w hw => h w (List.mem_cons_of_mem _ hw)]
    split
    · rfl
    · have : x ≠ n := by rintro rfl; exact h v List.mem_cons_self
      simp [this]
theorem bindL_get {kindOf : Str → Option NameKind} {x : Str} {v : Value} : ∀ {P : List Str} {vs : List Value} {i : Nat} {m : Str → Option Value}, P.Nodup → P[i]? = some x → vs[i]? = some v → kindOf x = some .local →
    bindL kindOf (P.zip vs) m x = some v
  | [], _, _, _, _, h, _, _ => by simp at h
  | _ :: _, [], _, _, _, _, h, _ => by simp at h
  | p :: P, w :: vs, 0, m, nd, h1, h2, hk => by
    simp at h1 h2; subst h1; subst h2
    show bindL kindOf ((p, w) :: P.zip vs) m p = _
    unfold bindL
    rw [bindL_out fun v hv => (List.nodup_cons.mp nd).1 (List.of_mem_zip hv).1, if_pos hk]
    simp
  | p :: P, w :: vs, i + 1, m, nd, h1, h2, hk => by
    show bindL kindOf ((p, w) :: P.zip vs) m x = _
    unfold bindL
    exact bindL_get (i := i) (List.nodup_cons.mp nd).2 (by simpa using h1) (by simpa using h2) hk
theorem bindC_get {kindOf : Str → Option NameKind} {x : Str} {v : Value} : ∀ {P : List Str} {vs : List Value} {i : Nat} {m : Str → Option Value}, P.Nodup → P[i]? = some x → vs[i]? = some v → kindOf x ≠ some .local →
    bindC kindOf (P.zip vs) m x = some v
  | [], _, _, _, _, h, _, _ => by simp at h
  | _ :: _, [], _, _, _, _, h, _ => by simp at h
  | p :: P, w :: vs, 0, m, nd, h1, h2, hk => by
    simp at h1 h2; subst h1; subst h2
    show bindC kindOf ((p, w) :: P.zip vs) m p = _
    unfold bindC
    rw [bindC_out fun v hv => (List.nodup_cons.mp nd).1 (List.of_mem_zip hv).1, if_neg hk]
    simp
  | p :: P, w :: vs, i + 1, m, nd, h1, h2, hk => by
    show bindC kindOf ((p, w) :: P.zip vs) m x = _
    unfold bindC
    exact bindC_get (i := i) (List.nodup_cons.mp nd).2 (by simpa using h1) (by simpa using h2) hk

/-- the names' values at the entry -/
def start (N : List Str) (vs : List V) : St := vs.map some ++ List.replicate (N.length - vs.length) none

/-- the context of a def's body, at its entry; an exception leaves the frame, then lies as CX says -/
def cxOf (CX : CXT) (P : Program) (w : World) (K : PySem.W.Frag) (mg : Str → Option Value) (base : Heap) (N : List Str) (qual : Str) (scope : Scope) (f : Addr) (cd : Value) (A : Around) (outer : List Env) (s : Shared) (H : Hp) (E : XK) : Cx where
  prog := P
  w := w
  K := K
  mg := mg
  base := base
  A := A.deeper (envOfC qual scope s.heap.objs.size f cd)
  N := N
  s₀ := s
  H₀ := H
  env := envOfC qual scope s.heap.objs.size f cd
  outer := outer
  stack := envOfC qual scope s.heap.objs.size f cd :: outer
  ex := []
  calm := true
  fn := fun _ => true
  pn := []
  xe := fun e s' => wpAny (model P w) (A.deeper (envOfC qual scope s.heap.objs.size f cd)) (leaving (envOfC qual scope s.heap.objs.size f cd) e) (fun _ s'' => CX outer H s E e s'') (fun e' s'' => CX outer H s E e' s'') s'

theorem cell_has {sc : Scope} {n : Nat} {x : Str} (h : sc.names.lookup x = some .cell) : ∃ c, (cellsFrom n sc.names []).lookup x = some c := by
  have q := PySem.W.cellsFrom_some sc.names n [] (.inl h)
  exact Option.isSome_iff_exists.mp q

theorem inv_start {CX : CXT} {P : Program} {w : World} {K : PySem.W.Frag} {mg : Str → Option Value} {base : Heap} {N ps : List Str} {qual : Str} {scope : Scope} {f : Addr} {cd : Value} {A : Around} {outer : List Env} {s s1 : Shared} {H : Hp} {E : XK} {us : List Value} {vs : List V}
    (S : FnScope N ps scope) (hd : A.handled = none) (e0 : Env0 P w K mg base A outer s H) (hl : vs.length = ps.length) (r : Vals vs us)
    (x : InCallC s s.heap.objs.size (bindL (envOfC qual scope s.heap.objs.size f cd).kindOf (ps.zip us) fun _ => none) (cellsFrom (s.heap.objs.size + 1) scope.names []) (bindC (envOfC qual scope s.heap.objs.size f cd).kindOf (ps.zip us) fun _ => none) s1) :
    Inv (cxOf CX P w K mg base N qual scope f cd A outer s H E) [] (start N vs) H s1 := by
  have hpl : ps.length ≤ N.length := by have := congrArg List.length S.pre; rw [List.length_take] at this; omega
  obtain ⟨h1, tk, rfl, hk⟩ := x.done
  have noA : ∀ b : Addr, b ∉ (cxOf CX P w K mg base N qual scope f cd A outer s H E).ex := fun b z => absurd (show b ∈ ([] : List Addr) from z) (by simp)
  refine ⟨⟨e0.mod, S.kind, rfl, rfl, Nat.le_refl _, fun y z c h1 h2 => ?_, fun y hy => ?_, fun y c _ h => ?_, fun _ => hd, Around.frames_deeper e0.frames, .inr ⟨rfl, rfl⟩, fun b z => absurd z (noA b), e0.bs, e0.bsz, fun b _ _ => noA b, fun b z => absurd z (noA b), e0.funs, e0.frf⟩,
    rfl, e0.bare, Un.kept hk, ⟨_, x.toInCall.ns, fun i y v h1 h2 h3 => ?_⟩, fun y c h => ⟨_, x.cell y c h⟩, e0.hok.fresh (Nat.le_refl _), fun y c h => ?_, fun p hp => absurd (show p ∈ ([] : List (Addr × Obj)) from hp) (by simp), e0.hok.kept hk, ?_⟩
  · exact name_of_addr x.apart (PySem.mem_of_lookup h1) (PySem.mem_of_lookup h2)
  · have hy : scope.names.lookup y = some .cell ∨ scope.names.lookup y = some .free := hy
    rcases hy with hy | hy
    · exact cell_has hy
    · exact absurd rfl (S.nofree _ (PySem.mem_of_lookup hy))
  · exact Nat.le_of_lt (x.above y c (PySem.mem_of_lookup h))
  · have hi : i < vs.length := by
      unfold start at h2
      by_cases hi : i < vs.length
      · exact hi
      · rw [List.getElem?_append_right (by simpa using hi)] at h2
        rw [List.getElem?_replicate] at h2
        split at h2 <;> cases h2
    have ha : vs[i]? = some v := by
      unfold start at h2
      rw [List.getElem?_append_left (by simpa using hi), List.getElem?_map] at h2
      cases e : vs[i]? with
      | none => rw [e] at h2; cases h2
      | some a => rw [e] at h2; cases h2; rfl
    obtain ⟨u, hu, rv⟩ := r.get ha
    have hp : ps[i]? = some y := by
      rw [← S.pre, List.getElem?_take_of_lt (by omega)]; exact h1
    have ndP : ps.Nodup := by rw [← S.pre]; exact S.nd.sublist (List.take_sublist _ _)
    refine ⟨u, rv, ?_⟩
    rcases S.par y (List.mem_of_getElem? hp) with k | k
    · exact .inl ⟨k, bindL_get ndP hp hu k⟩
    · obtain ⟨c, e⟩ := cell_has (n := s.heap.objs.size + 1) k
      refine .inr ⟨.inl k, c, e, ?_⟩
      have q := x.cell y c e
      rw [bindC_get ndP hp hu (by show scope.names.lookup y ≠ _; rw [k]; decide)] at q
      exact q
  · exact e0.hok.fresh (Nat.le_of_lt (x.above y c (PySem.mem_of_lookup h)))
  · unfold start
    show _ = N.length
    rw [List.length_append, List.length_map, List.length_replicate]
    omega

/-- THE RULE: a def (or a method) of the text, by its body. The body's reading t is chosen for each entry; it is run at the parameters' values -/
theorem fn_of {CX : CXT} {P : Program} {w : World} {K : PySem.W.Frag} {mg : Str → Option Value} {base : Heap} {k : Nat} {f : Addr} {name qual : Str} {params : Arguments} {body : List Stmt} {scope : Scope} {dV kV doc pm cdv ct oc : Value} {an od : Option Addr}
    {osl : Array (Option Value)} {N ps : List Str} {sp : Sp} (lk : K.lookup f = some ⟨oc, od, .func (PySem.W.fnOf name qual params body scope dV kV doc pm an cdv ct), osl⟩) (hcd : PySem.W.codeIn K cdv qual = true) (S : FnScope N ps scope)
    (len : ∀ vs H Q E, sp vs H Q E → vs.length = ps.length)
    (hbody : ∀ (A : Around) (outer : List Env) (s : Shared) (H : Hp) (vs : List V) (Q : VK) (E : XK), Room k (A.deeper (envOfC qual scope s.heap.objs.size f cdv)) → sp vs H Q E →
      ∃ t, PSs (cxOf CX P w K mg base N qual scope f cdv A outer s H E) body t ∧ t { nx := fun _ H' => Q .non H', rt := Q } (start N vs) H) :
    FnOk P w K mg base CX (k + 1) f (PySem.W.fnOf name qual params body scope dV kV doc pm an cdv ct) ps sp := by
  refine ⟨len, fun A outer s H args us vs Q E hr e0 hb r hsp => ?_⟩
  have hl := len _ _ _ _ hsp
  have KX : K.In s.heap := e0.mod.kin.keeps fun b o e => (e0.bs b o e).1
  have lim : s.heap.NoLimit := e0.mod.nolimit.keeps fun b o e => (e0.bs b o e).1
  have hkind : ∀ y ∈ ps.zip us, scope.names.lookup y.1 = some .local ∨ (scope.names.lookup y.1 = some .cell ∧ ((cellsFrom (s.heap.objs.size + 1) scope.names []).lookup y.1).isSome = true) := fun ⟨n, v⟩ hy => by
    rcases S.par n (List.of_mem_zip hy).1 with q | q
    · exact .inl q
    · exact .inr ⟨q, PySem.W.cellsFrom_some _ _ _ (.inl q)⟩
  refine codeAny_call_function hr.depth (KX _ _ lk) rfl S.co S.gen rfl (PySem.W.codeRec_of KX hcd) (hb _ _ _ _ ?_)
  refine wpAny_newFunctionEnv_cells S.kind hkind fun env he s1 x => ?_
  subst he
  refine ⟨lim.keeps x.toInCall.keep, codeAny_func ?_⟩
  obtain ⟨t, ht, hq⟩ := hbody A outer s H vs Q E (hr.deeper _) hsp
  have I : Inv (cxOf CX P w K mg base N qual scope f cdv A outer s H E) [] (start N vs) H s1 := inv_start S hr.hd e0 hl r x
  refine wpAny_mono (ht [] s1 (start N vs) H _ I hq) (fun fl s' hs => ?_) fun e s' hs => hs
  have fin : ∀ {σ' : St} {H' : Hp} {v : V} {u : Value}, Inv (cxOf CX P w K mg base N qual scope f cdv A outer s H E) [] σ' H' s' → RelV v u → Q v H' → CE outer P w H s Q u s' :=
    fun {σ' H' v u} J rv q => ⟨v, H', J.os, J.bare, J.base, J.hok, rv, q⟩
  cases fl with
  | ret u =>
    obtain ⟨v, σ', H', J, rv, q⟩ := hs
    exact fin J rv q
  | next =>
    obtain ⟨σ', H', J, q⟩ := hs
    exact fin (v := V.non) (u := Value.none) J rfl q
  | brk =>
    obtain ⟨_, _, _, q⟩ := hs
    exact False.elim q
  | cont =>
    obtain ⟨_, _, _, q⟩ := hs
    exact False.elim q
end L2

namespace L2
open PySem PySem.Spec PyProof.Rows
section
variable {X : Cx} {x : Str} {p pos : Pos} {e : Expr} {es : List Expr} {t : TA} {id T : String} {r : List V → Hp → VK → Prop}

def tCB (r : List V → Hp → VK → Prop) (t : TA) : TE := fun σ H Q => t σ H fun vs H1 => r vs H1 Q
/-- f(e, ..), f a built-in function -/
theorem pe_callB (hc : CallR X (.builtin id) r) (hg : Gl X x) (hm : X.mg x = none) (hv : bootBuiltins x = some (.builtin id)) (ha : PA X (e :: es) t) (hn : x ≠ "__name__" := by decide) (hdb : (x == ("__debug__" : Str)) = false := by decide)
    (he : starEach (e :: es) X.env = (false, eval e X.env) :: starEach es X.env := by rfl) (hpl : (backTo pos (starEach es X.env)).any (·.1) = false := by rfl) : PE X (.Call (.Name x p) (e :: es) [] pos) (tCB r t) := by
  intro pins s σ H Q I h
  refine wpAny_Call_Name_kw (ld_blt I hg hm hv ?_ hn hdb)
  exact PyProof.Rows.callWith_builtin1 (thn (ha pos pins s σ H _ I h) fun us s1 ⟨vs, H1, I1, r1, q1⟩ => hc pins s1 σ H1 vs us Q I1 r1 q1) he hpl
/-- T(e, ..), T a built-in type -/
theorem pe_callTy (hc : CallR X (.type T) r) (hg : Gl X x) (hm : X.mg x = none) (hv : bootBuiltins x = some (.type T)) (ha : PA X (e :: es) t) (hn : x ≠ "__name__" := by decide) (hdb : (x == ("__debug__" : Str)) = false := by decide)
    (he : starEach (e :: es) X.env = (false, eval e X.env) :: starEach es X.env := by rfl) (hpl : (backTo pos (starEach es X.env)).any (·.1) = false := by rfl) : PE X (.Call (.Name x p) (e :: es) [] pos) (tCB r t) := by
  intro pins s σ H Q I h
  refine wpAny_Call_Name_kw (ld_blt I hg hm hv ?_ hn hdb)
  exact PyProof.Rows.callWith_type1 (thn (ha pos pins s σ H _ I h) fun us s1 ⟨vs, H1, I1, r1, q1⟩ => hc pins s1 σ H1 vs us Q I1 r1 q1) he hpl
end
end L2

namespace HT
open PySem PyProof.Rows



section
open PySem.SeqAt
open PySem.AutoSeq1 (wpAny_loadPart')
open PySem.MeetsSeq PySem.MeetsSeq2 PySem.MeetsSeq3

end

section
variable {prog : Program} {w : World} {A : Around} {E : Value → Shared → Prop} {s : Shared}



/-! ### t[a:b], not the whole -/
/-- a slice's bound as a place among n (d where it is left out) -/
def sIx (n d : Nat) : Option Int → Nat
  | none => d
  | some v => if v < 0 then (v + (n : Int)).toNat else min v.toNat n
theorem sIx_nat (n d k : Nat) : sIx n d (some (k : Int)) = min k n := by
  show (if (k : Int) < 0 then ((k : Int) + (n : Int)).toNat else min (k : Int).toNat n) = min k n
  rw [if_neg (by omega), Int.toNat_natCast]

end
end HT

namespace L2
open PySem PySem.Spec PyProof.Rows

/-! ### the parts of a slice -/
abbrev TO := St → Hp → (Option Int → Hp → Prop) → Prop
/-- a slice's part (left out, or an int) -/
def PO (X : Cx) (e : Option Expr) (t : TO) : Prop :=
  ∀ (pins : List (Addr × Obj)) (s : Shared) (σ : St) (H : Hp) (Q : Option Int → Hp → Prop), Inv X pins σ H s → t σ H Q →
    wpAny (model X.prog X.w) X.A (evalPart e X.env) (fun u s' => ∃ o H', Inv X pins σ H' s' ∧ IsPart u o ∧ Q o H') X.xe s
def tNoPart : TO := fun _ H Q => Q none H
def tPart (t : TE) : TO := fun σ H Q => t σ H fun x H1 => ∃ i, x = .int i ∧ Q (some i) H1


section
variable {X : Cx} {e : Expr} {te : TE} {lo hi : Option Expr} {tl th : TO} {pos p2 : Pos}

theorem po_none : PO X none tNoPart := by
  intro pins s σ H Q I h
  rw [evalPart_none]
  exact wpAny_pure ⟨none, H, I, .none, h⟩
theorem po_some (h : PE X e te) : PO X (some e) (tPart te) := by
  intro pins s σ H Q I hw
  rw [evalPart_some]
  refine thn (h pins s σ H _ I hw) fun u s1 ⟨x, H1, I1, r1, q1⟩ => ?_
  obtain ⟨i, rfl, q⟩ := q1
  obtain ⟨t, rfl⟩ := r1
  exact ⟨some i, H1, I1, .int i t, q⟩

/-- what a slice of a value is, by values: the slice object stands at sl -/
def SlR (X : Cx) (r : V → Option Int → Option Int → Hp → VK → Prop) : Prop :=
  ∀ (pins : List (Addr × Obj)) (s : Shared) (σ : St) (H : Hp) (x : V) (v vl vu : Value) (lo hi : Option Int) (sl : Addr) (Q : VK), Inv X pins σ H s → RelV x v → s.heap.IsSliceOf sl vl vu .none → IsPart vl lo → IsPart vu hi → r x lo hi H Q →
    ∃ T id, typeLookup (.type T) "__getitem__" = pure (some (.builtin id)) ∧ s.TypeIs v T ∧ wpAny (model X.prog X.w) X.A (getItem v (.ref sl)) (EP X pins σ Q) X.xe s
def tSl (r : V → Option Int → Option Int → Hp → VK → Prop) (te : TE) (tl th : TO) : TE := fun σ H Q => te σ H fun x H1 => tl σ H1 fun l H2 => th σ H2 fun u H3 => r x l u H3 Q
/-- a[lo:hi], any a -/
theorem pe_slice {r : V → Option Int → Option Int → Hp → VK → Prop} (hr : SlR X r) (he : PE X e te) (hl : PO X lo tl) (hu : PO X hi th) : PE X (.Subscript e (.Slice lo hi none p2) pos) (tSl r te tl th) := by
  intro pins s σ H Q I h
  refine Subscript_ (thn (he pins s σ H _ I h) fun v s1 ⟨x, H1, I1, r1, q1⟩ => ?_)
  refine wpAny_Slice (thn (hl pins s1 σ H1 _ I1 q1) fun vl s2 ⟨l, H2, I2, pl, q2⟩ => thn (hu pins s2 σ H2 _ I2 q2) fun vu s3 ⟨u, H3, I3, pu, q3⟩ => ?_)
  rw [evalPart_none]
  refine wpAny_pure ?_
  have I4 : Inv X pins σ H3 { s3 with heap := s3.heap.push { cls := .type "slice", data := .fields #[vl, vu, .none] } } := I3.kept (t' := s3.toks) fun b ob q => Heap.get?_push_of_some _ q
  obtain ⟨T, id, hT, ht, hg⟩ := hr pins { s3 with heap := s3.heap.push { cls := .type "slice", data := .fields #[vl, vu, .none] } } σ H3 x v vl vu l u s3.heap.objs.size Q I4 r1 (Heap.IsSliceOf.new ..) pl pu q3
  show wpAny (model X.prog X.w) X.A (subscriptTail e (.Slice lo hi none p2) v (.ref s3.heap.objs.size)) (EP X pins σ Q) X.xe { s3 with heap := s3.heap.push { cls := .type "slice", data := .fields #[vl, vu, .none] } }
  exact tail_any (ops := [.ref s3.heap.objs.size, v]) ht hT hg (by with_unfolding_all rfl)

/-- the items of xs[lo:hi] -/
def cutV (xs : List V) (lo hi : Option Int) : List V := (xs.drop (HT.sIx xs.length 0 lo)).take (HT.sIx xs.length xs.length hi - HT.sIx xs.length 0 lo)
theorem cutV_length (xs : List V) (lo hi : Option Int) : (cutV xs lo hi).length ≤ xs.length := by
  unfold cutV
  rw [List.length_take, List.length_drop]
  omega

/-! ### t < u, t + u -/
end
end L2

namespace L2
open PySem PySem.Spec PyProof.Rows

/-! ### places -/
/-- the place that an index of any sign means -/
def ixN (n : Nat) (i : Int) : Option Nat := if 0 ≤ i then (if i < n then some i.toNat else none) else if -(n : Int) ≤ i then some (i + n).toNat else none
def atI {α : Type} (xs : List α) (i : Int) : Option α := (ixN xs.length i).bind fun j => xs[j]?
theorem ixN_seq {n : Nat} {i : Int} {j : Nat} (h : ixN n i = some j) : seqIndex? i n = some j ∧ j < n ∧ -(n : Int) ≤ i ∧ i < n := by
  unfold ixN at h
  by_cases h0 : 0 ≤ i
  · rw [if_pos h0] at h
    by_cases h1 : i < n
    · rw [if_pos h1] at h
      have e : i.toNat = j := Option.some.inj h
      exact ⟨by rw [seqIndex_of h0 h1, e], by omega, by omega, h1⟩
    · rw [if_neg h1] at h; cases h
  · rw [if_neg h0] at h
    by_cases h1 : -(n : Int) ≤ i
    · rw [if_pos h1] at h
      have e : (i + n).toNat = j := Option.some.inj h
      exact ⟨by rw [seqIndex_neg (by omega) h1, e], by omega, h1, by omega⟩
    · rw [if_neg h1] at h; cases h
theorem atI_get {α : Type} {xs : List α} {i : Int} {v : α} (h : atI xs i = some v) : ∃ j, seqIndex? i xs.length = some j ∧ xs[j]? = some v ∧ j < xs.length ∧ -(xs.length : Int) ≤ i ∧ i < xs.length := by
  unfold atI at h
  cases e : ixN xs.length i with
  | none => rw [e] at h; cases h
  | some j =>
    rw [e] at h
    obtain ⟨h1, h2, h3, h4⟩ := ixN_seq e
    exact ⟨j, h1, h, h2, h3, h4⟩
theorem atI_nat {α : Type} {xs : List α} {j : Nat} {v : α} (h : xs[j]? = some v) : atI xs (j : Int) = some v := by
  have hj : j < xs.length := (List.getElem?_eq_some_iff.mp h).1
  have e : ixN xs.length (j : Int) = some j := by
    unfold ixN
    rw [if_pos (by omega), if_pos (by omega)]; simp
  unfold atI; rw [e]; exact h
theorem atI_last {α : Type} (xs : List α) (v : α) : atI (xs ++ [v]) (-1) = some v := by
  have hl : (xs ++ [v]).length = xs.length + 1 := by simp
  have e : ixN (xs ++ [v]).length (-1) = some xs.length := by
    unfold ixN
    rw [hl, if_neg (by decide), if_pos (by omega)]
    congr 1
    omega
  unfold atI
  rw [e]
  show (xs ++ [v])[xs.length]? = some v
  simp

/-! ### what may be subscripted -/
/-- what stands as an index of a plain subscript -/
def PlainIx (b : Expr) : Prop := ∀ o i, subscripted b false o i = operate [o, i] (getItem o i)
/-- a subscript by values -/
def IxR (X : Cx) (r : R2) : Prop :=
  ∀ (value slice : Expr) (pins : List (Addr × Obj)) (s : Shared) (σ : St) (H : Hp) (x y : V) (v u : Value) (Q : VK), Inv X pins σ H s → RelV x v → RelV y u → r x y H Q →
    subscripted slice false v u = operate [v, u] (getItem v u) → wpAny (model X.prog X.w) X.A (subscriptTail value slice v u) (EP X pins σ Q) X.xe s
/-- a call of a builtin's method by values: the receiver, the arguments -/
def MtR (X : Cx) (id : String) (r : V → List V → Hp → VK → Prop) : Prop :=
  ∀ (pins : List (Addr × Obj)) (s : Shared) (σ : St) (H : Hp) (x : V) (xs : List V) (v : Value) (us : List Value) (Q : VK), Inv X pins σ H s → RelV x v → Vals xs us → r x xs H Q →
    wpAny (model X.prog X.w) X.A (call (.builtin id) (v :: us)) (EP X pins σ Q) X.xe s
section
variable {X : Cx} {a b : Expr} {ta tb : TE} {pos : Pos}
/-- a[b] -/
theorem pe_ix {r : R2} (hr : IxR X r) (ha : PE X a ta) (hb : PE X b tb) (hs : PlainIx b) : PE X (.Subscript a b pos) (tOp r ta tb) := by
  intro pins s σ H Q I h
  exact Subscript_ (binT ha hb I h fun v u s2 x y H2 I2 rx ry q => hr a b pins s2 σ H2 x y v u Q I2 rx ry q (hs _ _))

def rIxL (K : PySem.W.Frag) : R2 := fun x y H Q => ∃ p xs i v, x = .ref p ∧ y = .int i ∧ SqL K H p xs ∧ atI xs i = some v ∧ Q v H
def rIxT (K : PySem.W.Frag) : R2 := fun x y H Q => ∃ p xs i v, x = .ref p ∧ y = .int i ∧ SqT K H p xs ∧ atI xs i = some v ∧ Q v H
theorem ix_list : IxR X (rIxL X.K) := by
  intro value slice pins s σ H x y v u Q I rx ry h hs
  obtain ⟨p, xs, i, z, rfl, rfl, hq, he, q⟩ := h
  cases rx
  obtain ⟨t, rfl⟩ := ry
  obtain ⟨its, r, pl, hz⟩ := I.list hq
  obtain ⟨j, h1, h2, h3, h4, h5⟩ := atI_get he
  obtain ⟨w, ew, rw'⟩ := r.get h2
  have hl := r.length
  have hn := line63
  have fin : EP X pins σ Q w s := ⟨z, H, I, rw', q⟩
  by_cases h0 : 0 ≤ i
  · have hj : i.toNat = j := by
      rw [seqIndex_of h0 h5] at h1
      exact Option.some.inj h1
    exact item_listR pl.isList h0 (by omega) (by rw [hj]; simpa using ew) fin hs
  · have hj : (i + (its.toArray.size : Int)).toNat = j := by
      rw [seqIndex_neg (by omega) h4] at h1
      rw [List.size_toArray, ← hl]
      exact Option.some.inj h1
    exact subscriptTail_builtinR (x := w) pl.isList.typeIs slot_list_getitem.lookup
      (wpAny_getItem_list_neg (Q := fun r s' => r = w ∧ EP X pins σ Q r s') pl.isList (by omega) (by rw [List.size_toArray] <;> omega) (by omega) (by rw [hj]; simpa using ew) ⟨rfl, fin⟩) hs
theorem ix_tup : IxR X (rIxT X.K) := by
  intro value slice pins s σ H x y v u Q I rx ry h hs
  obtain ⟨p, xs, i, z, rfl, rfl, hq, he, q⟩ := h
  cases rx
  obtain ⟨t, rfl⟩ := ry
  obtain ⟨its, r, pl, hz⟩ := I.tuple hq
  obtain ⟨j, h1, h2, h3, h4, h5⟩ := atI_get he
  obtain ⟨w, ew, rw'⟩ := r.get h2
  have hl := r.length
  have hn := line63
  have fin : EP X pins σ Q w s := ⟨z, H, I, rw', q⟩
  exact subscriptTail_builtinR (x := w) pl.typeIs slot_tuple_getitem.lookup
    (getItem_tuple (j := j) (Q := fun r s' => r = w ∧ EP X pins σ Q r s') pl (by omega) (by omega) (by rw [List.size_toArray, ← hl]; exact h1) (by simpa using ew) ⟨rfl, fin⟩) hs

/-! ### xs[i] = v, any sign -/
/-- the list's object behind a store -/
theorem mapSeq_set (its : List Value) (n j : Nat) (u : Value) : Obj.mapSeq (·.setIfInBounds j u) { cls := .type "list", data := .seq its.toArray n } = { cls := .type "list", data := .seq (its.set j u).toArray n } := by
  simp [Obj.mapSeq]
theorem Inv.lst {pins : List (Addr × Obj)} {σ : St} {H : Hp} {s : Shared} {p : Addr} {xs : List V} (I : Inv X pins σ H s) (h : H p = some (.lst xs)) :
    ∃ (its : List Value) (n : Nat), Vals xs its ∧ s.heap.get? p = some { cls := .type "list", data := .seq its.toArray n } ∧ xs.length ≤ sizeLine := by
  obtain ⟨z, its, n, r, e⟩ := I.hok p _ h
  exact ⟨its, n, r, e, z⟩
/-- the list at p is written by an update of its object -/
theorem Inv.lstUpd {pins : List (Addr × Obj)} {σ : St} {H : Hp} {s : Shared} {p : Addr} {xs ys : List V} {its its' : List Value} {n n' : Nat} {f : Obj → Obj} (I : Inv X pins σ H s) (h : H p = some (.lst xs))
    (ho : s.heap.get? p = some { cls := .type "list", data := .seq its.toArray n }) (hf : f { cls := .type "list", data := .seq its.toArray n } = { cls := .type "list", data := .seq its'.toArray n' }) (r : Vals ys its') (hz : ys.length ≤ sizeLine) (t : Nat) :
    Inv X pins σ (upd H p (.lst ys)) { s with heap := s.heap.update p f, toks := t } := by
  have e : (s.heap.update p f).get? p = some { cls := .type "list", data := .seq its'.toArray n' } := by
    rw [Heap.get?_update_self f ho (by rw [hf] <;> rfl), hf]
  refine I.write (x := p) (e := p) (by rw [h]; trivial) (.inl rfl) (fun b u hb q => (Heap.get?_update_other _ _ (Ne.symm hb)).trans q) ⟨_, e⟩ ?_
  exact ⟨hz, its', n', r, e⟩
def rSetL : V → V → V → Hp → (Hp → Prop) → Prop := fun o i v H Q => ∃ p xs k j, o = .ref p ∧ i = .int k ∧ H p = some (.lst xs) ∧ ixN xs.length k = some j ∧ Q (upd H p (.lst (xs.set j v)))
theorem set_list : PSet X rSetL := by
  intro pins s σ H o i v ov iv u Q I ro ri rv h
  obtain ⟨p, xs, k, j, rfl, rfl, hp, hj, q⟩ := h
  cases ro
  obtain ⟨t, rfl⟩ := ri
  obtain ⟨its, n, r, ho, hz⟩ := I.lst hp
  obtain ⟨h1, h2, h3, h4⟩ := ixN_seq hj
  have hl := r.length
  have hn := line63
  have I' : Inv X pins σ (upd H p (.lst (xs.set j v))) { s with heap := s.heap.update p (Obj.mapSeq (·.setIfInBounds j u)) } :=
    I.lstUpd hp ho (mapSeq_set its n j u) (r.set rv j) (by rw [List.length_set]; exact hz) s.toks
  by_cases h0 : 0 ≤ k
  · have hk : k.toNat = j := by
      rw [seqIndex_of h0 h4] at h1
      exact Option.some.inj h1
    exact PySem.W.ki_setAt ho h0 (by omega) (by rw [List.size_toArray, ← hl]; exact h4) (by rw [hk]; exact ⟨_, I', q⟩)
  · have hk : (k + (its.toArray.size : Int)).toNat = j := by
      rw [seqIndex_neg (by omega) h3] at h1
      rw [List.size_toArray, ← hl]
      exact Option.some.inj h1
    exact PySem.W.ki_setBack ho (by omega) (by rw [List.size_toArray, ← hl]; exact h3) (by omega) (by rw [hk]; exact ⟨_, I', q⟩)

/-! ### slices -/
theorem slice_bounds (lo hi : Option Int) (n : Nat) : (sliceBounds lo hi none n).1 = ((HT.sIx n 0 lo : Nat) : Int) ∧ (sliceBounds lo hi none n).2.1 = ((HT.sIx n n hi : Nat) : Int) ∧ (sliceBounds lo hi none n).2.2 = 1 := by
  refine ⟨?_, ?_, rfl⟩
  · cases lo with
    | none => simp [sliceBounds, HT.sIx]
    | some i =>
      simp only [sliceBounds, HT.sIx, Option.getD_none, show (1 : Int) > 0 by decide, if_true]
      by_cases h : i < 0
      · simp only [h, if_true] <;> omega
      · simp only [h, if_false] <;> omega
  · cases hi with
    | none => simp [sliceBounds, HT.sIx]
    | some i =>
      simp only [sliceBounds, HT.sIx, Option.getD_none, show (1 : Int) > 0 by decide, if_true]
      by_cases h : i < 0
      · simp only [h, if_true] <;> omega
      · simp only [h, if_false] <;> omega
theorem slicePick_cut (its : List Value) (lo hi : Option Int) : slicePick its.toArray lo hi none = ((its.drop (HT.sIx its.length 0 lo)).take (HT.sIx its.length its.length hi - HT.sIx its.length 0 lo)).toArray := by
  obtain ⟨h1, h2, h3⟩ := slice_bounds lo hi its.toArray.size
  unfold slicePick
  rw [h1, h2, h3]
  simp only [sliceRange_one, pick_run, List.size_toArray] <;> rfl
/-- xs[lo:hi] of a list: a new list -/
def rSlL (K : PySem.W.Frag) : V → Option Int → Option Int → Hp → VK → Prop := fun x lo hi H Q => ∃ a xs, x = .ref a ∧ SqL K H a xs ∧ ∀ p, H p = none → Q (.ref p) (upd H p (.lst (cutV xs lo hi)))
theorem sl_list : SlR X (rSlL X.K) := by
  intro pins s σ H x v vl vu lo hi sl Q I rx hs pl pu h
  obtain ⟨a, xs, rfl, hx, q⟩ := h
  cases rx
  obtain ⟨its, r, ht, hz⟩ := I.list hx
  have hlen := r.length
  refine ⟨"list", _, slot_list_getitem.lookup, ht.isList.typeIs, ?_⟩
  refine wpAny_getItem_list_slice ht.isList hs pl pu .none (by simp) ?_ (by rw [List.size_toArray] <;> omega)
  rw [slicePick_cut, ← hlen]
  refine ⟨.ref s.heap.objs.size, _, I.laid (t' := s.toks) (o := .lst (cutV xs lo hi)) (fun b ob q => Heap.get?_push_of_some _ q) (Nat.le_refl _) ?_, rfl, q _ (I.hok.fresh (Nat.le_refl _))⟩
  exact ⟨Nat.le_trans (cutV_length xs lo hi) hz, _, 0, (r.drop (HT.sIx xs.length 0 lo)).take (HT.sIx xs.length xs.length hi - HT.sIx xs.length 0 lo), Heap.get?_push_size _ rfl⟩

/-! ### in, not in: flat items -/

/-! ### len, list(x), tuple(x) of any list or tuple that is read -/
theorem call_len_seq : CallR X (.builtin "len") (fun xs H Q => ∃ p ys, xs = [.ref p] ∧ (SqL X.K H p ys ∨ SqT X.K H p ys) ∧ Q (.int ys.length) H) := by
  intro pins s σ H xs us Q I r h
  obtain ⟨p, ys, rfl, hq, q⟩ := h
  obtain ⟨u, rfl, rx⟩ := vals1 r
  cases rx
  have hn := line63
  rcases hq with hq | hq
  · obtain ⟨its, r', pl, hz⟩ := I.list hq
    have hlen := r'.length
    exact Calls.call_len_list pl.isList (by simp only [List.size_toArray] <;> omega) ⟨.int ys.length, H, I.tok _, ⟨s.toks + 1, by rw [List.size_toArray, hlen]⟩, q⟩
  · obtain ⟨its, r', pl, hz⟩ := I.tuple hq
    have hlen := r'.length
    exact len_tuple pl (by simp only [List.size_toArray] <;> omega) ⟨.int ys.length, H, I.tok _, ⟨s.toks + 1, by rw [List.size_toArray, hlen]⟩, q⟩
theorem call_list_of : CallR X (.type "list") (fun xs H Q => ∃ p ys, xs = [.ref p] ∧ (SqL X.K H p ys ∨ SqT X.K H p ys) ∧ ∀ l, H l = none → Q (.ref l) (upd H l (.lst ys))) := by
  intro pins s σ H xs us Q I r h
  obtain ⟨p, ys, rfl, hq, q⟩ := h
  obtain ⟨u, rfl, rx⟩ := vals1 r
  cases rx
  have fin : ∀ (its : List Value), Vals ys its → ys.length ≤ sizeLine → ∀ (h' : Heap) (c' : Nat), (∀ b o', s.heap.get? b = some o' → h'.get? b = some o') →
      h'.get? s.heap.objs.size = some { cls := .type "list", dict := none, data := .seq its.toArray c', slots := #[] } → EP X pins σ Q (.ref s.heap.objs.size) { s with heap := h' } := fun its r' hz h' c' kp e =>
    ⟨.ref s.heap.objs.size, _, I.laid (t' := s.toks) kp (Nat.le_refl _) (show ObjOk X.prog X.w _ h' _ (.lst ys) from ⟨hz, its, c', r', e⟩), rfl, q _ (I.hok.fresh (Nat.le_refl _))⟩
  rcases hq with hq | hq
  · obtain ⟨its, r', pl, hz⟩ := I.list hq
    have hlen := r'.length
    obtain ⟨o, ho, hc, n, hd⟩ := pl.isList
    exact call_list_seq p (.inl rfl) ho hc hd (fun h' c' kp e => fin its r' hz h' c' kp e) (by simp only [List.size_toArray] <;> omega)
  · obtain ⟨its, r', pl, hz⟩ := I.tuple hq
    have hlen := r'.length
    obtain ⟨o, ho, hc, n, hd⟩ := pl
    exact call_list_seq p (.inr rfl) ho hc hd (fun h' c' kp e => fin its r' hz h' c' kp e) (by simp only [List.size_toArray] <;> omega)

/-! ### the call of a builtin's method: o.m(..) -/
/-- the value is of that builtin type -/
def tyV (K : PySem.W.Frag) (T : String) (x : V) (H : Hp) : Prop := match x with
  | .str _ => T = "str"
  | .int _ => T = "int"
  | .ref p => (T = "list" ∧ ∃ xs, SqL K H p xs) ∨ (T = "tuple" ∧ ∃ o, K.lookup p = some o ∧ o.cls = .type "tuple" ∧ o.dict = none) ∨
      (T = "dict" ∧ ((∃ kvs, H p = some (.dK kvs)) ∨ ∃ kvs, H p = some (.dT kvs))) ∨ (T = "set" ∧ ∃ S n, H p = some (.set S n))
  | _ => False
theorem tyV_is {pins : List (Addr × Obj)} {σ : St} {H : Hp} {s : Shared} {T : String} {x : V} {v : Value} (I : Inv X pins σ H s) (r : RelV x v) (ty : tyV X.K T x H) :
    s.TypeIs v T ∧ ∀ a, v = .ref a → ∃ ob, s.heap.get? a = some ob ∧ ob.dict = none := by
  cases x with
  | str z =>
    obtain ⟨t, rfl⟩ := r
    cases (show T = "str" from ty)
    exact ⟨typeIs_str s z t, fun _ e => nomatch e⟩
  | int i =>
    obtain ⟨t, rfl⟩ := r
    cases (show T = "int" from ty)
    exact ⟨typeIs_int s i t, fun _ e => nomatch e⟩
  | ref p =>
    cases r
    rcases ty with ⟨rfl, xs, hq⟩ | ⟨rfl, o, hk, hc, hd⟩ | ⟨rfl, hk⟩ | ⟨rfl, S, n, hk⟩
    · obtain ⟨its, _, pl, _⟩ := I.list hq
      refine ⟨pl.isList.typeIs, fun a e => ?_⟩
      cases e
      obtain ⟨o, n, e, c, hd, _⟩ := pl
      exact ⟨o, e, hd⟩
    · refine ⟨⟨o, I.kIn p o hk, hc⟩, fun a e => ?_⟩
      cases e
      exact ⟨o, I.kIn _ o hk, hd⟩
    · have z : ∃ o, s.heap.get? p = some o ∧ o.ExactDict := by
        rcases hk with ⟨kvs, hk⟩ | ⟨kvs, hk⟩
        · obtain ⟨_, _, _, _, o, _, _, e, ex, _⟩ := I.hok p _ hk
          exact ⟨o, e, ex⟩
        · obtain ⟨_, _, _, _, o, _, _, e, ex, _⟩ := I.hok p _ hk
          exact ⟨o, e, ex⟩
      obtain ⟨o, e, ex⟩ := z
      refine ⟨⟨o, e, ex.1⟩, fun a e2 => ?_⟩
      cases e2
      exact ⟨o, e, ex.2.1⟩
    · obtain ⟨o, _, _, _, e, ex, _⟩ := I.hok p _ hk
      refine ⟨⟨o, e, ex.1⟩, fun a e2 => ?_⟩
      cases e2
      exact ⟨o, e, ex.2.1⟩
  | _ => exact False.elim ty
def tBM0 (K : PySem.W.Frag) (T : String) (r : V → List V → Hp → VK → Prop) (to : TE) : TE := fun σ H Q => to σ H fun x H1 => tyV K T x H1 ∧ r x [] H1 Q
def tBM (K : PySem.W.Frag) (T : String) (r : V → List V → Hp → VK → Prop) (to : TE) (t : TA) : TE := fun σ H Q => to σ H fun x H1 => tyV K T x H1 ∧ t σ H1 fun xs H2 => r x xs H2 Q
variable {o e : Expr} {es : List Expr} {to : TE} {t : TA} {name : Str} {apos cpos : Pos} {T id : String} {r : V → List V → Hp → VK → Prop}
theorem pe_bm0 (pa : PlainAttrs T) (slot : Slot T name id) (hty : typeOf (.builtin id) = pure (.type "method_descriptor")) (hm : MtR X id r) (ho : PE X o to)
    (hbase : attributeBase o name X.env (eval o X.env) = eval o X.env := by rfl) (hline : (apos.endLine == cpos.line) = true := by rfl) : PE X (.Call (.Attribute o name apos) [] [] cpos) (tBM0 X.K T r to) := by
  intro pins s σ H Q I h
  refine wpAny_Call_method0_late hbase hline (thn (ho pins s σ H _ I h) fun v s1 ⟨x, H1, I1, r1, ty, q1⟩ => ?_)
  obtain ⟨h1, h2⟩ := tyV_is I1 r1 ty
  exact ⟨T, id, pa, slot, hty, h1, h2, Calls.callWith_builtin rfl (PySem.evalArgs_none (hm pins s1 σ H1 x [] v [] Q I1 r1 .nil q1))⟩
theorem pe_bm (pa : PlainAttrs T) (slot : Slot T name id) (hty : typeOf (.builtin id) = pure (.type "method_descriptor")) (hm : MtR X id r) (ho : PE X o to) (ha : PA X (e :: es) t)
    (hbase : attributeBase o name X.env (eval o X.env) = eval o X.env := by rfl)
    (hfew : ((backTo cpos (starEach (e :: es) X.env)).all (fun x => !x.1) && (backToKw cpos (keywordEach [] X.env)).all (fun x => x.1.isSome)
      && decide ((e :: es).length + ([] : List Keyword).length + (if ([] : List Keyword).isEmpty then 0 else 1) < 30)) = true := by rfl)
    (hline : (apos.endLine == cpos.line) = true := by rfl) (hs : starEach (e :: es) X.env = (false, eval e X.env) :: starEach es X.env := by rfl) (hplain : (backTo cpos (starEach es X.env)).any (·.1) = false := by rfl) :
    PE X (.Call (.Attribute o name apos) (e :: es) [] cpos) (tBM X.K T r to t) := by
  intro pins s σ H Q I h
  refine wpAny_Call_method_late hbase hfew hline rfl (thn (ho pins s σ H _ I h) fun v s1 ⟨x, H1, I1, r1, ty, q1⟩ => ?_)
  obtain ⟨h1, h2⟩ := tyV_is I1 r1 ty
  refine ⟨T, id, pa, slot, hty, h1, h2, ?_⟩
  have hA := ha cpos pins s1 σ H1 _ I1 q1
  rw [hs] at hA ⊢
  refine Calls.callWith_builtin (by show (false || (backTo cpos (starEach es X.env)).any (·.1)) = false; rw [hplain] <;> rfl) (Calls.evalArgs_plain ?_)
  exact thn hA fun us s2 ⟨vs, H2, I2, r2, q2⟩ => hm pins s2 σ H2 x vs v us Q I2 r1 r2 q2
/- xs.append(e), list.index on a module's tuple .. are MtR facts of 06m -/
end
end L2

namespace L2
open PySem PySem.Spec PyProof.Rows

def MtM (X : Cx) (id : String) (r : V → List V → Hp → VK → Prop) : Prop :=
  ∀ (pins : List (Addr × Obj)) (s : Shared) (σ : St) (H : Hp) (x : V) (xs : List V) (v : Value) (us : List Value) (Q : VK), Inv X pins σ H s → RelV x v → Vals xs us → r x xs H Q →
    wpAny (model X.prog X.w) X.A (call (.builtin id) (v :: us)) (EP X pins σ Q) X.xe s

/-! ### lists of values -/
theorem Vals.one : ∀ {x : V} {us : List Value}, Vals [x] us → ∃ u, us = [u] ∧ RelV x u
  | _, _, .cons r .nil => ⟨_, rfl, r⟩
theorem Vals.two : ∀ {x y : V} {us : List Value}, Vals [x, y] us → ∃ u v, us = [u, v] ∧ RelV x u ∧ RelV y v
  | _, _, _, .cons r (.cons q .nil) => ⟨_, _, rfl, r, q⟩
theorem Vals.rep {xs : List V} {us : List Value} (h : Vals xs us) : ∀ k : Nat, Vals (List.replicate k xs).flatten (List.replicate k us).flatten
  | 0 => .nil
  | k + 1 => by
    rw [List.replicate_succ, List.replicate_succ, List.flatten_cons, List.flatten_cons]
    exact Vals.append h (Vals.rep h k)
theorem foldl_rep (its : List Value) : ∀ (k : Nat) (acc : List Value),
    List.foldl (fun x1 x2 => x1 ++ x2) acc.toArray (List.replicate k its.toArray) = (acc ++ (List.replicate k its).flatten).toArray
  | 0, acc => by simp
  | k + 1, acc => by
    have e : acc.toArray ++ its.toArray = (acc ++ its).toArray := by simp
    have e2 : (acc ++ its) ++ (List.replicate k its).flatten = acc ++ (List.replicate (k + 1) its).flatten := by
      rw [List.replicate_succ, List.flatten_cons, List.append_assoc]
    rw [← e2, ← foldl_rep its k (acc ++ its), ← e, List.replicate_succ, List.foldl_cons]

section
variable {X : Cx} {pins : List (Addr × Obj)} {σ : St} {H : Hp} {s : Shared} {l b : Addr} {xs ys zs : List V}

/-! ### the two steps: a tracked list is rewritten, a new list is laid -/
theorem Inv.lset {its its' : List Value} {n : Nat} {f : Array Value → Array Value} {t' : Nat} (I : Inv X pins σ H s) (hH : H l = some (.lst xs))
    (e : s.heap.get? l = some { cls := .type "list", data := .seq its.toArray n }) (hf : f its.toArray = its'.toArray) (hv : Vals ys its') (hz : ys.length ≤ sizeLine) :
    Inv X pins σ (upd H l (.lst ys)) { s with heap := s.heap.update l (Obj.mapSeq f), toks := t' } := by
  have q := PySem.IsL.update e f
  rw [hf] at q
  refine I.write (x := l) (e := l) (by rw [hH]; exact trivial) (.inl rfl) (fun b' u hb hu => (Heap.get?_update_other s.heap (Obj.mapSeq f) (Ne.symm hb)).trans hu) ⟨_, q⟩ ?_
  exact ⟨hz, its', _, hv, q⟩
theorem Inv.lnew {its : List Value} {t' : Nat} (I : Inv X pins σ H s) (hv : Vals ys its) (hz : ys.length ≤ sizeLine) :
    Inv X pins σ (upd H s.heap.objs.size (.lst ys)) { s with heap := s.heap.push { cls := .type "list", data := .seq its.toArray }, toks := t' } :=
  I.laid (fun _ _ q => Heap.get?_push_of_some _ q) (Nat.le_refl _) ⟨hz, its, 0, hv, Heap.get?_push_size _ rfl⟩
theorem Inv.fresh (I : Inv X pins σ H s) : H s.heap.objs.size = none := I.hok.fresh (Nat.le_refl _)
theorem Inv.lstM (I : Inv X pins σ H s) (hH : H l = some (.lst xs)) : xs.length ≤ sizeLine ∧ ∃ (its : List Value) (n : Nat), Vals xs its ∧ xs.length = its.length ∧ s.heap.get? l = some { cls := .type "list", data := .seq its.toArray n } := by
  obtain ⟨z, its, n, r, e⟩ := I.hok l _ hH
  exact ⟨z, its, n, r, r.length, e⟩

theorem notLongL {n : Nat} (h : n ≤ sizeLine) : Builtin.List.listTooLong n = false := by
  unfold Builtin.List.listTooLong
  exact decide_eq_false (by omega)
end

section
variable {X : Cx}

/-! ### methods -/
def rAppend : V → List V → Hp → VK → Prop := fun x vs H Q => ∃ l xs y, x = .ref l ∧ vs = [y] ∧ H l = some (.lst xs) ∧ xs.length < sizeLine ∧ Q .non (upd H l (.lst (xs ++ [y])))
theorem mt_append : MtM X "list.append" rAppend := by
  intro pins s σ H x vs v us Q I rx rv h
  obtain ⟨l, xs, y, rfl, rfl, hH, hz, q⟩ := h
  cases rx
  obtain ⟨u, rfl, ru⟩ := rv.one
  obtain ⟨z, its, n, r, hl, e⟩ := I.lstM hH
  refine call_meets F.slot_list_append ⟨_, e, rfl⟩ F.entry_list_append (F.args_list_append_2 _ _) (PySem.list_append l its.toArray n u (by rw [List.size_toArray]; omega)) ⟨e, ?_⟩
  refine ⟨.non, _, I.lset (its' := its ++ [u]) hH e (by simp) (r.append (.cons ru .nil)) ?_, rfl, q⟩
  rw [List.length_append, List.length_singleton]
  omega

def rExtend : V → List V → Hp → VK → Prop := fun x vs H Q => ∃ l b xs zs, x = .ref l ∧ vs = [.ref b] ∧ H l = some (.lst xs) ∧ H b = some (.lst zs) ∧ xs.length + zs.length ≤ sizeLine ∧ Q .non (upd H l (.lst (xs ++ zs)))
theorem mt_extend : MtM X "list.extend" rExtend := by
  intro pins s σ H x vs v us Q I rx rv h
  obtain ⟨l, b, xs, zs, rfl, rfl, hH, hB, hz, q⟩ := h
  cases rx
  obtain ⟨u, rfl, ru⟩ := rv.one
  cases ru
  obtain ⟨z, its, n, r, hl, e⟩ := I.lstM hH
  obtain ⟨z2, its2, n2, r2, hl2, e2⟩ := I.lstM hB
  have hsz : its.toArray.size + its2.toArray.size ≤ sizeLine := by rw [List.size_toArray, List.size_toArray]; omega
  have hlong : ¬ (!its.toArray.isEmpty && Builtin.List.listTooLong (its.toArray.size + its2.toArray.size)) = true := by
    rw [notLongL hsz, Bool.and_false]
    exact Bool.false_ne_true
  refine call_meets F.slot_list_extend ⟨_, e, rfl⟩ F.entry_list_extend (F.args_list_extend_2 _ _)
    (AutoSeq1.list_extend_list_list_0 l its.toArray n b its2.toArray n2 hlong (by rw [List.size_toArray]; omega) (by omega)) ⟨e, e2, ?_⟩
  refine ⟨.non, _, I.lset (its' := its ++ its2) hH e (by simp) (r.append r2) ?_, rfl, q⟩
  rw [List.length_append]
  omega





/-! ### list + list, list += list, list * int -/
def rCat : R2 := fun x y H Q => ∃ l b xs zs, x = .ref l ∧ y = .ref b ∧ H l = some (.lst xs) ∧ H b = some (.lst zs) ∧ xs.length + zs.length ≤ sizeLine ∧ ∀ p, H p = none → Q (.ref p) (upd H p (.lst (xs ++ zs)))
theorem op_cat : OpR X (binaryOp .Add) rCat := by
  intro pins s σ H x y v u Q I rx ry h
  obtain ⟨l, b, xs, zs, rfl, rfl, hH, hB, hz, q⟩ := h
  cases rx
  cases ry
  obtain ⟨z, its, n, r, hl, e⟩ := I.lstM hH
  obtain ⟨z2, its2, n2, r2, hl2, e2⟩ := I.lstM hB
  refine PySem.P.add_list e e2 ?_ (by rw [List.size_toArray, List.size_toArray]; omega)
  have ea : its.toArray ++ its2.toArray = (its ++ its2).toArray := by simp
  rw [ea]
  exact ⟨.ref _, _, I.lnew (t' := s.toks) (r.append r2) (by rw [List.length_append]; omega), rfl, q _ I.fresh⟩
/-- a list times an int (a negative one is nothing) -/
def rRep : R2 := fun x y H Q => ∃ l k xs, x = .ref l ∧ y = .int k ∧ H l = some (.lst xs) ∧ -(2 ^ 63) ≤ k ∧ k < 2 ^ 63 ∧ xs.length * k.toNat ≤ sizeLine ∧
  ∀ p, H p = none → Q (.ref p) (upd H p (.lst (List.replicate k.toNat xs).flatten))
theorem len_rep {α : Type} (xs : List α) (k : Nat) : (List.replicate k xs).flatten.length = k * xs.length := by
  induction k with
  | zero => simp
  | succ k ih => rw [List.replicate_succ, List.flatten_cons, List.length_append, ih, Nat.succ_mul, Nat.add_comm]
theorem op_rep : OpR X (binaryOp .Mult) rRep := by
  intro pins s σ H x y v u Q I rx ry h
  obtain ⟨l, k, xs, rfl, rfl, hH, h1, h2, hz, q⟩ := h
  cases rx
  obtain ⟨t, rfl⟩ := ry
  obtain ⟨z, its, n, r, hl, e⟩ := I.lstM hH
  have hlen : its.toArray.size * k.toNat ≤ sizeLine := by rw [List.size_toArray, ← hl]; exact hz
  have hcap : ¬ its.toArray.size * k.toNat > (2 ^ 63 - 1) / 8 := by
    have : (sizeLine : Nat) ≤ (2 ^ 63 - 1) / 8 := by decide
    omega
  have hfit : ¬ (!Builtin.List.listFitsIndex k) = true := by
    rw [fitsIndex_both h1 h2]
    exact Bool.false_ne_true
  have hlong : ¬ Builtin.List.listTooLong (its.toArray.size * k.toNat) = true := by
    rw [notLongL hlen]
    exact Bool.false_ne_true
  have hnew : List.foldl (fun x1 x2 => x1 ++ x2) #[] (List.replicate (if its.toArray.isEmpty = true then 0 else k.toNat) its.toArray) = (List.replicate k.toNat its).flatten.toArray := by
    have f0 : ∀ m : Nat, List.foldl (fun x1 x2 => x1 ++ x2) #[] (List.replicate m its.toArray) = (List.replicate m its).flatten.toArray := fun m => by
      have := foldl_rep its m []
      rw [List.nil_append] at this
      exact this
    rw [f0]
    cases its with
    | nil => simp
    | cons a r' => rw [if_neg (by simp)]
  refine wpAny_binaryOp_repeat_ref (T := "list") (U := "int") (by decide) ⟨_, e, rfl⟩ (fun s' => typeIs_int s' k t) noFill_list_mul F.fills_int_mul F.slot_int_rmul repeat_list F.slot_int_index.lookup
    (call_meets F.slot_int_rmul (typeIs_int s k t) F.entry_int_rmul (F.args_int_rmul_2 _ _) (int___rmul___int_list k t l its.toArray n)
      ⟨e, rfl, ⟨_, e, rfl⟩, call_meets F.slot_list_mul ⟨_, e, rfl⟩ F.entry_list_mul (F.args_list_mul_2 _ _) (AutoListH.list___mul___list_int_3 l its.toArray n k t hfit hcap hlong) ⟨e, ?_⟩⟩)
  rw [hnew]
  exact ⟨.ref _, _, I.lnew (t' := s.toks) (r.rep k.toNat) (by rw [len_rep, Nat.mul_comm]; exact hz), rfl, q _ I.fresh⟩

/-! ### del xs[i] -/
end

/-! ### xs[a:b] = ys -/
section
variable {prog : Program} {w : World} {A : Around} {E : Value → Shared → Prop} {s : Shared}
end

section
variable {X : Cx}
end
end L2

namespace Att
open PySem PySem.W PySem.Calls PyProof.Rows

/-! ### the script -/
theorem ints_of_wellAll {P : Params} {h : Heap} : ∀ (ns : List Int) (vs : List Value), WellAll P h vs (ns.map WData.int) → IntsAre vs ns := by
  intro ns
  induction ns with
  | nil =>
    intro vs w
    rw [List.map_nil] at w
    cases w
    exact .nil
  | cons n ns ih =>
    intro vs w
    rw [List.map_cons] at w
    cases w with
    | cons a b =>
      cases a
      exact .cons _ _ (ih _ b)

theorem script_of {l : OpenLaw} {n : Nat} (hn : l.most = some n) {P : Params} {h : Heap} {args : List WData} {vals : List Value}
    (hpre : l.row.toRowW.claim.pre args = true) (hwl : WellAll P h vals args) :
    ∃ a vs ns, vals = [Value.ref a] ∧ args = [WData.list (ns.map WData.int)] ∧ h.get? a = some { cls := .type "list", data := .seq vs.toArray } ∧ IntsAre vs ns ∧ ns.length ≤ n := by
  have hsh : WShape.hasAll [] args [.list .int] = true := (pre_splitW hpre).1
  have hc : l.pre.holds [] { args := args } = true := (pre_splitW hpre).2
  obtain ⟨d, r, rfl, h1, h2⟩ := hasAllW_cons hsh
  obtain rfl := hasAllW_nil h2
  obtain ⟨xs, rfl, h3⟩ := hasW_list h1
  obtain ⟨ns, rfl⟩ := items_int h3
  have hlen : ns.length ≤ n := by
    unfold OpenLaw.pre at hc
    have h4 : (WTm.not (.lt (.lit (.int (n : Int))) (.len (.arg 0)))).holds [] { args := [.list (ns.map .int)] } = true := by
      have h4 := (holds_andW hc).1
      rw [hn] at h4
      exact h4
    have h5 := condW_of h4 (w_not (w_lt w_lit (w_len_list (w_arg rfl))))
    rw [List.length_map] at h5
    refine Nat.le_of_not_lt fun q => ?_
    have q' : (n : Int) < ((ns.length : Nat) : Int) := by omega
    first
      | (rw [decide_eq_true q'] at h5; exact absurd h5 (by decide))
      | (simp at h5; omega)
  cases hwl with
  | cons w1 w2 =>
    cases w2
    cases w1 with
    | list ho hall => exact ⟨_, _, ns, rfl, rfl, ho, ints_of_wellAll ns _ hall, hlen⟩

theorem post_true (l : OpenLaw) (args : List WData) : l.row.toRowW.claim.post args (.bool true) args = true :=
  postW_of (r := l.row.toRowW) (X := (true == true))
    (show WShape.has [] (.bool true) .bool = true by first | rfl | decide | simp [WShape.has, WShape.arms, WShape.armsAll])
    (show (WTm.eq .res (.lit (.bool true))).value [] { args := args, res := some (.bool true), after := args } = some (.bool (true == true)) from w_eq_bool (w_res rfl) w_lit) rfl

/-! ### the attachment: holds_open's last premise (the goal 'hc' behind k_head) from a wpAny of the law's body -/

/-- the same from a codeAny of the CALL (for a layer whose function contracts speak of calls) -/
theorem attach_call {l : OpenLaw} {n : Nat} {q : Program} {loose : List Str} {XP : (Str → Option Value) → Heap → Prop} {YP : World → Heap → Prop} {d : DefRec}
    (hn : l.most = some n) (hdf : d.params.defaults = [])
    (call : ∀ (w : World) (s₀ s₁ : Shared) (mg mb : Str → Option Value) (fa : Addr) (o : Obj) (pm cd doc : Value) (a : Addr) (vs : List Value) (ns : List Int),
      Ground q loose [] XP w s₀ mg mb s₁.heap → YP w s₁.heap →
      s₁.heap.get? fa = some o → o.data = .func (docDef d.name d.params d.body d.scope pm cd doc) → s₁.heap.CodeRec cd d.name → mg d.name = some (.ref fa) →
      s₁.heap.get? a = some { cls := .type "list", data := .seq vs.toArray } → IntsAre vs ns → ns.length ≤ n → s₁.gens = #[] →
      codeAny (model l.prog w) callerA (.call (.ref fa) ⟨[.ref a], []⟩) (fun r s' => r = .ok (.ret (.bool true)) ∧ OldK s₁.heap s'.heap ∧ s'.os = s₁.os ∧ AllBare s'.gens) s₁) :
    WalkO q loose XP YP l.row.toRowW d [] (fun f vs => PySem.call f vs) := by
  intro w s₀ s₁ mg mb G Y fa o pm cd doc dV kV ho hd hcd hD hmg hg args vals as hpre hlay hrd hwl hlo
  obtain rfl : dV = .none := Dflts.none hD hdf
  obtain rfl : kV = .none := Dflts.noKw hD
  obtain ⟨a, vs, ns, rfl, rfl, hobj, hints, hlen⟩ := script_of hn hpre hwl
  refine enter_call (codeAny_mono (call w s₀ s₁ mg mb fa o pm cd doc a vs ns G Y ho (fd_plain hd) hcd hmg hobj hints hlen hg) fun r s' hq => ?_)
  obtain ⟨rfl, h2, h3, h4⟩ := hq
  exact ⟨.inl ⟨.bool true, .bool true, [], rfl, fun _ => rfl, .bool true, post_true l _, fun _ => ⟨List.Pairwise.nil, fun _ hm => (nomatch hm)⟩⟩, h2, h3, h4⟩


/-! ### rules over ANY heap (no ledger) from facts about the written part K: the library's own take a ledger (News) for what they write -/
section
variable {prog : Program} {w : World} {A : Around} {E : Value → Shared → Prop} {s : Shared} {K : Frag}





/-! the whole heap as the ledger: makes every rule that writes through a ledger a rule over any heap -/

end
end Att

namespace L2
open PySem PySem.Spec PyProof.Rows

theorem vals_ints : ∀ {vs : List Value} {ns : List Int}, IntsAre vs ns → Vals (ns.map V.int) vs
  | _, _, .nil => .nil
  | _, _, .cons n t h => .cons ⟨t, rfl⟩ (vals_ints h)

/-- nothing is tracked but the script, known to the object (or it is an object of the module) -/
def Only (H : Hp) : Prop := ∀ b, H b = none ∨ ∃ o xs, H b = some (.frz o (.lst xs))

/-- THE HEAD: the law's promise, at the heap behind the top. F, the promise of the law's def, may use that base is part of the heap (so K.In base, base.Ns mainGlobals mg stand in Mod) -/
theorem law_call {P : Program} {w : World} {K : PySem.W.Frag} {mg mb : Str → Option Value} {CX : CXT} {k : Nat} {fa a : Addr} {fd : FuncData} {x : Str} {sp : Sp} {s₁ : Shared} {vs : List Value} {ns : List Int}
    (KX : K.In s₁.heap) (hns : s₁.heap.Ns mainGlobals mg) (hb : s₁.heap.Ns builtinsNs mb) (hbb : ∀ x : Str, x ≠ "__name__" → mb x = bootBuiltins x) (hlim : s₁.heap.NoLimit) (hg : s₁.gens = #[])
    (ha : s₁.heap.get? a = some { cls := .type "list", data := .seq vs.toArray }) (hi : IntsAre vs ns) (hl : ns.length ≤ sizeLine) (hr : Room k callerA)
    (F : ∀ base : Heap, K.In base → base.Ns mainGlobals mg → FnOk P w K mg base CX k fa fd [x] sp) (hbind : ∀ (s : Shared) (u : Value), BindsTo s fd ⟨[u], []⟩ [(x, u)])
    (hsp : ∀ H : Hp, Only H → SqL K H a (ns.map V.int) → sp [.ref a] H (fun v _ => v = .bl true) fun _ _ _ => False)
    (hCX : ∀ H e s', CX [] H s₁ (fun _ _ _ => False) e s' → False) :
    codeAny (model P w) callerA (.call (.ref fa) ⟨[.ref a], []⟩) (fun r s' => r = .ok (.ret (.bool true)) ∧ OldK s₁.heap s'.heap ∧ s'.os = s₁.os ∧ AllBare s'.gens) s₁ := by
  have rv := vals_ints hi
  have lenV := hi.length
  have core : ∀ H : Hp, Only H → SqL K H a (ns.map V.int) → HOk P w H s₁.heap → (∀ b, H b ≠ none → b = a) → (H a ≠ none → K.lookup a = none) →
      codeAny (model P w) callerA (.call (.ref fa) ⟨[.ref a], []⟩) (fun r s' => r = .ok (.ret (.bool true)) ∧ OldK s₁.heap s'.heap ∧ s'.os = s₁.os ∧ AllBare s'.gens) s₁ := by
    intro H hO hS hok hA hK
    have base_of : ∀ {b : Addr} {o : Obj}, s₁.heap.get? b = some o → H b = none → (hidT s₁.heap H).get? b = some o := fun e n => hidT_get e n
    have noA : ∀ {b : Addr} {o : Obj} {es : Array DictEntry} {ep : Nat}, s₁.heap.get? b = some o → o.data = .dict es ep → H b = none := fun {b o es ep} e d => by
      cases q : H b with
      | none => rfl
      | some u =>
        have e' : b = a := hA b (by rw [q]; simp)
        subst e'
        rw [ha] at e; cases e
        have d' : Data.seq vs.toArray _ = Data.dict es ep := d
        cases d'
    have nsK : ∀ {b : Addr} {m : Str → Option Value}, s₁.heap.Ns b m → (hidT s₁.heap H).Ns b m := fun {b m} ⟨o, es, ep, e, d, r⟩ => ⟨o, es, ep, base_of e (noA e d), d, r⟩
    have hKb : K.In (hidT s₁.heap H) := fun b o e => base_of (KX b o e) (by
      cases q : H b with
      | none => rfl
      | some u =>
        have e' : b = a := hA b (by rw [q]; simp)
        subst e'
        rw [hK (by rw [q]; simp)] at e; cases e)
    have hM : Mod K mg (hidT s₁.heap H) := ⟨hKb, nsK hns, ⟨mb, nsK hb, hbb⟩, let ⟨mc, h1, h2⟩ := hlim; ⟨mc, nsK h1, h2⟩⟩
    have e0 : Env0 P w K mg (hidT s₁.heap H) callerA [] s₁ H := ⟨rfl, hM, fun b o e => of_hidT e, Nat.le_of_eq (hidT_size _ _), trivial, fun b hb => absurd (show b ∈ ([] : List Addr) from hb) (by simp), hok, .of_eq hg⟩
    refine codeAny_mono ((F _ hKb (nsK hns)).run callerA [] s₁ H ⟨[.ref a], []⟩ [.ref a] [.ref a] _ _ hr e0 (hbind s₁ (.ref a)) (.cons rfl .nil) (hsp H hO hS)) fun r s' h => ?_
    cases r with
    | error e => exact (hCX H e s' h).elim
    | ok fl =>
      cases fl with
      | next => exact False.elim h
      | brk => exact False.elim h
      | cont => exact False.elim h
      | ret u =>
        obtain ⟨v, H', os, bare, un, hok', r', q⟩ := h
        have q' : v = .bl true := q
        subst q'
        obtain rfl : u = Value.bool true := r'
        refine ⟨rfl, OldK.of_keep fun b o e => ?_, os, bare⟩
        cases q : H b with
        | none => exact un.keep b o e q (by intro z; exact absurd (show b ∈ ([] : List Addr) from z) (by simp)) (by simp)
        | some u =>
          rcases hO b with z | ⟨ob, xs, z⟩
          · rw [q] at z; cases z
          · have z2 := un.frzs b ob _ z
            obtain ⟨e1, _⟩ := hok b _ z
            obtain ⟨e2, _⟩ := hok' b _ z2
            rw [e] at e1; cases e1
            exact e2
  cases hk : K.lookup a with
  | some o =>
    have e := KX a o hk
    rw [ha] at e
    cases e
    refine core (fun _ => none) (fun _ => .inl rfl) (.inr ⟨_, vs.toArray, _, hk, rfl, rfl, rfl, by rw [List.size_toArray, lenV]; exact hl, by simpa using rv⟩) (fun b u z => by have z' : (none : Option HO) = some u := z; cases z') (fun b z => absurd rfl z) fun z => absurd rfl z
  | none =>
    refine core (fun b => if b = a then some (.frz { cls := .type "list", data := .seq vs.toArray } (.lst (ns.map V.int))) else none) (fun b => ?_) (.inl (.inr ⟨{ cls := .type "list", data := .seq vs.toArray }, if_pos rfl⟩)) (fun b u z => ?_) (fun b z => ?_) fun _ => hk
    · by_cases hb : b = a
      · exact .inr ⟨_, _, if_pos hb⟩
      · exact .inl (if_neg hb)
    · by_cases hb : b = a
      · have z' := (if_pos hb).symm.trans z
        cases z'
        subst hb
        exact ⟨ha, by rw [List.length_map]; exact hl, vs, _, rv, ha⟩
      · have z' := (if_neg hb).symm.trans z
        cases z'
    · by_cases hb : b = a
      · exact hb
      · exact absurd (if_neg hb) z
end L2

namespace L2
open PySem PySem.Spec PyProof.Rows

abbrev KOf {K : PySem.W.Frag} {h : Heap} (_ : K.In h) : PySem.W.Frag := K

/-- the goal that k_head leaves (case hc), from the law's promise. F gives the function object fd (K's own) once, then the promise over every base -/
theorem walk_of {l : PySem.W.OpenLaw} {n k : Nat} {q : Program} {loose : List Str} {XP : (Str → Option Value) → Heap → Prop} {YP : World → Heap → Prop} {d : DefRec} {K : Params → PySem.W.Frag} {CX : World → CXT} {sp : World → Sp} {x : Str}
    (hn : l.most = some n) (hn2 : n ≤ sizeLine) (hdf : d.params.defaults = []) (hr : Room k callerA)
    (hY : ∀ (w : World) (h : Heap), YP w h → (K w.params).In h)
    (F : ∀ (w : World) (mg : Str → Option Value) (fa : Addr) (h : Heap), (K w.params).In h → h.Ns mainGlobals mg → mg d.name = some (.ref fa) →
      ∃ fd : FuncData, (∀ (s : Shared) (u : Value), BindsTo s fd ⟨[u], []⟩ [(x, u)]) ∧
        ∀ base : Heap, (K w.params).In base → base.Ns mainGlobals mg → FnOk l.prog w (K w.params) mg base (CX w) k fa fd [x] (sp w))
    (hsp : ∀ (w : World) (H : Hp) (a : Addr) (ns : List Int), ns.length ≤ n → Only H → SqL (K w.params) H a (ns.map V.int) → sp w [.ref a] H (fun v _ => v = .bl true) fun _ _ _ => False)
    (hCX : ∀ (w : World) (H : Hp) (s : Shared) (e : Value) (s' : Shared), CX w [] H s (fun _ _ _ => False) e s' → False) :
    PySem.W.WalkO q loose XP YP l.row.toRowW d [] (fun f vs => PySem.call f vs) := by
  refine Att.attach_call hn hdf fun w s₀ s₁ mg mb fa o pm cd doc a vs ns G Y ho hd hcd hmg hobj hints hlen hg => ?_
  have KX := hY w _ Y
  obtain ⟨fd, hb, hF⟩ := F w mg fa _ KX G.T.g hmg
  exact law_call KX G.T.g G.T.b G.T.builtins G.T.nolimit hg hobj hints (Nat.le_trans hlen hn2) hr hF hb (fun H hO hS => hsp w H a ns hlen hO hS) fun H e s' => hCX w H s₁ e s'
/-- the same where the promise hangs on the written part alone: (sp := My.sp_law), no hole under a binder -/
theorem walk_ofK {l : PySem.W.OpenLaw} {n k : Nat} {q : Program} {loose : List Str} {XP : (Str → Option Value) → Heap → Prop} {YP : World → Heap → Prop} {d : DefRec} {K : Params → PySem.W.Frag} {CX : CXT} {sp : PySem.W.Frag → Sp} {x : Str}
    (hn : l.most = some n) (hn2 : n ≤ sizeLine) (hdf : d.params.defaults = []) (hr : Room k callerA)
    (hY : ∀ (w : World) (h : Heap), YP w h → (K w.params).In h)
    (F : ∀ (w : World) (mg : Str → Option Value) (fa : Addr) (h : Heap), (K w.params).In h → h.Ns mainGlobals mg → mg d.name = some (.ref fa) →
      ∃ fd : FuncData, (∀ (s : Shared) (u : Value), BindsTo s fd ⟨[u], []⟩ [(x, u)]) ∧
        ∀ base : Heap, (K w.params).In base → base.Ns mainGlobals mg → FnOk l.prog w (K w.params) mg base CX k fa fd [x] (sp (K w.params)))
    (hsp : ∀ (K : PySem.W.Frag) (H : Hp) (a : Addr) (ns : List Int), ns.length ≤ n → Only H → SqL K H a (ns.map V.int) → sp K [.ref a] H (fun v _ => v = .bl true) fun _ _ _ => False)
    (hCX : ∀ (H : Hp) (s : Shared) (e : Value) (s' : Shared), CX [] H s (fun _ _ _ => False) e s' → False) :
    PySem.W.WalkO q loose XP YP l.row.toRowW d [] (fun f vs => PySem.call f vs) :=
  walk_of (K := K) (CX := fun _ => CX) (sp := fun w => sp (K w.params)) hn hn2 hdf hr hY F (fun w H a ns h1 h2 h3 => hsp (K w.params) H a ns h1 h2 h3) fun _ H s e s' => hCX H s e s'
end L2

/- THE LAST THEOREM (shape; LID, My.* are yours):
   My.Adr: a structure of the addresses that your layer names (classes, functions); My.Txt K t: a structure (Prop) of the equations over K;
   My.txt_mk : {K} {implicit addresses ..} (e1 : nsIn K mainGlobals "law" = some (some (.ref f))) (e2 : K.lookup f = some ⟨oc, od, .func (fnOf "law" "law" params body scope dV kV doc pm an cdv ct), sl⟩) (e3 : codeIn K cdv "law" = true) .. : ∃ t, My.Txt K t

set_option maxRecDepth 100000 in
set_option maxHeartbeats 0 in
theorem PySem.Challenge.cw_LID_holds : PySem.Challenge.rw_LID.Holds := by
  w_on; o_law; k_head; (case hw => w_witness2)
  k_fill
  refine L2.walk_of (l := PySem.Challenge.rw_LID) (n := 63) (k := 40) (x := "script") (CX := fun w => ..) (sp := fun _ => My.sp_law) rfl (by decide) rfl ⟨rfl, by decide, by decide⟩ (fun w h Y => PySem.W.kIn_of Y) ?F ?S ?C
  case F =>
    intro w mg fa h KX G hmg
    have T : ∃ t, My.Txt (L2.KOf KX) t := by
      dsimp only [L2.KOf]                          -- K must stand as «<heap const> w.params» for k_is
      refine' My.txt_mk ?e1 ?e2 ?e3 ..
      (case e1 => PySem.W.k_is)                    -- in the order: a name -> its address -> its object -> its parts
      (case e2 => PySem.W.k_is)
      ..
    obtain ⟨t, T⟩ := T
    have e0 := hmg.symm.trans (PySem.W.mg_of KX G T.law)
    cases e0                                       -- fa is the law's own address
    exact ⟨_, fun s u => .of_eq rfl, fun base kb nb => My.law_fn T kb nb⟩     -- if «.of_eq rfl» comes too early: refine' ⟨_, ?b, fun base kb nb => My.law_fn T kb nb⟩; exact fun s u => .of_eq rfl
  case S => exact fun w H a ns hl hO hS => ..
  case C => exact ..
(the tactic k_is has no namespace: write k_is) -/

/-! SHORT WORDS over the layer: a def of the text, its body, what a loop and a test want. -/
namespace L2
open PySem PySem.Spec PyProof.Rows

/-! ### the text by places -/
def defArgs (s : Stmt) : Arguments := match s with
  | .FunctionDef _ a _ _ _ _ _ _ _ _ => a
  | _ => { posonlyargs := [], args := [], vararg := none, kwonlyargs := [], kw_defaults := [], kwarg := none, defaults := [] }
def defBody (s : Stmt) : List Stmt := match s with
  | .FunctionDef _ _ b _ _ _ _ _ _ _ => b
  | _ => []
def defScope (s : Stmt) : Scope := match s with
  | .FunctionDef _ _ _ _ _ _ sc _ _ _ => sc
  | _ => { kind := .function, names := [], isGenerator := false, isCoroutine := false }

/-! ### no exception leaves a def -/
abbrev CX0 : CXT := fun _ _ _ _ _ _ => False
abbrev E0 : XK := fun _ _ _ => False
theorem pass0 {X : Cx} : Passes CX0 X E0 := fun _ _ _ _ _ _ _ h => h.elim

/-! ### a def (or method) of the text as it stands behind the top -/
structure Fun (K : PySem.W.Frag) (x qual : Str) (st : Stmt) (f : Addr) (fd : FuncData) : Prop where
  ex : ∃ (oc : Value) (od : Option Addr) (kV doc pm : Value) (an : Option Addr) (cdv ct : Value) (osl : Array (Option Value)),
    fd = PySem.W.fnOf x qual (defArgs st) (defBody st) (defScope st) .none kV doc pm an cdv ct ∧ K.lookup f = some ⟨oc, od, .func fd, osl⟩ ∧ PySem.W.codeIn K cdv qual = true
  kp : PySem.W.keepIn K (.ref f) = true
section
variable {P : Program} {w : World} {K : PySem.W.Frag} {mg : Str → Option Value} {base : Heap}
/-- THE RULE for a def: its body as a term of rules, and the reading of that term -/
theorem Fun.ok {x qual : Str} {st : Stmt} {f : Addr} {fd : FuncData} {N ps : List Str} {k : Nat} {sp : Sp} (F : Fun K x qual st f fd) (S : FnScope N ps (defScope st)) (len : ∀ vs H Q E, sp vs H Q E → vs.length = ps.length)
    (hbody : ∀ (cdv : Value) (A : Around) (outer : List Env) (s : Shared) (H : Hp) (vs : List V) (Q : VK) (E : XK), Room k (A.deeper (envOfC qual (defScope st) s.heap.objs.size f cdv)) → sp vs H Q E →
      ∃ t, PSs (cxOf CX0 P w K mg base N qual (defScope st) f cdv A outer s H E).nox (defBody st) t ∧ t { nx := fun _ H' => Q .non H', rt := Q } (start N vs) H) : FnOk P w K mg base CX0 (k + 1) f fd ps sp := by
  obtain ⟨oc, od, kV, doc, pm, an, cdv, ct, osl, rfl, lk, hcd⟩ := F.ex
  refine fn_of lk hcd S len fun A outer s H vs Q E hr hsp => ?_
  obtain ⟨t, h, q⟩ := hbody cdv A outer s H vs Q E hr hsp
  exact ⟨t, h.nox, q⟩
/-- how its arguments bind (no defaults): h is «fun _ _ _ _ _ _ us hl => match us, hl with | [_, _], _ => rfl», one _ a parameter -/
theorem Fun.binds {x qual : Str} {st : Stmt} {f : Addr} {fd : FuncData} {ps : List Str} (F : Fun K x qual st f fd)
    (h : ∀ (kV doc pm : Value) (an : Option Addr) (cdv ct : Value) (us : List Value), us.length = ps.length → bindArgs (PySem.W.fnOf x qual (defArgs st) (defBody st) (defScope st) .none kV doc pm an cdv ct) ⟨us, []⟩ = pure (ps.zip us)) : Binds K fd ps [] := by
  obtain ⟨oc, od, kV, doc, pm, an, cdv, ct, osl, rfl, lk, hcd⟩ := F.ex
  exact .all (h kV doc pm an cdv ct)
theorem fun_mk {x qual : Str} {st : Stmt} {f : Addr} {oc : Value} {od an : Option Addr} {osl : Array (Option Value)} {kV doc pm cdv ct : Value} (l : K.lookup f = some ⟨oc, od, .func (PySem.W.fnOf x qual (defArgs st) (defBody st) (defScope st) .none kV doc pm an cdv ct), osl⟩)
    (c : PySem.W.codeIn K cdv qual = true) (k : PySem.W.keepIn K (.ref f) = true) : Fun K x qual st f (PySem.W.fnOf x qual (defArgs st) (defBody st) (defScope st) .none kV doc pm an cdv ct) := ⟨⟨oc, od, kV, doc, pm, an, cdv, ct, osl, rfl, l, c⟩, k⟩
end
theorem small1000 {n : Nat} (h : n ≤ 1000) : n < sizeLine := Nat.lt_of_le_of_lt h (by decide)

/-! ### expressions in short: the name that stands in the i-th slot -/
section
variable {X : Cx}
theorem pv (i : Nat) {x : Str} {pos : Pos} (hN : X.N[i]? = some x := by rfl) (hv : Vis X.env.scope x := by first | exact Or.inl rfl | exact Or.inr (Or.inl rfl) | exact Or.inr (Or.inr rfl)) (hd : (x == ("__debug__" : Str)) = false := by decide)
    (hcd : (x == ("__classdict__" : Str)) = false := by decide) : PE X (.Name x pos) (tVar i) := pe_var hN hv hd hcd
end

/-! ### tests -/
theorem iteF {A B : Prop} (h : B) : if false = true then A else B := by
  rw [if_neg Bool.false_ne_true]
  exact h
theorem iteT {A B : Prop} (h : A) : if true = true then A else B := by
  rw [if_pos rfl]
  exact h
theorem ite2 {c A B : Prop} [Decidable c] (h1 : c → A) (h2 : ¬ c → B) : if c then A else B := by
  by_cases h : c
  · rw [if_pos h]
    exact h1 h
  · rw [if_neg h]
    exact h2 h

/-! ### heaps -/
/-- all that was tracked is as it was -/
def Same (H H' : Hp) : Prop := ∀ b o, H b = some o → H' b = some o
theorem Same.refl (H : Hp) : Same H H := fun _ _ h => h
theorem Same.trans {H H1 H2 : Hp} (a : Same H H1) (b : Same H1 H2) : Same H H2 := fun c o h => b c o (a c o h)
theorem Same.free {H H' : Hp} (e : Same H H') {l : Addr} (h : H' l = Option.none) : H l = Option.none := by
  cases q : H l with
  | none => rfl
  | some o =>
    rw [e l o q] at h
    cases h
theorem Same.seq {K : PySem.W.Frag} {H H' : Hp} {a : Addr} {xs : List V} (e : Same H H') (h : SqL K H a xs) : SqL K H' a xs := by
  rcases h with (h | ⟨o, h⟩) | h
  · exact .inl (.inl (e _ _ h))
  · exact .inl (.inr ⟨o, e _ _ h⟩)
  · exact .inr h

end L2

namespace L2
open PySem PySem.Spec PyProof.Rows

/-! ### a comprehension: its closure -/
def clOf (cells : List (Str × Addr)) : List (Str × NameKind) → List (Str × Addr) → List (Str × Addr)
  | [], acc => acc
  | (n, k) :: r, acc => clOf cells r (if k == .free then (match cells.lookup n with | some c => (n, c) :: acc | none => acc) else acc)
theorem clo_go {env : Env} : ∀ (ns : List (Str × NameKind)) (acc : List (Str × Addr)), (∀ x ∈ ns, x.2 = .free → ∃ c, env.cells.lookup x.1 = some c) →
    (forIn ns acc fun (x : Str × NameKind) (cs : List (Str × Addr)) => (if x.2 == NameKind.free then do let a ← cellOf env x.1; pure (ForInStep.yield ((x.1, a) :: cs)) else pure (ForInStep.yield cs) : Sem (ForInStep (List (Str × Addr))))) = pure (clOf env.cells ns acc)
  | [], acc, _ => by simp [clOf]
  | (n, k) :: r, acc, h => by
    rw [List.forIn_cons]
    have ih := fun a => clo_go (env := env) r a fun x hx => h x (List.mem_cons_of_mem _ hx)
    unfold clOf
    by_cases hk : (k == NameKind.free) = true
    · obtain ⟨c, hc⟩ := h (n, k) List.mem_cons_self (by simpa using hk)
      have hc' : env.cells.lookup n = some c := hc
      have hce : cellOf env n = pure c := by simp only [cellOf, hc']
      simp only [hk, if_true, hce, pure_bind, hc']
      exact ih _
    · simp only [hk, if_false, pure_bind, ih]
      simp
theorem closure_is {scope : Scope} {env : Env} (h : ∀ x ∈ scope.names, x.2 = .free → ∃ c, env.cells.lookup x.1 = some c) : closureFor scope env = pure (clOf env.cells scope.names []) := by
  have q := clo_go (env := env) scope.names [] h
  unfold closureFor
  rw [← q]
  first
    | rfl
    | simp
theorem clOf_has {cells : List (Str × Addr)} : ∀ (ns : List (Str × NameKind)) (acc : List (Str × Addr)) {x : Str} {c : Addr}, (∀ y d, acc.lookup y = some d → cells.lookup y = some d) → (clOf cells ns acc).lookup x = some c → cells.lookup x = some c
  | [], acc, x, c, ha, h => ha x c h
  | (n, k) :: r, acc, x, c, ha, h => by
    unfold clOf at h
    refine clOf_has r _ (fun y d hy => ?_) h
    split at hy
    · split at hy
      · rename_i c' hc'
        rw [List.lookup_cons] at hy
        split at hy
        · rename_i e
          have e' : y = n := by simpa using e
          subst e'
          rw [hc']; exact hy
        · exact ha y d hy
      · exact ha y d hy
    · exact ha y d hy
theorem clOf_keep {cells : List (Str × Addr)} : ∀ (ns : List (Str × NameKind)) (acc : List (Str × Addr)) {x : Str}, (∃ c, acc.lookup x = some c) → ∃ c, (clOf cells ns acc).lookup x = some c
  | [], acc, x, h => h
  | (n, k) :: r, acc, x, h => by
    unfold clOf
    refine clOf_keep r _ ?_
    split
    · split
      · rw [List.lookup_cons]
        split
        · exact ⟨_, rfl⟩
        · exact h
      · exact h
    · exact h
theorem clOf_get {cells : List (Str × Addr)} : ∀ (ns : List (Str × NameKind)) (acc : List (Str × Addr)) {x : Str}, (x, NameKind.free) ∈ ns → (∃ c, cells.lookup x = some c) → ∃ c, (clOf cells ns acc).lookup x = some c
  | [], acc, x, h, _ => nomatch h
  | (n, k) :: r, acc, x, h, hc => by
    unfold clOf
    rcases List.mem_cons.mp h with e | h
    · cases e
      obtain ⟨c, hc⟩ := hc
      refine clOf_keep r _ ?_
      simp [hc]
    · exact clOf_get r _ h hc
end L2

namespace L2
open PySem PySem.Spec PyProof.Rows

/-- an untracked object of ours is tracked from now on -/
theorem Inv.track {X : Cx} {pins : List (Addr × Obj)} {σ : St} {H : Hp} {s : Shared} {a : Addr} {o : HO} (I : Inv X pins σ H s) (hn : H a = none) (h0 : X.s₀.heap.objs.size ≤ a) (hL : a ≠ X.env.locals)
    (hc : ∀ x c, X.env.cells.lookup x = some c → c ≠ a) (hp : ∀ p ∈ X.pn ++ pins, p.1 ≠ a) (new : ObjOk X.prog X.w (upd H a o) s.heap a o) : Inv X pins σ (upd H a o) s := by
  have ne : ∀ b u, H b = some u → b ≠ a := fun b u e => ne_of_none e hn
  have q := I.step (g' := s.gens) (d' := s.drawn) (t' := s.toks) (h' := s.heap) (H' := upd H a o) (ch := [a]) (fun b hb => ?_) (fun b ob _ _ _ e _ => e) (fun b ob _ _ _ e _ => ⟨ob.slots, e⟩) (fun b ob hb _ n => ?_)
    (fun b ob _ e => ⟨ob, e⟩) (fun b xs e => by rw [upd_ne (ne b _ e)]; exact e) (fun b ob u e => by rw [upd_ne (ne b _ e)]; exact e) (fun b ps e => ⟨#[], by rw [upd_ne (ne b _ e), e]; simp⟩) (fun m hm => hm) (fun b u e => ?_) I.bare
  · exact q
  · have e : b = a := by simpa using hb
    subst e
    exact ⟨.inr h0, hL, hc, hp⟩
  · rw [upd_ne (fun z => hb (by simp [z]))]; exact n
  · by_cases hb : b = a
    · subst hb; rw [upd_same] at e; cases e; exact new
    · rw [upd_ne hb] at e
      exact (I.hok b u e).stay (fun c v _ q => q) (fun c q => by rw [upd_ne (ne_of_none q hn)]; exact q) fun c xs q => by rw [upd_ne (ne_of_none q hn)]; exact q

/-- the context of a comprehension's block -/
def cxComp (X : Cx) (N' : List Str) (scope : Scope) (C : Addr) (s : Shared) (H : Hp) (fp : List Addr) (xe : Value → Shared → Prop) : Cx :=
  { X with N := N', s₀ := s, H₀ := H, env := compEnvC scope (clOf X.env.cells scope.names []) C X.env, outer := X.stack, ex := fp, fn := fun _ => false, xe := xe }

/-- what is asked of the block's names: ix says where a captured name stands outside -/
structure BlkOk (X : Cx) (N' : List Str) (ix : List (Option Nat)) (scope : Scope) : Prop where
  kind : scope.kind = .function
  nocell : ∀ y ∈ scope.names, y.2 ≠ .cell
  locs : ∀ y ∈ scope.names, y.2 = .local → scope.names.lookup y.1 = some .local
  free : ∀ y ∈ scope.names, y.2 = .free → X.env.kindOf y.1 = some .cell ∨ X.env.kindOf y.1 = some .free
  len : ix.length = N'.length
  cap : ∀ (i j : Nat), ix[i]? = some (some j) → ∃ x, N'[i]? = some x ∧ X.N[j]? = some x ∧ scope.names.lookup x = some .free
def capt (ix : List (Option Nat)) (σ : St) : St := ix.map fun o => o.bind fun j => (σ[j]?).join

theorem relabel_free {env : Env} {x : Str} : ∀ {names : List (Str × NameKind)}, names.lookup x = some .free → (names.map fun (n, k) => if (k == NameKind.free && env.scope.kind == .function && env.kindOf n == some .cell) then (n, NameKind.cell) else (n, k)).lookup x = some .cell ∨ (names.map fun (n, k) => if (k == NameKind.free && env.scope.kind == .function && env.kindOf n == some .cell) then (n, NameKind.cell) else (n, k)).lookup x = some .free
  | [], h => by simp at h
  | (n, k) :: r, h => by
    have ih := @relabel_free env x r
    simp only [List.map_cons]
    cases hx : x == n with
    | true =>
      simp only [List.lookup_cons, hx] at h
      cases h
      by_cases hc : (NameKind.free == NameKind.free && env.scope.kind == .function && env.kindOf n == some .cell) = true
      · rw [if_pos hc]; left; simp [List.lookup_cons, hx]
      · rw [if_neg hc]; right; simp [List.lookup_cons, hx]
    | false =>
      simp only [List.lookup_cons, hx] at h
      by_cases hc : (k == NameKind.free && env.scope.kind == .function && env.kindOf n == some .cell) = true
      · rw [if_pos hc]; simp only [List.lookup_cons, hx]; exact ih h
      · rw [if_neg hc]; simp only [List.lookup_cons, hx]; exact ih h
theorem relabel_back {env : Env} {x : Str} : ∀ {names : List (Str × NameKind)}, (∀ y ∈ names, y.2 ≠ .cell) → ((names.map fun (n, k) => if (k == NameKind.free && env.scope.kind == .function && env.kindOf n == some .cell) then (n, NameKind.cell) else (n, k)).lookup x = some .cell ∨ (names.map fun (n, k) => if (k == NameKind.free && env.scope.kind == .function && env.kindOf n == some .cell) then (n, NameKind.cell) else (n, k)).lookup x = some .free) → (x, NameKind.free) ∈ names
  | [], _, h => by simp at h
  | (n, k) :: r, hn, h => by
    have ih := @relabel_back env x r fun y hy => hn y (List.mem_cons_of_mem _ hy)
    simp only [List.map_cons] at h
    cases hx : x == n with
    | true =>
      have e : x = n := by simpa using hx
      subst e
      have hk := hn (x, k) List.mem_cons_self
      by_cases hc : (k == NameKind.free && env.scope.kind == .function && env.kindOf x == some .cell) = true
      · have hf : k = .free := by
          simp only [Bool.and_eq_true, beq_iff_eq] at hc
          exact hc.1.1
        subst hf
        exact List.mem_cons_self
      · rw [if_neg hc] at h
        simp only [List.lookup_cons, hx] at h
        rcases h with h | h
        · exact absurd (Option.some.inj h) hk
        · have hf : k = .free := Option.some.inj h
          subst hf
          exact List.mem_cons_self
    | false =>
      refine List.mem_cons_of_mem _ (ih ?_)
      by_cases hc : (k == NameKind.free && env.scope.kind == .function && env.kindOf n == some .cell) = true
      · rw [if_pos hc] at h; simpa only [List.lookup_cons, hx] using h
      · rw [if_neg hc] at h; simpa only [List.lookup_cons, hx] using h

theorem capt_cell {X : Cx} {pins : List (Addr × Obj)} {σ : St} {H : Hp} {s : Shared} {N' : List Str} {ix : List (Option Nat)} {scope : Scope} {i : Nat} {x : Str} {v : V} (B : BlkOk X N' ix scope) (I : Inv X pins σ H s)
    (h1 : N'[i]? = some x) (h2 : (capt ix σ)[i]? = some (some v)) : ∃ u c, RelV v u ∧ (clOf X.env.cells scope.names []).lookup x = some c ∧ X.env.cells.lookup x = some c ∧ s.heap.IsCell c (some u) ∧
      ((relabel scope X.env).names.lookup x = some .cell ∨ (relabel scope X.env).names.lookup x = some .free) := by
  have clB : ∀ x c, (clOf X.env.cells scope.names []).lookup x = some c → X.env.cells.lookup x = some c := fun x c h => clOf_has scope.names [] (fun _ _ z => by simp at z) h
  obtain ⟨j, hj, hv⟩ : ∃ j, ix[i]? = some (some j) ∧ σ[j]? = some (some v) := by
    unfold capt at h2
    rw [List.getElem?_map] at h2
    cases e : ix[i]? with
    | none => rw [e] at h2; cases h2
    | some o =>
      rw [e] at h2
      cases o with
      | none => cases h2
      | some j =>
        refine ⟨j, rfl, ?_⟩
        have h2' : (σ[j]?).join = some v := Option.some.inj h2
        cases e2 : σ[j]? with
        | none => rw [e2] at h2'; cases h2'
        | some o2 => rw [e2] at h2'; have : o2 = some v := h2'; rw [this]
  obtain ⟨x', hx1, hx2, hx3⟩ := B.cap i j hj
  have exx : x' = x := by
    have h1' : N'[i]? = some x := h1
    rw [hx1] at h1'; exact Option.some.inj h1'
  subst exx
  have hmem := PySem.mem_of_lookup hx3
  have hout := B.free _ hmem rfl
  obtain ⟨m0, _, hl⟩ := I.loc
  obtain ⟨u, r, l⟩ := hl j x' v hx2 hv (by
    rcases hout with e | e
    · exact .inr (.inl e)
    · exact .inr (.inr e))
  rcases l with ⟨k, _⟩ | ⟨k, c, e, z⟩
  · rcases hout with e | e
    · rw [e] at k; cases k
    · rw [e] at k; cases k
  · obtain ⟨c', hc'⟩ := clOf_get scope.names [] hmem (I.ok.has x' hout)
    have := clB x' c' hc'
    rw [e] at this; cases this
    exact ⟨u, c, r, hc', e, z, relabel_free hx3⟩

theorem inv_block {X : Cx} {pins : List (Addr × Obj)} {σ : St} {H : Hp} {s s4 : Shared} {N' : List Str} {ix : List (Option Nat)} {scope : Scope} {C : Addr} {fp : List Addr} {xe : Value → Shared → Prop} {m : Str → Option Value}
    (B : BlkOk X N' ix scope) (I : Inv X pins σ H s) (hf : ∀ b ∈ fp, FpOk X pins H b) (hC : s.heap.objs.size ≤ C) (hfs : ∀ b ∈ fp, b < s.heap.objs.size)
    (ho : s4.os = s.os) (hg : s4.gens = s.gens) (hk : ∀ b o, s.heap.get? b = some o → s4.heap.get? b = some o) (hns : s4.heap.Ns C m) :
    Inv (cxComp X N' scope C s H fp xe) pins (capt ix σ) H s4 := by
  have clB : ∀ x c, (clOf X.env.cells scope.names []).lookup x = some c → X.env.cells.lookup x = some c := fun x c h => clOf_has scope.names [] (fun _ _ z => by simp at z) h
  have hfree : H C = none := I.hok.fresh hC
  have neC : ∀ b o, s.heap.get? b = some o → b ≠ C := fun b o e => Nat.ne_of_lt (Nat.lt_of_lt_of_le (Heap.lt_size e) hC)
  refine ⟨⟨I.ok.mod, B.kind, I.ok.glob, I.ok.blt, hC, fun x y c h1 h2 => I.ok.inj x y c (clB x c h1) (clB y c h2), fun x hx => ?_, fun x c h => absurd (show false = true from h) Bool.false_ne_true, I.ok.hd, I.ok.frames, .inl rfl, fun b hb => ⟨?_, fun x c e => ?_⟩, I.bs, ?_, fun b o e hb => ?_, fun b hb z => ?_, I.stack, I.stkFree⟩,
    ho, ?_, Un.kept hk, ⟨m, hns, fun i x v h1 h2 h3 => ?_⟩, fun x c e => ?_, hfree, fun x c e => I.freeC x c (clB x c e), fun p hp => ?_, I.hok.kept hk, ?_⟩
  · have hx' := relabel_back (env := X.env) (x := x) B.nocell hx
    exact clOf_get scope.names [] hx' (I.ok.has x (B.free _ hx' rfl))
  · exact Nat.ne_of_lt (Nat.lt_of_lt_of_le (hfs b hb) hC)
  · exact (hf b hb).2.2.2.2.1 x c (clB x c e)
  · exact Nat.le_trans I.ok.bsz I.sz
  · obtain ⟨_, _, _, q, _⟩ := hf b hb
    rcases q with q | q
    · exact I.ok.noex b o e q
    · exact absurd (Nat.lt_of_lt_of_le (Heap.lt_size (I.ok.bs b o e).1) q) (Nat.lt_irrefl _)
  · obtain ⟨_, q1, q2, _⟩ := hf b hb
    rcases List.mem_cons.mp (I.stkSub b z) with e | e
    · exact q1 e
    · exact q2 e
  · rw [hg]; exact I.bare
  · obtain ⟨u, c, r, hc1, _, ⟨oc, z1, z2⟩, hk'⟩ := capt_cell B I h1 h2
    exact ⟨u, r, .inr ⟨hk', c, hc1, oc, hk _ _ z1, z2⟩⟩
  · obtain ⟨v, oc, h1, h2⟩ := I.cell x c (clB x c e)
    exact ⟨v, oc, hk _ _ h1, h2⟩
  · obtain ⟨e, n, ne, nf, d⟩ := I.pin p hp
    refine ⟨hk _ _ e, n, neC _ _ e, fun z => ?_, d⟩
    rcases List.mem_cons.mp (I.stkSub p.1 z) with e' | e'
    · exact ne e'
    · exact nf e'
  · show (ix.map _).length = N'.length
    rw [List.length_map]; exact B.len
end L2

namespace L2
open PySem PySem.Spec PyProof.Rows

theorem compLoop_go {prog : Program} {w : World} {A : Around} {R : Result → Shared → Prop} {s : Shared} {elt target iter : Expr} {ifs : List Expr} {scope : Scope} {pos : Pos} {it acc : Value} {env : Env} (Iv : Nat → Shared → Prop)
    (turn : ∀ n s, Iv n s → wpAny (model prog w) A (pyNext it) (fun r s₁ => match r with
      | none => R (.ok .next) s₁
      | some v => wpAny (model prog w) A (letOwnedTupleGo target it v) (fun _ s₁' => wpAny (model prog w) A (assign target env v) (fun _ s₂ =>
          wpAny (model prog w) A (forIn ifs true fun c r => if r = true then do let ok ← isTrue c env (eval c env); pure (ForInStep.yield ok) else pure (ForInStep.yield r)) (fun ok s₃ =>
            if ok = true then wpAny (model prog w) A (eval elt env) (fun x s₄ =>
              wpAny (model prog w) A (call (.builtin "list.append") [acc, x]) (fun _ s₅ => ∃ m, m < n ∧ Iv m s₅) (notedBy (model prog w) A env fun e s' => R (.error e) s') s₄) (notedBy (model prog w) A env fun e s' => R (.error e) s') s₃
            else ∃ m, m < n ∧ Iv m s₃) (notedBy (model prog w) A env fun e s' => R (.error e) s') s₂) (notedBy (model prog w) A env fun e s' => R (.error e) s') s₁') (notedBy (model prog w) A env fun e s' => R (.error e) s') s₁) (notedBy (model prog w) A env fun e s' => R (.error e) s') s)
    (n : Nat) (h : Iv n s) :
    codeAny (model prog w) A (.compLoop (.ListComp elt [⟨target, iter, ifs, 0⟩] scope pos) 0 it acc env) R s := by
  refine codeAny_loop rfl Iv (fun n s hI => ?_) n h
  show wpAny _ A ((compTurn (.ListComp elt [⟨target, iter, ifs, 0⟩] scope pos) 0 it acc env).onRaise (fun x => do noteFrame x env; theTreesLotGoes x)) _ _ s
  refine wpAny_noted ?_
  rw [compTurn_list]
  refine wpAny_bind (wpAny_standAt (wpAny_bind (wpAny_mono (turn n s hI) (fun r s₁ h₁ => ?_) fun _ _ h' => h')))
  cases r with
  | none => exact wpAny_pure h₁
  | some v =>
    refine wpAny_bind (wpAny_mono h₁ (fun _ s₁' h₁' => ?_) fun _ _ h' => h')
    refine wpAny_bind (wpAny_mono h₁' (fun _ s₂ h₂ => wpAny_bind (wpAny_mono h₂ (fun ok s₃ h₃ => ?_) fun _ _ h' => h')) fun _ _ h' => h')
    cases ok with
    | false => exact wpAny_pure ⟨rfl, h₃⟩
    | true =>
      exact wpAny_bind (wpAny_bind (wpAny_mono h₃ (fun x s₄ h₄ => wpAny_bind (wpAny_mono h₄ (fun _ s₅ h₅ => wpAny_pure (wpAny_pure ⟨rfl, h₅⟩)) fun _ _ h' => h')) fun _ _ h' => h'))

/-- the tests of a comprehension's clause -/
def PTs (X : Cx) (ifs : List Expr) (t : TT) : Prop :=
  ∀ (pins : List (Addr × Obj)) (s : Shared) (σ : St) (H : Hp) (Q : Bool → Hp → Prop), Inv X pins σ H s → t σ H Q →
    wpAny (model X.prog X.w) X.A (forIn ifs true fun c r => if r = true then do let ok ← isTrue c X.env (eval c X.env); pure (ForInStep.yield ok) else pure (ForInStep.yield r)) (TP X pins σ Q) X.xe s
def tTrue : TT := fun _ H Q => Q true H
theorem pts_nil {X : Cx} : PTs X [] tTrue := fun _ _ _ H _ I h => wpAny_tests_nil ⟨H, I, h⟩
theorem pts_one {X : Cx} {c : Expr} {t : TT} (h : PT X c t) : PTs X [c] t := fun pins s σ H Q I hw => wpAny_tests_one (h pins s σ H Q I hw)

/-- the turns of a comprehension's block -/
def LcGoal (ix : List (Option Nat)) (g : TG) (tt : TT) (te : TE) (σ : St) (H1 : Hp) (Q : VK) (J : It) : Prop := ∃ W : Nat → Nat → List V → Hp → Prop, (∃ m, W 0 m [] H1) ∧ ∀ i m ys H, W i m ys H →
  (J.stop i H ∧ ys.length ≤ sizeLine ∧ ∀ p, H p = none → Q (.ref p) (upd H p (.lst ys))) ∨
  (J.go i H ∧ ys.length ≤ sizeLine ∧ ∃ N : List V → Hp → Prop, (∀ ys' H', N ys' H' → ∃ m', m' < m ∧ W (i + 1) m' ys' H') ∧ ∀ x H', J.yld i H x H' → g x (capt ix σ) H' fun σ2 H2 => tt σ2 H2 fun b H3 => if b = true then te σ2 H3 fun v H4 => N (ys ++ [v]) H4 else N ys H3)
def tLC (ix : List (Option Nat)) (wi : TI) (g : TG) (tt : TT) (te : TE) : TE := fun σ H Q => wi σ H fun J H1 => LcGoal ix g tt te σ H1 Q J

section
variable {X : Cx} {elt tg iter : Expr} {ifs : List Expr} {scope : Scope} {pos : Pos} {N' : List Str} {ix : List (Option Nat)} {wi : TI} {g : TG} {tt : TT} {te : TE}

/-- the loop's end, by what is wanted -/
theorem lc_run (B : BlkOk X N' ix scope) (hc : X.calm = true)
    (hg : ∀ C s H fp xe, PG (cxComp X N' scope C s H fp xe) tg g) (ht : ∀ C s H fp xe, PTs (cxComp X N' scope C s H fp xe) ifs tt) (he : ∀ C s H fp xe, PE (cxComp X N' scope C s H fp xe) elt te)
    {pins : List (Addr × Obj)} {s2 : Shared} {σ : St} {H2 : Hp} {Q : VK} {it : Addr} {fp : List Addr} {tn : Nat → Heap → Prop} {J : It} {RR : Value → Addr → Result → Shared → Prop} {E : Value → Shared → Prop}
    (I2 : Inv X pins σ H2 s2) (T : Turn X.prog X.w X.K tg J fp it tn) (st2 : tn 0 s2.heap) (f2 : ∀ b ∈ fp, FpOk X pins H2 b)
    (q : ∃ W : Nat → Nat → List V → Hp → Prop, (∃ m, W 0 m [] H2) ∧ ∀ i m ys H, W i m ys H →
      (J.stop i H ∧ ys.length ≤ sizeLine ∧ ∀ p, H p = none → Q (.ref p) (upd H p (.lst ys))) ∨
      (J.go i H ∧ ys.length ≤ sizeLine ∧ ∃ N : List V → Hp → Prop, (∀ ys' H', N ys' H' → ∃ m', m' < m ∧ W (i + 1) m' ys' H') ∧ ∀ x H', J.yld i H x H' → g x (capt ix σ) H' fun σ2 H2 => tt σ2 H2 fun b H3 => if b = true then te σ2 H3 fun v H4 => N (ys ++ [v]) H4 else N ys H3))
    (hRR : ∀ D C s' H' ys, Inv X pins σ (upd H' D (.lst ys)) s' → H' D = none → Q (.ref D) (upd H' D (.lst ys)) → (∃ m, s'.heap.Ns C m) → upd H' D (.lst ys) C = none → C ≠ X.env.locals → X.s₀.heap.objs.size ≤ C → (∀ x c, X.env.cells.lookup x = some c → c ≠ C) → (∀ p ∈ X.pn ++ pins, p.1 ≠ C) → RR (.ref D) C (.ok .next) s') :
    wpAny (model X.prog X.w) X.A (newList []) (fun acc s₃ => wpAny (model X.prog X.w) X.A (newFunctionEnv scope X.env.globals (clOf X.env.cells scope.names []) [] X.env.qual none .none (some X.env)) (fun cenv s₄ =>
      codeAny (model X.prog X.w) X.A (.compStart (.ListComp elt [⟨tg, iter, ifs, 0⟩] scope pos) 0 (.ref it) acc { cenv with scope := relabel scope X.env }) (RR acc cenv.locals) s₄) E s₃) E s2 := by
  have hfs : ∀ b ∈ fp, b < s2.heap.objs.size := fun b hb => by
    obtain ⟨o, e, _⟩ := T.obj _ _ st2 b hb
    exact Heap.lt_size e
  refine wpAny_newObj_type (wpAny_newFunctionEnv B.nocell (by intro y hy; simp at hy) (fun h₁ hns₁ hsb₁ => ?_) B.kind)
  dsimp only at hns₁ hsb₁ ⊢
  generalize hH3 : s2.heap.push { cls := .type "list", dict := none, data := .seq ([] : List Value).toArray } = H3 at hns₁ hsb₁ ⊢
  have hC : H3.objs.size = s2.heap.objs.size + 1 := by rw [← hH3, Heap.size_push]
  have hDC : s2.heap.objs.size ≠ H3.objs.size := by rw [hC]; exact Nat.ne_of_lt (Nat.lt_succ_self _)
  have below : ∀ b, b < s2.heap.objs.size → b ≠ H3.objs.size ∧ b ≠ s2.heap.objs.size := fun b hb => ⟨by rw [hC]; exact Nat.ne_of_lt (Nat.lt_succ_of_lt hb), Nat.ne_of_lt hb⟩
  have old : ∀ b o, s2.heap.get? b = some o → h₁.get? b = some o := fun b o e => hsb₁.extBut b o (below b (Heap.lt_size e)).1 (Heap.get?_push_of_some _ (hH3 ▸ Heap.get?_push_of_some _ e))
  have hacc : h₁.get? s2.heap.objs.size = some { cls := .type "list", data := .seq ([] : List Value).toArray 0 } := hsb₁.extBut _ _ hDC (Heap.get?_push_of_some _ (hH3 ▸ Heap.get?_push_size _ rfl))
  have hCle : s2.heap.objs.size ≤ H3.objs.size := by rw [hC]; exact Nat.le_succ _
  generalize hD : s2.heap.objs.size = D at *
  generalize hCC : H3.objs.size = C at *
  obtain ⟨W, ⟨m0, w0⟩, turn⟩ := q
  let xe : Value → Shared → Prop := notedBy (model X.prog X.w) X.A (compEnvC scope (clOf X.env.cells scope.names []) C X.env) fun e s' => RR (.ref D) C (.error e) s'
  let X' : Cx := cxComp X N' scope C s2 H2 fp xe
  have DL : D ∉ frs X.stack := fun z => by
    rcases List.mem_cons.mp (I2.stkSub D z) with e | e
    · exact absurd I2.lt (by rw [← e, hD]; exact Nat.lt_irrefl _)
    · exact I2.nofs (by rw [hD]; exact Nat.le_refl _) e
  have cellLt : ∀ x c, X.env.cells.lookup x = some c → c < D := fun x c e => by
    obtain ⟨v, oc, h, _⟩ := I2.cell x c e
    rw [← hD]; exact Heap.lt_size h
  have clB : ∀ x c, (clOf X.env.cells scope.names []).lookup x = some c → X.env.cells.lookup x = some c := fun x c h => clOf_has scope.names [] (fun _ _ z => by simp at z) h
  have pinLt : ∀ p ∈ X.pn ++ pins, p.1 < D := fun p hp => by rw [← hD]; exact Heap.lt_size (I2.pin p hp).1
  have fpX : ∀ {pl : List (Addr × Obj)} {H' : Hp}, (∀ b ∈ fp, H' b = none) → (∀ p ∈ pl, p ∈ pins ∨ p.1 = D) → ∀ b ∈ fp, FpOk X' pl H' b := fun {pl H'} hn hpl b hb => by
    obtain ⟨_, q1, q2, q3, q4, q5⟩ := f2 b hb
    refine ⟨hn b hb, (below b (hfs b hb)).1, fun z => ?_, .inl hb, fun x c e => q4 x c (clB x c e), fun p hp => ?_⟩
    · rcases List.mem_cons.mp (I2.stkSub b z) with e | e
      · exact q1 e
      · exact q2 e
    · rcases List.mem_append.mp hp with hp | hp
      · exact q5 p (List.mem_append_left _ hp)
      · rcases hpl p hp with z | z
        · exact q5 p (List.mem_append_right _ z)
        · rw [z]; exact Ne.symm (below b (hfs b hb)).2
  have loop : ∀ s₃ : Shared, s₃ = { s2 with heap := h₁, toks := s2.toks + ([] : List (Str × Value)).length } →
      codeAny (model X.prog X.w) X.A (.compLoop (.ListComp elt [⟨tg, iter, ifs, 0⟩] scope pos) 0 (.ref it) (.ref D) (compEnvC scope (clOf X.env.cells scope.names []) C X.env)) (RR (.ref D) C) s₃ := by
    rintro s₃ rfl
    refine compLoop_go (fun n s' => ∃ i H' ys its k, Inv X' pins (capt ix σ) H' s' ∧ tn i s'.heap ∧ (∀ b ∈ fp, H' b = none) ∧ H' D = none ∧ s'.heap.get? D = some { cls := .type "list", data := .seq (List.toArray its) k } ∧ Vals ys its ∧ W i n ys H') ?_ m0
      ⟨0, H2, [], [], 0, inv_block B I2 f2 (by rw [hD]; exact hCle) (fun b hb => by rw [hD]; exact hfs b hb) rfl rfl old hns₁, T.keep _ _ _ st2 fun b _ o e => old b o e, fun b hb => (f2 b hb).1, I2.hok.fresh (by rw [hD]; exact Nat.le_refl _), hacc, .nil, w0⟩
    rintro n s' ⟨i, H', ys, its, k, I', st', fr', hDn, hDo, rv, w'⟩
    have hDX : ∀ v, ({ cls := .type "list", data := .seq (List.toArray its) k } : Obj).data ≠ .cell v := fun v z => by
      have z' : Data.seq (List.toArray its) k = Data.cell v := z
      cases z'
    have pinD : ∀ {σ' : St} {H'' : Hp} {s'' : Shared} {its' : List Value} {k' : Nat}, Inv X' pins σ' H'' s'' → H'' D = none → s''.heap.get? D = some { cls := .type "list", data := .seq (List.toArray its') k' } → Inv X' (pins ++ [(D, { cls := .type "list", data := .seq (List.toArray its') k' })]) σ' H'' s'' := fun {σ' H'' s'' its' k'} J hn ho =>
      J.pins_of fun p hp => (List.mem_append.mp hp).elim (fun z => J.pin p (List.mem_append_right _ z)) fun z => by
        have e : p = (D, { cls := .type "list", data := .seq (List.toArray its') k' }) := by simpa using z
        subst e
        exact ⟨ho, hn, hDC, DL, fun v z => by
          have z' : Data.seq (List.toArray its') k' = Data.cell v := z
          cases z'⟩
    have plD : ∀ {its' : List Value} {k' : Nat}, ∀ p ∈ pins ++ [(D, ({ cls := .type "list", data := .seq (List.toArray its') k' } : Obj))], p ∈ pins ∨ p.1 = D := fun {its' k'} p hp => (List.mem_append.mp hp).elim .inl fun z => by
      have e : p = (D, { cls := .type "list", data := .seq (List.toArray its') k' }) := by simpa using z
      subst e
      exact .inr rfl
    have unD : ∀ {pl : List (Addr × Obj)} {σ' : St} {H'' : Hp} {s'' : Shared}, Inv X' (pins ++ pl) σ' H'' s'' → Inv X' pins σ' H'' s'' := fun J => J.pins_of fun p hp => J.pin p (List.mem_append_right _ (List.mem_append_left _ hp))
    have I'p := pinD I' hDn hDo
    rcases turn i n ys H' w' with ⟨stop, hsz, fin⟩ | ⟨go, hsz, N, hN, step⟩
    · refine wpAny_mono (T.done X' rfl rfl rfl hc i _ s' (capt ix σ) H' X'.xe I'p (fpX fr' plD) st' stop) (fun r s5 ⟨hr, I5⟩ => ?_) fun _ _ z => z
      subst hr
      have hDo5 : s5.heap.get? D = some { cls := .type "list", data := .seq (List.toArray its) k } := (I5.pin (D, _) (List.mem_append_right _ (List.mem_append_right _ (List.mem_singleton.mpr rfl)))).1
      have sz0 : X.s₀.heap.objs.size ≤ D := by rw [← hD]; exact I2.sz
      have J : Inv X pins σ H' s5 := I2.call' (ch := fp) I5.os I5.base I5.hok I5.bare fun b hb => by
        obtain ⟨_, q1, _, q3, q4, q5⟩ := f2 b hb
        exact ⟨q3, q1, q4, q5⟩
      have nL : X.env.locals < D := by rw [← hD]; exact I2.lt
      have J2 : Inv X pins σ (upd H' D (.lst ys)) s5 := Inv.track J hDn sz0 (Nat.ne_of_gt nL) (fun x c e => Nat.ne_of_lt (cellLt x c e)) (fun p hp => Nat.ne_of_lt (pinLt p hp)) ⟨hsz, its, k, rv, hDo5⟩
      obtain ⟨mC, hnC, _⟩ := I5.loc
      have DltC : D < C := Nat.lt_of_le_of_ne hCle hDC
      refine hRR D C s5 H' ys J2 hDn (fin D hDn) ⟨mC, hnC⟩ ?_ (Nat.ne_of_gt (Nat.lt_trans nL DltC)) (Nat.le_trans sz0 hCle) (fun x c e => Nat.ne_of_lt (Nat.lt_trans (cellLt x c e) DltC)) fun p hp => Nat.ne_of_lt (Nat.lt_trans (pinLt p hp) DltC)
      rw [upd_ne (Ne.symm hDC)]
      exact I5.free
    · refine wpAny_mono (T.item X' rfl rfl rfl hc i _ s' (capt ix σ) H' X'.xe I'p (fpX fr' plD) st' go) (fun r s5 ⟨u, hr, h5⟩ => ?_) fun _ _ z => z
      subst hr
      refine wpAny_mono h5 (fun _ s6 ⟨x, H6, I6, r6, y6, st6, fr6⟩ => ?_) fun _ _ z => z
      have I6' := I6.pinned (fpX fr6 plD) (T.obj _ _ st6)
      refine wpAny_mono (hg C s2 H2 fp xe _ s6 (capt ix σ) H6 x u _ I6' r6 (step x H6 y6)) (fun _ s7 ⟨σ7, H7, I7, q7⟩ => ?_) fun _ _ z => z
      have after : ∀ {σ8 : St} {H8 : Hp} {s8 : Shared}, Inv X' ((pins ++ [(D, { cls := .type "list", data := .seq (List.toArray its) k })]) ++ pinsAt fp s6.heap) σ8 H8 s8 →
          Inv X' pins (capt ix σ) H8 s8 ∧ tn (i + 1) s8.heap ∧ (∀ b ∈ fp, H8 b = none) ∧ H8 D = none ∧ s8.heap.get? D = some { cls := .type "list", data := .seq (List.toArray its) k } := fun {σ8 H8 s8} I8 => by
        have pD := I8.pin (D, { cls := .type "list", data := .seq (List.toArray its) k }) (List.mem_append_right _ (List.mem_append_left _ (List.mem_append_right _ (List.mem_singleton.mpr rfl))))
        have fpP : ∀ b ∈ fp, ∀ o, s6.heap.get? b = some o → s8.heap.get? b = some o ∧ H8 b = none := fun b hb o e => by
          have z := I8.pin (b, o) (List.mem_append_right _ (List.mem_append_right _ (mem_pinsAt hb e)))
          exact ⟨z.1, z.2.1⟩
        refine ⟨⟨I8.ok, I8.os, I8.bare, I8.base, ?_, I8.cell, I8.free, I8.freeC, fun p hp => ?_, I8.hok, ?_⟩, T.keep _ _ _ st6 fun b hb o e => (fpP b hb o e).1, fun b hb => ?_, pD.2.1, pD.1⟩
        · obtain ⟨m8, hn8, _⟩ := I8.loc
          refine ⟨m8, hn8, fun i x v h1 h2 h3 => ?_⟩
          obtain ⟨u, c, r, hc1, hc2, ⟨oc, z1, z2⟩, hk'⟩ := capt_cell B I2 h1 h2
          obtain ⟨sl, e8⟩ := I8.base.any z1 (I2.freeC x c hc2) fun z => (f2 c z).2.2.2.2.1 x c hc2 rfl
          exact ⟨u, r, .inr ⟨hk', c, hc1, _, e8, z2⟩⟩
        · rcases List.mem_append.mp hp with hp | hp
          · exact I8.pin p (List.mem_append_left _ hp)
          · exact I8.pin p (List.mem_append_right _ (List.mem_append_left _ (List.mem_append_left _ hp)))
        · show (capt ix σ).length = N'.length
          unfold capt
          rw [List.length_map]; exact B.len
        · obtain ⟨o, e, _⟩ := T.obj _ _ st6 b hb
          exact (fpP b hb o e).2
      refine wpAny_mono (ht C s2 H2 fp xe _ s7 σ7 H7 _ I7 q7) (fun b s8 ⟨H8, I8, q8⟩ => ?_) fun _ _ z => z
      cases b with
      | false =>
        rw [if_neg Bool.false_ne_true] at q8 ⊢
        obtain ⟨m', hm, w8⟩ := hN _ _ q8
        obtain ⟨J, tn8, f8, d8, o8⟩ := after I8
        exact ⟨m', hm, i + 1, H8, ys, its, k, J, tn8, f8, d8, o8, rv, w8⟩
      | true =>
        rw [if_pos rfl] at q8 ⊢
        refine wpAny_mono (he C s2 H2 fp xe _ s8 σ7 H8 _ I8 q8) (fun v s9 ⟨y, H9, I9, r9, q9⟩ => ?_) fun _ _ z => z
        obtain ⟨J, tn9, f9, d9, o9⟩ := after I9
        obtain ⟨m', hm, w9⟩ := hN _ _ q9
        refine append_at (hsz := by rw [List.size_toArray, ← rv.length]; exact hsz) o9 fun h10 hs10 hD10 => ?_
        refine ⟨m', hm, i + 1, H9, ys ++ [y], its ++ [v], k + 1, ?_, T.keep _ _ _ tn9 fun b hb o e => hs10.extBut b o (fun z => ?_) e, f9, d9, by rw [List.push_toArray] at hD10; exact hD10, rv.append (.cons r9 .nil), w9⟩
        · refine J.turned (t' := s9.toks) (it := D) (fun b o hb e => hs10.extBut b o hb e) d9 hDC (.inr (by show s2.heap.objs.size ≤ D; rw [hD]; exact Nat.le_refl _)) (fun x c e => Nat.ne_of_lt (cellLt x c (clB x c e))) fun p hp => Nat.ne_of_lt (pinLt p hp)
        · exact (below b (hfs b hb)).2 z
  exact codeAny_compStart_list (loop _ rfl) (T.self X.A 0 _ _ _ (T.keep _ _ _ st2 fun b _ o e => old b o e) (loop _ rfl))
end
end L2

namespace L2
open PySem PySem.Spec PyProof.Rows

/-- the block's names, checked -/
def blkCheck (outer : Scope) (N N' : List Str) (ix : List (Option Nat)) (scope : Scope) : Bool :=
  (scope.kind == .function) && (scope.names.all fun y => y.2 != .cell) && (scope.names.all fun y => y.2 != .local || scope.names.lookup y.1 == some .local) &&
  (scope.names.all fun y => y.2 != .free || outer.names.lookup y.1 == some .cell || outer.names.lookup y.1 == some .free) && (ix.length == N'.length) &&
  (List.range ix.length).all fun i => match ix[i]? with
    | some (some j) => (match N'[i]? with | some x => N[j]? == some x && scope.names.lookup x == some .free | none => false)
    | _ => true
theorem blk_of {X : Cx} {N' : List Str} {ix : List (Option Nat)} {scope : Scope} (h : blkCheck X.env.scope X.N N' ix scope = true) : BlkOk X N' ix scope := by
  unfold blkCheck at h
  simp only [Bool.and_eq_true] at h
  obtain ⟨⟨⟨⟨⟨h1, h2⟩, h3⟩, h4⟩, h5⟩, h6⟩ := h
  refine ⟨?_, fun y hy => ?_, fun y hy hl => ?_, fun y hy hl => ?_, by simpa using h5, fun i j e => ?_⟩
  · simpa using h1
  · have := List.all_eq_true.mp h2 y hy
    simpa using this
  · have := List.all_eq_true.mp h3 y hy
    rw [hl] at this
    simpa using this
  · have := List.all_eq_true.mp h4 y hy
    rw [hl] at this
    simp at this
    exact this
  · have hi : i < ix.length := (List.getElem?_eq_some_iff.mp e).1
    have := List.all_eq_true.mp h6 i (List.mem_range.mpr hi)
    rw [e] at this
    simp only at this
    cases q : N'[i]? with
    | none => rw [q] at this; simp at this
    | some x =>
      rw [q] at this
      simp at this
      exact ⟨x, rfl, this.1, this.2⟩

section
variable {X : Cx} {elt tg iter : Expr} {ifs : List Expr} {scope : Scope} {pos : Pos} {N' : List Str} {ix : List (Option Nat)} {wi : TI} {g : TG} {tt : TT} {te : TE}
theorem pe_lc (N' : List Str) (ix : List (Option Nat)) (hB : blkCheck X.env.scope X.N N' ix scope = true) (hc : X.calm = true) (hi : PI X tg iter wi)
    (hg : ∀ C s H fp xe, PG (cxComp X N' scope C s H fp xe) tg g) (ht : ∀ C s H fp xe, PTs (cxComp X N' scope C s H fp xe) ifs tt) (he : ∀ C s H fp xe, PE (cxComp X N' scope C s H fp xe) elt te)
    (hs : ∀ x, foldedSetIterable iter X.env x = pure x := by intro _; rfl) : PE X (.ListComp elt [⟨tg, iter, ifs, 0⟩] scope pos) (tLC ix wi g tt te) := by
  intro pins s σ H Q I h
  have B := blk_of hB
  rw [eval_ListComp]
  refine wpAny_comprehension_free (use := none) rfl hs (closure_is fun y hy hf => I.ok.has y.1 (B.free y hy hf)) B.kind B.locs (thn (hi pins s σ H _ I h) fun v s1 h1 => thn h1 fun itv s2 h2 => ?_)
  obtain ⟨it, fp, tn, J, H2, e, I2, T, st2, f2, q⟩ := h2
  subst e
  refine lc_run B hc hg ht he I2 T st2 f2 q ?_
  intro D C s' H' ys J2 hDn hq ⟨m, hn⟩ hC1 hC2 hC3 hC4 hC5
  refine ⟨m, hn, fun h' hs' => ?_⟩
  exact ⟨.ref D, _, J2.turned (t' := s'.toks) (it := C) (fun b o hb e => hs'.extBut b o hb e) hC1 hC2 (.inr hC3) hC4 hC5, rfl, hq⟩
/-- name = [..]: the stores are exchanged -/
theorem ps_setLC {i : Nat} {x : Str} {pos' spos : Pos} (N' : List Str) (ix : List (Option Nat)) (hN : X.N.Nodup) (hi' : X.N[i]? = some x) (hx : X.env.scope.names.lookup x = some .local)
    (hB : blkCheck X.env.scope X.N N' ix scope = true) (hc : X.calm = true) (hi : PI X tg iter wi)
    (hg : ∀ C s H fp xe, PG (cxComp X N' scope C s H fp xe) tg g) (ht : ∀ C s H fp xe, PTs (cxComp X N' scope C s H fp xe) ifs tt) (he : ∀ C s H fp xe, PE (cxComp X N' scope C s H fp xe) elt te)
    (hsw : swapsWith (.ListComp elt [⟨tg, iter, ifs, 0⟩] scope pos) (some (.Name x pos')) spos.line X.env = pure true)
    (hs : ∀ x, foldedSetIterable iter X.env x = pure x := by intro _; rfl) : PS X (.Assign [.Name x pos'] (.ListComp elt [⟨tg, iter, ifs, 0⟩] scope pos) spos) (tAsg (tLC ix wi g tt te) (gName i)) := by
  intro pins s σ H D0 I h
  have B := blk_of hB
  rw [exec_Assign_Name_used _ _ _ _ hsw]
  refine wpAny_bind (wpAny_standAt (wpAny_bind ?_))
  show wpAny _ X.A (do let _ ← comprehension (.ListComp elt [⟨tg, iter, ifs, 0⟩] scope pos) scope X.env _ (newList []) false (eval iter X.env) (some (assign (.Name x pos') X.env))) _ _ s
  refine wpAny_bind (wpAny_mono (wpAny_comprehension_free (use := some (assign (.Name x pos') X.env)) (Q := fun _ s' => SP X pins D0 .next s') rfl hs (closure_is fun y hy hf => I.ok.has y.1 (B.free y hy hf)) B.kind B.locs
    (thn (hi pins s σ H _ I h) fun v s1 h1 => thn h1 fun itv s2 h2 => ?_)) (fun _ s' hq => wpAny_pure (wpAny_pure hq)) fun _ _ e => e)
  obtain ⟨it, fp, tn, J, H2, e, I2, T, st2, f2, q⟩ := h2
  subst e
  refine lc_run (Q := fun x H1 => gName i x σ H1 D0.nx) B hc hg ht he I2 T st2 f2 q ?_
  intro D C s' H' ys J2 hDn hq ⟨m, hn⟩ hC1 hC2 hC3 hC4 hC5
  show wpAny _ X.A (assign (.Name x pos') X.env (.ref D)) _ _ _
  refine wpAny_assign_Name (store_ok2 (v := .ref D) J2 hN hi' (.inl hx) rfl (fun s'' I'' hsb => ?_) (.inr hx))
  obtain ⟨a, hsb, ha⟩ := hsb
  have aC : C ≠ a := by
    rcases ha with rfl | ha
    · exact hC2
    · exact fun z => hC4 x a ha z.symm
  refine ⟨m, hn.sameBut hsb aC, fun h'' hs'' => ?_⟩
  exact ⟨_, _, I''.turned (t' := s''.toks) (it := C) (fun b o hb e => hs''.extBut b o hb e) hC1 hC2 (.inr hC3) hC4 hC5, hq⟩
end

/-! ### the forms one uses: over a list that the block leaves as it is; over a range -/
section
variable {K : PySem.W.Frag} {a : Addr} {xs : List V} {ix : List (Option Nat)} {g : TG} {tt : TT} {te : TE} {σ : St} {H1 : Hp} {Q : VK}
theorem lc_list (Pv : Nat → List V → Hp → Prop) (h0 : Pv 0 [] H1) (hl : ∀ i ys H, i ≤ xs.length → Pv i ys H → SqL K H a xs ∧ ys.length ≤ sizeLine)
    (hs : ∀ i x ys H, xs[i]? = some x → Pv i ys H → g x (capt ix σ) H fun σ2 H2 => tt σ2 H2 fun b H3 => if b = true then te σ2 H3 fun v H4 => Pv (i + 1) (ys ++ [v]) H4 else Pv (i + 1) ys H3)
    (hd : ∀ ys H, Pv xs.length ys H → ∀ p, H p = none → Q (.ref p) (upd H p (.lst ys))) : LcGoal ix g tt te σ H1 Q (Itl K a) := by
  refine ⟨fun i m ys H => m = xs.length - i ∧ i ≤ xs.length ∧ Pv i ys H, ⟨xs.length, by simp, Nat.zero_le _, h0⟩, ?_⟩
  rintro i m ys H ⟨rfl, hi, p⟩
  obtain ⟨q, z⟩ := hl i ys H hi p
  by_cases hlt : i < xs.length
  · refine .inr ⟨⟨xs, xs[i], q, by simp [hlt]⟩, z, Pv (i + 1), fun ys' H' p' => ⟨xs.length - (i + 1), by omega, rfl, hlt, p'⟩, fun x H' y => ?_⟩
    obtain ⟨e, y⟩ := y
    subst e
    exact hs i x ys _ (y xs q) p
  · have e : i = xs.length := by omega
    subst e
    exact .inl ⟨⟨xs, q, Nat.le_refl _⟩, z, hd ys H p⟩
theorem lc_range {lo : Int} {n : Nat} (Pv : Nat → List V → Hp → Prop) (h0 : Pv 0 [] H1) (hl : ∀ i ys H, i ≤ n → Pv i ys H → ys.length ≤ sizeLine)
    (hs : ∀ i ys H, i < n → Pv i ys H → g (.int (lo + i)) (capt ix σ) H fun σ2 H2 => tt σ2 H2 fun b H3 => if b = true then te σ2 H3 fun v H4 => Pv (i + 1) (ys ++ [v]) H4 else Pv (i + 1) ys H3)
    (hd : ∀ ys H, Pv n ys H → ∀ p, H p = none → Q (.ref p) (upd H p (.lst ys))) : LcGoal ix g tt te σ H1 Q (Itr lo n) := by
  refine ⟨fun i m ys H => m = n - i ∧ i ≤ n ∧ Pv i ys H, ⟨n, by simp, Nat.zero_le _, h0⟩, ?_⟩
  rintro i m ys H ⟨rfl, hi, p⟩
  have z := hl i ys H hi p
  by_cases hlt : i < n
  · refine .inr ⟨hlt, z, Pv (i + 1), fun ys' H' p' => ⟨n - (i + 1), by omega, rfl, hlt, p'⟩, fun x H' y => ?_⟩
    obtain ⟨e, y⟩ := y
    subst e y
    exact hs i ys _ hlt p
  · have e : i = n := by omega
    subst e
    exact .inl ⟨Nat.le_refl _, z, hd ys H p⟩
end
/-- by a function of the item: nothing that was tracked is changed -/
theorem lc_fm {K : PySem.W.Frag} {a : Addr} {xs : List V} {ix : List (Option Nat)} {g : TG} {tt : TT} {te : TE} {σ : St} {H1 : Hp} {Q : VK} (f : V → Option V) (hx : SqL K H1 a xs) (hz : xs.length ≤ sizeLine)
    (hs : ∀ x H (N : Option V → Hp → Prop), x ∈ xs → Same H1 H → (∀ H', Same H1 H' → N (f x) H') → g x (capt ix σ) H fun σ2 H2 => tt σ2 H2 fun b H3 => if b = true then te σ2 H3 fun v H4 => N (some v) H4 else N none H3)
    (hd : ∀ H p, Same H1 H → H p = none → Q (.ref p) (upd H p (.lst (xs.filterMap f)))) : LcGoal ix g tt te σ H1 Q (Itl K a) := by
  refine lc_list (K := K) (a := a) (xs := xs) (fun i ys H => ys = (xs.take i).filterMap f ∧ Same H1 H) ⟨rfl, Same.refl _⟩ (fun i ys H hi ⟨e, s⟩ => ⟨s.seq hx, ?_⟩) (fun i x ys H hi ⟨e, s⟩ => ?_) fun ys H ⟨e, s⟩ p hp => ?_
  · subst e
    refine Nat.le_trans (List.length_filterMap_le _ _) (Nat.le_trans ?_ hz)
    rw [List.length_take]; exact Nat.min_le_right _ _
  · have hm : x ∈ xs := List.mem_of_getElem? hi
    obtain ⟨hil, hix⟩ := List.getElem?_eq_some_iff.mp hi
    have et : xs.take (i + 1) = xs.take i ++ [x] := by rw [List.take_succ_eq_append_getElem hil, hix]
    refine hs x H (fun o H' => match o with | some v => (ys ++ [v] = (xs.take (i + 1)).filterMap f ∧ Same H1 H') | none => (ys = (xs.take (i + 1)).filterMap f ∧ Same H1 H')) hm s fun H' s' => ?_
    cases ef : f x with
    | some v =>
      refine ⟨?_, s'⟩
      rw [e, et, List.filterMap_append]
      simp [ef]
    | none =>
      refine ⟨?_, s'⟩
      rw [e, et, List.filterMap_append]
      simp [ef]
  · subst e
    rw [List.take_length]
    exact hd H p s hp
theorem lc_fmR {lo : Int} {n : Nat} {ix : List (Option Nat)} {g : TG} {tt : TT} {te : TE} {σ : St} {H1 : Hp} {Q : VK} (f : Nat → Option V) (hz : n ≤ sizeLine)
    (hs : ∀ i H (N : Option V → Hp → Prop), i < n → Same H1 H → (∀ H', Same H1 H' → N (f i) H') → g (.int (lo + i)) (capt ix σ) H fun σ2 H2 => tt σ2 H2 fun b H3 => if b = true then te σ2 H3 fun v H4 => N (some v) H4 else N none H3)
    (hd : ∀ H p, Same H1 H → H p = none → Q (.ref p) (upd H p (.lst ((List.range n).filterMap f)))) : LcGoal ix g tt te σ H1 Q (Itr lo n) := by
  refine lc_range (fun i ys H => ys = (List.range i).filterMap f ∧ Same H1 H) ⟨rfl, Same.refl _⟩ (fun i ys H hi ⟨e, s⟩ => ?_) (fun i ys H hi ⟨e, s⟩ => ?_) fun ys H ⟨e, s⟩ p hp => ?_
  · subst e
    refine Nat.le_trans (List.length_filterMap_le _ _) (Nat.le_trans ?_ hz)
    rw [List.length_range]; exact hi
  · refine hs i H (fun o H' => match o with | some v => (ys ++ [v] = (List.range (i + 1)).filterMap f ∧ Same H1 H') | none => (ys = (List.range (i + 1)).filterMap f ∧ Same H1 H')) hi s fun H' s' => ?_
    cases ef : f i with
    | some v =>
      refine ⟨?_, s'⟩
      rw [e, List.range_succ, List.filterMap_append]
      simp [ef]
    | none =>
      refine ⟨?_, s'⟩
      rw [e, List.range_succ, List.filterMap_append]
      simp [ef]
  · subst e
    exact hd H p s hp
end L2

namespace L2
open PySem PySem.Spec PyProof.Rows

/-! ### data, by the abstract heap -/
mutual
inductive IsD (K : PySem.W.Frag) (H : Hp) : V → PyData → Prop
  | non : IsD K H .non .none
  | bl (b : Bool) : IsD K H (.bl b) (.bool b)
  | int (i : Int) : IsD K H (.int i) (.int i)
  | str (x : Str) : IsD K H (.str x) (.str x)
  | lst {a : Addr} {xs : List V} {ds : List PyData} : SqL K H a xs → IsDs K H xs ds → IsD K H (.ref a) (.list ds)
  | tup {a : Addr} {xs : List V} {ds : List PyData} : SqT K H a xs → IsDs K H xs ds → IsD K H (.ref a) (.tuple ds)
inductive IsDs (K : PySem.W.Frag) (H : Hp) : List V → List PyData → Prop
  | nil : IsDs K H [] []
  | cons {x : V} {xs : List V} {d : PyData} {ds : List PyData} : IsD K H x d → IsDs K H xs ds → IsDs K H (x :: xs) (d :: ds)
end
theorem Same.tupq {K : PySem.W.Frag} {H H' : Hp} {a : Addr} {xs : List V} (e : Same H H') (h : SqT K H a xs) : SqT K H' a xs := by
  rcases h with (h | ⟨o, h⟩) | h
  · exact .inl (.inl (e _ _ h))
  · exact .inl (.inr ⟨o, e _ _ h⟩)
  · exact .inr h
mutual
theorem IsD.reads {X : Cx} {pins : List (Addr × Obj)} {σ : St} {H : Hp} {s : Shared} (I : Inv X pins σ H s) : ∀ {v : V} {d : PyData} {u : Value}, IsD X.K H v d → RelV v u → ∃ as, Reads s.heap u d as
  | _, _, _, .non, r => by cases r; exact ⟨_, .none⟩
  | _, _, _, .bl b, r => by cases r; exact ⟨_, .bool b⟩
  | _, _, _, .int i, r => by obtain ⟨t, rfl⟩ := r; exact ⟨_, .int i t⟩
  | _, _, _, .str x, r => by obtain ⟨t, rfl⟩ := r; exact ⟨_, .str x t⟩
  | _, _, _, .lst h q, r => by
    cases r
    obtain ⟨its, rv, ⟨o, n, e, c, _, d⟩, _⟩ := I.list h
    obtain ⟨as, ra⟩ := IsDs.reads I q rv
    exact ⟨_, .list e c d (by simpa using ra)⟩
  | _, _, _, .tup h q, r => by
    cases r
    obtain ⟨its, rv, ⟨o, e, c, n, d⟩, _⟩ := I.tuple h
    obtain ⟨as, ra⟩ := IsDs.reads I q rv
    exact ⟨_, .tuple e c d (by simpa using ra)⟩
theorem IsDs.reads {X : Cx} {pins : List (Addr × Obj)} {σ : St} {H : Hp} {s : Shared} (I : Inv X pins σ H s) : ∀ {xs : List V} {ds : List PyData} {us : List Value}, IsDs X.K H xs ds → Vals xs us → ∃ as, ReadsAll s.heap us ds as
  | _, _, _, .nil, .nil => ⟨_, .nil⟩
  | _, _, _, .cons h q, .cons r t => by
    obtain ⟨as, ra⟩ := IsD.reads I h r
    obtain ⟨bs, rb⟩ := IsDs.reads I q t
    exact ⟨_, .cons ra rb⟩
end
theorem IsDs.ints {K : PySem.W.Frag} {H : Hp} : ∀ ns : List Int, IsDs K H (ns.map V.int) (ns.map PyData.int)
  | [] => .nil
  | n :: ns => .cons (.int n) (IsDs.ints ns)

section
variable {X : Cx}
def rEqD (K : PySem.W.Frag) (neg : Bool) : R2 := fun x y H Q => ∃ d d', IsD K H x d ∧ IsD K H y d' ∧ SeqAt.shaped d = true ∧ SeqAt.shaped d' = true ∧ Q (.bl (if neg then !PyData.eqv d d' else PyData.eqv d d')) H
theorem op_neD (hu : X.A.units + 64 < cLine) : OpR X (compareOp .NotEq) (rEqD X.K true) := by
  intro pins s σ H x y v u Q I rx ry h
  obtain ⟨d, d', h1, h2, s1, s2, q⟩ := h
  obtain ⟨as, ra⟩ := h1.reads I rx
  obtain ⟨bs, rb⟩ := h2.reads I ry
  exact ne_dataH ra rb s1 s2 hu ⟨.bl _, H, I, rfl, q⟩
def rInD (K : PySem.W.Frag) (neg : Bool) : R2 := fun x y H Q => ∃ d ds, IsD K H x d ∧ IsD K H y (.list ds) ∧ SeqAt.shaped d = true ∧ SeqAt.shaped (.list ds) = true ∧ Q (.bl (if neg then !ds.any (fun e => PyData.eqv e d) else ds.any (fun e => PyData.eqv e d))) H
theorem op_inD (hu : X.A.units + 65 < cLine) : OpR X (compareOp .In) (rInD X.K false) := by
  intro pins s σ H x y v u Q I rx ry h
  obtain ⟨d, ds, h1, h2, s1, s2, q⟩ := h
  obtain ⟨as, ra⟩ := h1.reads I rx
  obtain ⟨bs, rb⟩ := h2.reads I ry
  exact SeqAt.in_list_reads rb ra (SeqAt.canLay_of_shaped s2) (SeqAt.canLay_of_shaped s1) (room_in_shaped s1 hu) ⟨.bl _, H, I, rfl, q⟩
theorem op_notInD (hu : X.A.units + 65 < cLine) : OpR X (compareOp .NotIn) (rInD X.K true) := by
  intro pins s σ H x y v u Q I rx ry h
  obtain ⟨d, ds, h1, h2, s1, s2, q⟩ := h
  obtain ⟨as, ra⟩ := h1.reads I rx
  obtain ⟨bs, rb⟩ := h2.reads I ry
  exact SeqAt.notIn_list_reads rb ra (SeqAt.canLay_of_shaped s2) (SeqAt.canLay_of_shaped s1) (room_in_shaped s1 hu) ⟨.bl _, H, I, rfl, q⟩

/-! ### isinstance -/
def clsV : V → Option Value
  | .ty n => some (.type n)
  | .ref a => some (.ref a)
  | _ => none
theorem clsV_rel {c : V} {cv u : Value} (h : clsV c = some cv) (r : RelV c u) : u = cv := by
  cases c with
  | ty n => cases h; exact r
  | ref a => cases h; exact r
  | _ => cases h
theorem call_isinst : CallR X (.builtin "isinstance") (fun xs H Q => ∃ x c cv t b, xs = [x, c] ∧ clsV c = some cv ∧ TyOf X.K H x t ∧ PySem.W.kitOne X.K t cv = some b ∧ Q (.bl b) H) := by
  intro pins s σ H xs us Q I r h
  obtain ⟨x, c, cv, t, b, rfl, hc, ty, hk, q⟩ := h
  obtain ⟨u1, u2, rfl, r1, r2⟩ := vals2 r
  obtain rfl := clsV_rel hc r2
  exact isinst_ok I r1 ty hk fun tk => ⟨.bl b, H, I.tok tk, rfl, q⟩

/-! ### all, any by the items' truth -/
abbrev Cx.in1 (X : Cx) : Cx := { X with A := X.A.in1 }
theorem Inv.in1 {pins : List (Addr × Obj)} {σ : St} {H : Hp} {s : Shared} (I : Inv X pins σ H s) : Inv X.in1 pins σ H s :=
  ⟨⟨I.ok.mod, I.ok.kind, I.ok.glob, I.ok.blt, I.ok.above, I.ok.inj, I.ok.has, I.ok.cab, I.ok.hd, I.ok.frames, I.ok.stk, I.ok.exf, I.ok.bs, I.ok.bsz, I.ok.noex, I.ok.exfs, I.ok.funs, I.ok.frf⟩, I.os, I.bare, I.base, I.loc, I.cell, I.free, I.freeC, I.pin, I.hok, I.len⟩
theorem Inv.of_in1 {pins : List (Addr × Obj)} {σ : St} {H : Hp} {s : Shared} (I : Inv X.in1 pins σ H s) : Inv X pins σ H s :=
  ⟨⟨I.ok.mod, I.ok.kind, I.ok.glob, I.ok.blt, I.ok.above, I.ok.inj, I.ok.has, I.ok.cab, I.ok.hd, I.ok.frames, I.ok.stk, I.ok.exf, I.ok.bs, I.ok.bsz, I.ok.noex, I.ok.exfs, I.ok.funs, I.ok.frf⟩, I.os, I.bare, I.base, I.loc, I.cell, I.free, I.freeC, I.pin, I.hok, I.len⟩
def Truths (K : PySem.W.Frag) (H : Hp) (xs : List V) (bs : List Bool) : Prop := Paired (fun x b => TruV K x H b) xs bs
theorem Truths.get {K : PySem.W.Frag} {H : Hp} : ∀ {xs : List V} {bs : List Bool} {i : Nat} {x : V}, Truths K H xs bs → xs[i]? = some x → ∃ b, bs[i]? = some b ∧ TruV K x H b
  | _, _, _, _, .nil, h => by simp at h
  | _, _, 0, _, .cons h r, e => by
    simp at e; subst e
    exact ⟨_, rfl, h⟩
  | _, _, i + 1, _, .cons h r, e => by
    obtain ⟨d, e1, q⟩ := Truths.get (i := i) r (by simpa using e)
    exact ⟨d, by simpa using e1, q⟩
theorem Truths.bls {K : PySem.W.Frag} {H : Hp} : ∀ bs : List Bool, Truths K H (bs.map V.bl) bs
  | [] => .nil
  | b :: bs => .cons rfl (Truths.bls bs)
theorem all_loop {pins : List (Addr × Obj)} {σ : St} {H : Hp} {p it : Addr} {ys : List V} {bs : List Bool} {R : Result → Shared → Prop} (hc : X.calm = true) (hq : SqL X.K H p ys) (ht : Truths X.K H ys bs) (f : FpOk X pins H it) :
    ∀ (k i : Nat) (s : Shared), ys.length - i = k → Inv X pins σ H s → s.heap.IsListIter it p i → (∀ s', Inv X pins σ H s' → R (.ok (.ret (.bool ((bs.drop i).all id)))) s') →
    codeAny (model X.prog X.w) X.A (.builtin "all.loop" ⟨[.ref it], []⟩) R s := by
  obtain ⟨f0, f1, f2, f3, f4, f5⟩ := f
  intro k
  induction k with
  | zero =>
    intro i s hk I st hR
    obtain ⟨its, rv, pl, hz⟩ := I.list hq
    have hl := rv.length
    refine codeAny_builtin F.entry_all_loop ?_
    rw [Around.under_plainId F.plain_all_loop _]
    show wpAny _ X.A.in1 (pyNext (.ref it) >>= _) _ _ s
    refine wpAny_bind (wpAny_pyNext_list_end (I.ok.hd hc) st pl.isList (by simp; omega) fun h' eb => ?_)
    refine wpAny_bind (wpAny_rule (wpAny_pure ?_))
    have q := hR _ (I.turned (t' := s.toks) (fun b o hb e => eb b o hb e) f0 f1 f3 f4 f5)
    have hlb : bs.length = ys.length := (Paired.length ht).symm
    rw [List.drop_of_length_le (by omega)] at q
    exact q
  | succ k ih =>
    intro i s hk I st hR
    obtain ⟨its, rv, pl, hz⟩ := I.list hq
    have hl := rv.length
    have hlt : i < ys.length := by omega
    have hx : ys[i]? = some ys[i] := by simp [hlt]
    obtain ⟨u, hu, ru⟩ := rv.get hx
    obtain ⟨b, hb, tb⟩ := ht.get hx
    refine codeAny_builtin F.entry_all_loop ?_
    rw [Around.under_plainId F.plain_all_loop _]
    show wpAny _ X.A.in1 (pyNext (.ref it) >>= _) _ _ s
    refine wpAny_bind (wpAny_pyNext_list_item st pl.isList (x := u) (by simpa using hu) fun h' st' sb => ?_)
    have I1 : Inv X pins σ H { s with heap := h' } := I.turned (t' := s.toks) (fun b o hb e => (sb.2 b hb).trans e) f0 f1 f3 f4 f5
    have hdb : bs.drop i = b :: bs.drop (i + 1) := by
      obtain ⟨hlb, eb⟩ := List.getElem?_eq_some_iff.mp hb
      rw [List.drop_eq_getElem_cons hlb, eb]
    rw [hdb] at hR
    have I1p : Inv X (pins ++ pinsAt [it] h') σ H { s with heap := h' } := I1.pinned (fp := [it]) (fun c hcc => by rw [List.mem_singleton.mp hcc]; exact ⟨f0, f1, f2, f3, f4, f5⟩) fun c hcc => by
      rw [List.mem_singleton.mp hcc]
      obtain ⟨o, e, c', d⟩ := st'
      exact ⟨o, e, fun v z => by rw [d] at z; cases z⟩
    refine wpAny_bind (wpAny_holding (wpAny_mono (tru_ok (X := X.in1.nox) _ _ σ H ys[i] u (fun c H' => c = b ∧ H' = H) ((Inv.in1 I1p).wish _) ru ⟨b, tb, rfl, rfl⟩) (fun c s2 ⟨H', I2, e1, e2⟩ => ?_) fun _ _ z => False.elim z))
    rw [e2] at I2
    subst e1
    have I2' : Inv X (pins ++ pinsAt [it] h') σ H s2 := Inv.of_in1 I2.unwish
    have I2'' : Inv X pins σ H s2 := I2'.unpinned
    have st2 : s2.heap.IsListIter it p (i + 1) := st'.at fun o e => (I2'.pin (it, o) (List.mem_append_right _ (List.mem_append_right _ (mem_pinsAt (List.mem_singleton.mpr rfl) e)))).1
    refine wpAny_bind (wpAny_letGo ?_)
    cases c with
    | true =>
      simp only [if_true]
      exact wpAny_pure ⟨plainId_quiet F.plain_all_loop _, ih (i + 1) s2 (by omega) I2'' st2 fun s' I' => by simpa using hR s' I'⟩
    | false =>
      simp only [Bool.false_eq_true, if_false]
      refine wpAny_bind (wpAny_rule (wpAny_pure ?_))
      simpa using hR s2 I2''
theorem call_allT (hc : X.calm = true) : CallR X (.builtin "all") (fun xs H Q => ∃ p ys bs, xs = [.ref p] ∧ SqL X.K H p ys ∧ Truths X.K H ys bs ∧ Q (.bl (bs.all id)) H) := by
  intro pins s σ H xs us Q I r h
  obtain ⟨p, ys, bs, rfl, hq, ht, q⟩ := h
  obtain ⟨u, rfl, rx⟩ := vals1 r
  cases rx
  refine call_function_tree F.kind_all F.plain_all F.entry_all (F.args_all1 _) ?_
  unfold Builtin.«all»
  refine wpAny_bind (m := oneArg "all" _) (wpAny_pure ?_)
  obtain ⟨its, rv, pl, hz⟩ := I.list hq
  refine wpAny_bind (wpAny_pyIter_list pl.isList ?_)
  have I1 : Inv X pins σ H { s with heap := s.heap.push { cls := .type "list_iterator", data := .fields #[.ref p, .int 0 0] } } := I.kept (t' := s.toks) fun b o e => Heap.get?_push_of_some _ e
  refine wpAny_pure ⟨plainId_quiet F.plain_all_loop _, all_loop hc hq ht (I.fpOk (Nat.le_refl _) (I.hok.fresh (Nat.le_refl _))) ys.length 0 _ (Nat.sub_zero _) I1 ⟨_, Heap.get?_push_size _ rfl, rfl, rfl⟩ fun s' I' => ?_⟩
  exact ⟨.bl _, H, I', rfl, by simpa using q⟩
end
end L2

namespace L2
open PySem PySem.Spec PyProof.Rows

/-- a def of the text as it stands behind the top -/
structure Dn (K : PySem.W.Frag) (mg : Str → Option Value) (x : Str) (st : Stmt) (ps : List Str) where
  f : Addr
  fd : FuncData
  F : Fun K x x st f fd
  b : Binds K fd ps []
  m : mg x = some (.ref f)
  bd : ∀ (s : Shared) (us : List Value), us.length = ps.length → BindsTo s fd ⟨us, []⟩ (ps.zip us)
/-- the built-ins' names are the built-ins' -/
structure Bl (mg : Str → Option Value) : Prop where
  get : ∀ x : Str, x ∈ (["len", "range", "list", "isinstance", "int", "bool", "str", "all", "any", "sorted", "set", "min", "max", "tuple", "enumerate", "dict", "ValueError"] : List Str) → mg x = none
theorem Bl.len {mg : Str → Option Value} (B : Bl mg) : mg "len" = none := B.get _ (by decide +kernel)
theorem Bl.range {mg : Str → Option Value} (B : Bl mg) : mg "range" = none := B.get _ (by decide +kernel)
theorem Bl.list {mg : Str → Option Value} (B : Bl mg) : mg "list" = none := B.get _ (by decide +kernel)
theorem Bl.isinstance {mg : Str → Option Value} (B : Bl mg) : mg "isinstance" = none := B.get _ (by decide +kernel)
theorem Bl.int {mg : Str → Option Value} (B : Bl mg) : mg "int" = none := B.get _ (by decide +kernel)
theorem Bl.bool {mg : Str → Option Value} (B : Bl mg) : mg "bool" = none := B.get _ (by decide +kernel)
theorem Bl.all {mg : Str → Option Value} (B : Bl mg) : mg "all" = none := B.get _ (by decide +kernel)
theorem Bl.sorted {mg : Str → Option Value} (B : Bl mg) : mg "sorted" = none := B.get _ (by decide +kernel)
theorem Bl.set {mg : Str → Option Value} (B : Bl mg) : mg "set" = none := B.get _ (by decide +kernel)
theorem Bl.min {mg : Str → Option Value} (B : Bl mg) : mg "min" = none := B.get _ (by decide +kernel)
theorem Bl.max {mg : Str → Option Value} (B : Bl mg) : mg "max" = none := B.get _ (by decide +kernel)
theorem Bl.enumerate {mg : Str → Option Value} (B : Bl mg) : mg "enumerate" = none := B.get _ (by decide +kernel)

/-! ### the kinds of plain values -/
theorem kit_int_int {K : PySem.W.Frag} : PySem.W.kitOne K (.type "int") (.type "int") = some true := by rfl
theorem kit_int_bool {K : PySem.W.Frag} : PySem.W.kitOne K (.type "int") (.type "bool") = some false := by rfl
theorem kit_non_int {K : PySem.W.Frag} : PySem.W.kitOne K (.type "NoneType") (.type "int") = some false := by rfl
theorem kit_non_bool {K : PySem.W.Frag} : PySem.W.kitOne K (.type "NoneType") (.type "bool") = some false := by rfl
end L2

namespace L2
open PySem PySem.Spec PyProof.Rows
/-! the rules with the written part named (a block's own context does not show it) -/
section
variable {X : Cx} {K : PySem.W.Frag}
theorem ix_listK (e : X.K = K) : IxR X (rIxL K) := by subst e; exact ix_list
theorem ix_tupK (e : X.K = K) : IxR X (rIxT K) := by subst e; exact ix_tup
theorem op_neDK (e : X.K = K) (hu : X.A.units + 64 < cLine) : OpR X (compareOp .NotEq) (rEqD K true) := by subst e; exact op_neD hu
theorem op_inDK (e : X.K = K) (hu : X.A.units + 65 < cLine) : OpR X (compareOp .In) (rInD K false) := by subst e; exact op_inD hu
theorem op_notInDK (e : X.K = K) (hu : X.A.units + 65 < cLine) : OpR X (compareOp .NotIn) (rInD K true) := by subst e; exact op_notInD hu
def rLen (K : PySem.W.Frag) : List V → Hp → VK → Prop := fun xs H Q => ∃ p ys, xs = [.ref p] ∧ (SqL K H p ys ∨ SqT K H p ys) ∧ Q (.int ys.length) H
theorem call_lenK (e : X.K = K) : CallR X (.builtin "len") (rLen K) := by subst e; exact call_len_seq
def rListOf (K : PySem.W.Frag) : List V → Hp → VK → Prop := fun xs H Q => ∃ p ys, xs = [.ref p] ∧ (SqL K H p ys ∨ SqT K H p ys) ∧ ∀ l, H l = none → Q (.ref l) (upd H l (.lst ys))
theorem call_listK (e : X.K = K) : CallR X (.type "list") (rListOf K) := by subst e; exact call_list_of
def rIsin (K : PySem.W.Frag) : List V → Hp → VK → Prop := fun xs H Q => ∃ x c cv t b, xs = [x, c] ∧ clsV c = some cv ∧ TyOf K H x t ∧ PySem.W.kitOne K t cv = some b ∧ Q (.bl b) H
theorem call_isinstK (e : X.K = K) : CallR X (.builtin "isinstance") (rIsin K) := by subst e; exact call_isinst
def rAll (K : PySem.W.Frag) : List V → Hp → VK → Prop := fun xs H Q => ∃ p ys bs, xs = [.ref p] ∧ SqL K H p ys ∧ Truths K H ys bs ∧ Q (.bl (bs.all id)) H
theorem call_allK (e : X.K = K) (hc : X.calm = true) : CallR X (.builtin "all") (rAll K) := by subst e; exact call_allT hc
theorem pi_listK {tg l : Expr} {tl : TE} (e : X.K = K) (hl : PE X l tl) : PI X tg l (iList K tl) := by subst e; exact pi_list hl
theorem pi_tupK {tg l : Expr} {tl : TE} (e : X.K = K) (hl : PE X l tl) : PI X tg l (iTup K tl) := by subst e; exact pi_tup hl
def tTru (K : PySem.W.Frag) (ta : TE) : TT := fun σ H Q => ta σ H fun x H' => ∃ k, TruV K x H' k ∧ Q k H'
theorem pt_truthK {a : Expr} {ta : TE} (e : X.K = K) (ha : PE X a ta) (he : ∀ whole, isTrue a X.env whole = (do let v ← whole; standAt a.pos; holding [v] (truthy v))) : PT X a (tTru K ta) := by subst e; exact pt_truth ha he
theorem pg_tupK {es : List Expr} {k : Nat} {t : TGs} {n : Nat} {pos : Pos} (e : X.K = K) (hc : X.calm = true) (h : PGs X es t)
    (hn : (assignEach es X.env).length = n := by rfl) (hst : (assignEach es X.env).findIdx? (·.1) = none := by rfl) : PG X (.Tuple es k pos) (gTup K n t) := by subst e; exact pg_tup hc h hn hst
theorem pe_bm0K {o : Expr} {to : TE} {name : Str} {apos cpos : Pos} {T id : String} {r : V → List V → Hp → VK → Prop} (e : X.K = K) (pa : PlainAttrs T) (slot : Slot T name id) (hty : typeOf (.builtin id) = pure (.type "method_descriptor")) (hm : MtR X id r) (ho : PE X o to)
    (hbase : attributeBase o name X.env (eval o X.env) = eval o X.env := by rfl) (hline : (apos.endLine == cpos.line) = true := by rfl) : PE X (.Call (.Attribute o name apos) [] [] cpos) (tBM0 K T r to) := by subst e; exact pe_bm0 pa slot hty hm ho hbase hline
theorem pe_bmK {o e : Expr} {es : List Expr} {to : TE} {t : TA} {name : Str} {apos cpos : Pos} {T id : String} {r : V → List V → Hp → VK → Prop} (e0 : X.K = K) (pa : PlainAttrs T) (slot : Slot T name id) (hty : typeOf (.builtin id) = pure (.type "method_descriptor")) (hm : MtR X id r) (ho : PE X o to) (ha : PA X (e :: es) t)
    (hbase : attributeBase o name X.env (eval o X.env) = eval o X.env := by rfl)
    (hfew : ((backTo cpos (starEach (e :: es) X.env)).all (fun x => !x.1) && (backToKw cpos (keywordEach [] X.env)).all (fun x => x.1.isSome)
      && decide ((e :: es).length + ([] : List Keyword).length + (if ([] : List Keyword).isEmpty then 0 else 1) < 30)) = true := by rfl)
    (hline : (apos.endLine == cpos.line) = true := by rfl) (hs : starEach (e :: es) X.env = (false, eval e X.env) :: starEach es X.env := by rfl) (hplain : (backTo cpos (starEach es X.env)).any (·.1) = false := by rfl) :
    PE X (.Call (.Attribute o name apos) (e :: es) [] cpos) (tBM K T r to t) := by subst e0; exact pe_bm pa slot hty hm ho ha hbase hfew hline hs hplain

/-! ### xs.insert(i, v) -/
def rInsert : V → List V → Hp → VK → Prop := fun x vs H Q => ∃ l xs i y, x = .ref l ∧ vs = [.int i, y] ∧ H l = some (.lst xs) ∧ xs.length < 1000 ∧ 0 ≤ i ∧ i ≤ (xs.length : Int) ∧ Q .non (upd H l (.lst (xs.take i.toNat ++ y :: xs.drop i.toNat)))
theorem mt_insert : MtM X "list.insert" rInsert := by
  intro pins s σ H x vs v us Q I rx rv h
  obtain ⟨l, xs, i, y, rfl, rfl, hH, hz, h0, h1, q⟩ := h
  cases rx
  obtain ⟨u1, u2, rfl, ru1, ru2⟩ := rv.two
  obtain ⟨t, rfl⟩ := ru1
  obtain ⟨z, its, n, r, hl, e⟩ := I.lstM hH
  have hlen := r.length
  have hs : sizeLine = 16777216 := sizeLine_eq
  have hfit : ¬(!Builtin.List.listFitsIndex i) = true := by
    unfold Builtin.List.listFitsIndex
    simp
    omega
  refine call_meets F.slot_list_insert ⟨_, e, rfl⟩ F.entry_list_insert (F.args_list_insert_3 _ _ _) (AutoSeq1.list_insert_list_int_val_1 l its.toArray n i t u2 hfit (by rw [List.size_toArray]; omega)) ⟨e, ?_⟩
  refine ⟨.non, _, I.lset (its' := its.take i.toNat ++ u2 :: its.drop i.toNat) hH e ?_ ((r.take i.toNat).append (.cons ru2 (r.drop i.toNat))) ?_, rfl, q⟩
  · have hk : min i.toNat its.length = i.toNat := by omega
    simp [show ¬ i < 0 by omega, hk]
    exact List.take_of_length_le (by simp)
  · rw [List.length_append, List.length_cons, List.length_take, List.length_drop]
    omega
end
end L2

namespace L2
open PySem PySem.Spec PyProof.Rows
end L2

namespace L2
open PySem PySem.Spec PyProof.Rows
/-- o has been laid at p -/
structure New (H : Hp) (p : Addr) (o : HO) (H' : Hp) : Prop where
  fresh : H p = none
  here : H' p = some o
  rest : ∀ b, b ≠ p → H' b = H b
theorem New.mk0 {H : Hp} {p : Addr} {o : HO} (h : H p = none) : New H p o (upd H p o) := ⟨h, upd_same, fun _ hb => upd_ne hb⟩
theorem New.same {H H' : Hp} {p : Addr} {o : HO} (n : New H p o H') : Same H H' := fun b u e => (n.rest b (ne_of_none e n.fresh)).trans e
theorem New.ne {H H' : Hp} {p b : Addr} {o u : HO} (n : New H p o H') (h : H b = some u) : b ≠ p := ne_of_none h n.fresh
/-- the object at l has been changed into o -/
structure Chg (H : Hp) (l : Addr) (o : HO) (H' : Hp) : Prop where
  here : H' l = some o
  rest : ∀ b, b ≠ l → H' b = H b
theorem Chg.mk0 {H : Hp} {l : Addr} {o : HO} : Chg H l o (upd H l o) := ⟨upd_same, fun _ hb => upd_ne hb⟩
section
variable {X : Cx} {K : PySem.W.Frag} {es : List Expr} {t : TA} {pos : Pos}
def tTupN (t : TA) : TE := fun σ H Q => t σ H fun xs H1 => xs.length ≤ 1000 ∧ ∀ p H', New H1 p (.tup xs) H' → Q (.ref p) H'
def tLstN (t : TA) : TE := fun σ H Q => t σ H fun xs H1 => xs.length ≤ 1000 ∧ ∀ p H', New H1 p (.lst xs) H' → Q (.ref p) H'
theorem pe_tupN {x1} (h : PA X es t) : PE X (.Tuple es x1 pos) (tTupN t) := by
  intro pins s σ H Q I hq
  refine wpAny_Tuple_spliced (thn (h pos pins s σ H _ I hq) fun us s1 ⟨xs, H1, I1, r, z, q⟩ => ?_)
  have z' : xs.length ≤ sizeLine := Nat.le_of_lt (small1000 z)
  refine ⟨by rw [← r.length]; exact z', ?_⟩
  have hf : H1 s1.heap.objs.size = none := I1.hok.fresh (Nat.le_refl _)
  refine ⟨.ref s1.heap.objs.size, upd H1 s1.heap.objs.size (.tup xs), I1.laid (t' := s1.toks) (fun b u e => Heap.get?_push_of_some _ e) (Nat.le_refl _) ?_, rfl, q _ _ (New.mk0 hf)⟩
  exact ⟨z', us, r, ⟨_, Heap.get?_push_size _ rfl, rfl, _, rfl⟩⟩
theorem pe_lstN (h : PA X es t) : PE X (.List es pos) (tLstN t) := by
  intro pins s σ H Q I hq
  refine wpAny_List_spliced (thn (h pos pins s σ H _ I hq) fun us s1 ⟨xs, H1, I1, r, z, q⟩ => ?_)
  have z' : xs.length ≤ sizeLine := Nat.le_of_lt (small1000 z)
  refine ⟨by rw [← r.length]; exact z', ?_⟩
  have hf : H1 s1.heap.objs.size = none := I1.hok.fresh (Nat.le_refl _)
  refine ⟨.ref s1.heap.objs.size, upd H1 s1.heap.objs.size (.lst xs), I1.laid (t' := s1.toks) (fun b u e => Heap.get?_push_of_some _ e) (Nat.le_refl _) ?_, rfl, q _ _ (New.mk0 hf)⟩
  exact ⟨z', us, 0, r, Heap.get?_push_size _ rfl⟩
theorem OpR.weak {f : Value → Value → Sem Value} {r r' : R2} (h : OpR X f r) (m : ∀ x y H Q, r' x y H Q → r x y H Q) : OpR X f r' := fun pins s σ H x y v u Q I rx ry q => h pins s σ H x y v u Q I rx ry (m x y H Q q)
theorem CallR.weak {f : Value} {r r' : List V → Hp → VK → Prop} (h : CallR X f r) (m : ∀ xs H Q, r' xs H Q → r xs H Q) : CallR X f r' := fun pins s σ H xs us Q I rs q => h pins s σ H xs us Q I rs (m xs H Q q)
def rCatN : R2 := fun x y H Q => ∃ l b xs zs, x = .ref l ∧ y = .ref b ∧ H l = some (.lst xs) ∧ H b = some (.lst zs) ∧ xs.length + zs.length ≤ 1000 ∧ ∀ p H', New H p (.lst (xs ++ zs)) H' → Q (.ref p) H'
theorem op_catN : OpR X (binaryOp .Add) rCatN := op_cat.weak fun x y H Q ⟨l, b, xs, zs, e1, e2, h1, h2, z, q⟩ => ⟨l, b, xs, zs, e1, e2, h1, h2, Nat.le_of_lt (small1000 z), fun p hp => q p _ (New.mk0 hp)⟩
def rSlN (K : PySem.W.Frag) : V → Option Int → Option Int → Hp → VK → Prop := fun x lo hi H Q => ∃ a xs, x = .ref a ∧ SqL K H a xs ∧ ∀ p H', New H p (.lst (cutV xs lo hi)) H' → Q (.ref p) H'
theorem sl_listN (e : X.K = K) : SlR X (rSlN K) := by
  subst e
  exact fun pins s σ H x v vl vu lo hi sl Q I rx hs pl pu ⟨a, xs, e, h, q⟩ => sl_list pins s σ H x v vl vu lo hi sl Q I rx hs pl pu ⟨a, xs, e, h, fun p hp => q p _ (New.mk0 hp)⟩
def rListN (K : PySem.W.Frag) : List V → Hp → VK → Prop := fun xs H Q => ∃ p ys, xs = [.ref p] ∧ (SqL K H p ys ∨ SqT K H p ys) ∧ ∀ l H', New H l (.lst ys) H' → Q (.ref l) H'
theorem call_listN (e : X.K = K) : CallR X (.type "list") (rListN K) := (call_listK e).weak fun xs H Q ⟨p, ys, e, h, q⟩ => ⟨p, ys, e, h, fun l hl => q l _ (New.mk0 hl)⟩
theorem MtM.weak {id : String} {r r' : V → List V → Hp → VK → Prop} (h : MtM X id r) (m : ∀ x xs H Q, r' x xs H Q → r x xs H Q) : MtM X id r' := fun pins s σ H x xs v us Q I rx rs q => h pins s σ H x xs v us Q I rx rs (m x xs H Q q)
def rAppN : V → List V → Hp → VK → Prop := fun x vs H Q => ∃ l xs y, x = .ref l ∧ vs = [y] ∧ H l = some (.lst xs) ∧ xs.length < 1000 ∧ ∀ H', Chg H l (.lst (xs ++ [y])) H' → Q .non H'
theorem mt_appendN : MtM X "list.append" rAppN := mt_append.weak fun x vs H Q ⟨l, xs, y, e1, e2, h, z, q⟩ => ⟨l, xs, y, e1, e2, h, small1000 (Nat.le_of_lt z), q _ Chg.mk0⟩
def rInsN : V → List V → Hp → VK → Prop := fun x vs H Q => ∃ l xs i y, x = .ref l ∧ vs = [.int i, y] ∧ H l = some (.lst xs) ∧ xs.length < 1000 ∧ 0 ≤ i ∧ i ≤ (xs.length : Int) ∧ ∀ H', Chg H l (.lst (xs.take i.toNat ++ y :: xs.drop i.toNat)) H' → Q .non H'
theorem mt_insertN : MtM X "list.insert" rInsN := mt_insert.weak fun x vs H Q ⟨l, xs, i, y, e1, e2, h, z, h0, h1, q⟩ => ⟨l, xs, i, y, e1, e2, h, z, h0, h1, q _ Chg.mk0⟩
def rExtN : V → List V → Hp → VK → Prop := fun x vs H Q => ∃ l b xs zs, x = .ref l ∧ vs = [.ref b] ∧ H l = some (.lst xs) ∧ H b = some (.lst zs) ∧ xs.length + zs.length ≤ 1000 ∧ ∀ H', Chg H l (.lst (xs ++ zs)) H' → Q .non H'
theorem mt_extendN : MtM X "list.extend" rExtN := mt_extend.weak fun x vs H Q ⟨l, b, xs, zs, e1, e2, h, h', z, q⟩ => ⟨l, b, xs, zs, e1, e2, h, h', Nat.le_of_lt (small1000 z), q _ Chg.mk0⟩
end
theorem lc_fmN {K : PySem.W.Frag} {a : Addr} {xs : List V} {ix : List (Option Nat)} {g : TG} {tt : TT} {te : TE} {σ : St} {H1 : Hp} {Q : VK} (f : V → Option V) (hx : SqL K H1 a xs) (hz : xs.length ≤ 1000)
    (hs : ∀ x H (N : Option V → Hp → Prop), x ∈ xs → Same H1 H → (∀ H', Same H1 H' → N (f x) H') → g x (capt ix σ) H fun σ2 H2 => tt σ2 H2 fun b H3 => if b = true then te σ2 H3 fun v H4 => N (some v) H4 else N none H3)
    (hd : ∀ H p H', Same H1 H → New H p (.lst (xs.filterMap f)) H' → Q (.ref p) H') : LcGoal ix g tt te σ H1 Q (Itl K a) :=
  lc_fm f hx (Nat.le_of_lt (small1000 hz)) hs fun H p s hp => hd H p _ s (New.mk0 hp)
theorem lc_fmRN {lo : Int} {n : Nat} {ix : List (Option Nat)} {g : TG} {tt : TT} {te : TE} {σ : St} {H1 : Hp} {Q : VK} (f : Nat → Option V) (hz : n ≤ 1000)
    (hs : ∀ i H (N : Option V → Hp → Prop), i < n → Same H1 H → (∀ H', Same H1 H' → N (f i) H') → g (.int (lo + i)) (capt ix σ) H fun σ2 H2 => tt σ2 H2 fun b H3 => if b = true then te σ2 H3 fun v H4 => N (some v) H4 else N none H3)
    (hd : ∀ H p H', Same H1 H → New H p (.lst ((List.range n).filterMap f)) H' → Q (.ref p) H') : LcGoal ix g tt te σ H1 Q (Itr lo n) :=
  lc_fmR f (Nat.le_of_lt (small1000 hz)) hs fun H p s hp => hd H p _ s (New.mk0 hp)
end L2

/-! the law's own draws, as functions -/
namespace Lw
open PySem L2
theorem fm_some {α β : Type} {f : α → Option β} {g : α → β} : ∀ {l : List α}, (∀ x ∈ l, f x = some (g x)) → l.filterMap f = l.map g
  | [], _ => rfl
  | x :: r, h => by
    rw [List.filterMap_cons_some (h x List.mem_cons_self), List.map_cons, fm_some fun y hy => h y (List.mem_cons_of_mem _ hy)]
theorem fm_filter {f : V → Option V} {p : Int → Bool} : ∀ {ns : List Int}, (∀ v ∈ ns, f (.int v) = if p v = true then some (.int v) else none) → (ns.map V.int).filterMap f = (ns.filter p).map V.int
  | [], _ => rfl
  | v :: r, h => by
    have ih := fm_filter (f := f) (p := p) (ns := r) fun y hy => h y (List.mem_cons_of_mem _ hy)
    have hv := h v List.mem_cons_self
    rw [List.map_cons, List.filter_cons]
    by_cases c : p v = true
    · rw [if_pos c] at hv ⊢
      rw [List.filterMap_cons_some hv, ih]; rfl
    · rw [if_neg c] at hv ⊢
      rw [List.filterMap_cons_none hv, ih]
theorem at_ints {ns : List Int} {k : Int} (h0 : 0 ≤ k) (h : k < (ns.length : Int)) : atI (ns.map V.int) k = some (.int (ns.getD k.toNat 0)) := by
  have hk : k.toNat < ns.length := by omega
  have ek : k = ((k.toNat : Nat) : Int) := by omega
  have q : atI (ns.map V.int) ((k.toNat : Nat) : Int) = some (.int (ns.getD k.toNat 0)) := atI_nat (by
    rw [List.getElem?_map, List.getElem?_eq_getElem hk, List.getD_eq_getElem?_getD, List.getElem?_eq_getElem hk]; rfl)
  rw [← ek] at q
  exact q
/-- the script: frozen, or the module's own -/
def Scr (K : PySem.W.Frag) (H : Hp) (a : Addr) (ns : List Int) : Prop := (∃ o, H a = some (.frz o (.lst (ns.map V.int)))) ∨
  ∃ (o : Obj) (its : Array Value) (n : Nat), K.lookup a = some o ∧ o.cls = .type "list" ∧ o.dict = none ∧ o.data = .seq its n ∧ its.size ≤ sizeLine ∧ Vals (ns.map V.int) its.toList
theorem Scr.seq {K : PySem.W.Frag} {H : Hp} {a : Addr} {ns : List Int} (h : Scr K H a ns) : SqL K H a (ns.map V.int) := by
  rcases h with ⟨o, h⟩ | h
  · exact .inl (.inr ⟨o, h⟩)
  · exact .inr h
theorem Scr.of {K : PySem.W.Frag} {H : Hp} {a : Addr} {ns : List Int} (hO : Only H) (h : SqL K H a (ns.map V.int)) : Scr K H a ns := by
  rcases h with (h | ⟨o, h⟩) | h
  · rcases hO a with z | ⟨ob, xs, z⟩
    · rw [z] at h; cases h
    · rw [z] at h; cases h
  · exact .inl ⟨o, h⟩
  · exact .inr h
theorem Scr.same {K : PySem.W.Frag} {H H' : Hp} {a : Addr} {ns : List Int} (e : Same H H') (h : Scr K H a ns) : Scr K H' a ns := by
  rcases h with ⟨o, h⟩ | h
  · exact .inl ⟨o, e _ _ h⟩
  · exact .inr h
/-- the script, and law's promise -/
def spLaw (K : PySem.W.Frag) : Sp := fun vs H Q _ => ∃ (a : Addr) (ns : List Int), vs = [.ref a] ∧ Scr K H a ns ∧ ns.length ≤ 63 ∧ ∀ H', Q (.bl true) H'
end Lw

namespace L2
open PySem PySem.Spec PyProof.Rows
theorem dn_mk {K : PySem.W.Frag} {h : Heap} {mg : Str → Option Value} {x : Str} {st : Stmt} {ps : List Str} {f : Addr} {oc : Value} {od an : Option Addr} {osl : Array (Option Value)} {kV doc pm cdv ct : Value} (X : K.In h) (G : h.Ns mainGlobals mg)
    (a : PySem.W.nsIn K mainGlobals x = some (some (.ref f))) (l : K.lookup f = some ⟨oc, od, .func (PySem.W.fnOf x x (defArgs st) (defBody st) (defScope st) .none kV doc pm an cdv ct), osl⟩) (c : PySem.W.codeIn K cdv x = true) (k : PySem.W.keepIn K (.ref f) = true)
    (hb : ∀ (kV doc pm : Value) (an : Option Addr) (cdv ct : Value) (us : List Value), us.length = ps.length → bindArgs (PySem.W.fnOf x x (defArgs st) (defBody st) (defScope st) .none kV doc pm an cdv ct) ⟨us, []⟩ = pure (ps.zip us)) :
    Nonempty (Dn K mg x st ps) :=
  have F := fun_mk (st := st) l c k
  ⟨⟨f, _, F, F.binds hb, PySem.W.mg_of X G a, fun s us hl => .of_eq (hb _ _ _ _ _ _ us hl)⟩⟩
theorem bl_mk {K : PySem.W.Frag} {h : Heap} {mg : Str → Option Value} (X : K.In h) (G : h.Ns mainGlobals mg)
    (z1 : PySem.W.nsIn K mainGlobals "len" = some none) (z2 : PySem.W.nsIn K mainGlobals "range" = some none) (z3 : PySem.W.nsIn K mainGlobals "list" = some none) (z4 : PySem.W.nsIn K mainGlobals "isinstance" = some none) (z5 : PySem.W.nsIn K mainGlobals "int" = some none)
    (z6 : PySem.W.nsIn K mainGlobals "bool" = some none) (z7 : PySem.W.nsIn K mainGlobals "str" = some none) (z8 : PySem.W.nsIn K mainGlobals "all" = some none) (z9 : PySem.W.nsIn K mainGlobals "any" = some none) (z10 : PySem.W.nsIn K mainGlobals "sorted" = some none)
    (z11 : PySem.W.nsIn K mainGlobals "set" = some none) (z12 : PySem.W.nsIn K mainGlobals "min" = some none) (z13 : PySem.W.nsIn K mainGlobals "max" = some none) (z14 : PySem.W.nsIn K mainGlobals "tuple" = some none) (z15 : PySem.W.nsIn K mainGlobals "enumerate" = some none)
    (z16 : PySem.W.nsIn K mainGlobals "dict" = some none) (z17 : PySem.W.nsIn K mainGlobals "ValueError" = some none) : Bl mg := by
  refine ⟨fun x hx => ?_⟩
  simp only [List.mem_cons, List.not_mem_nil, or_false] at hx
  rcases hx with rfl | rfl | rfl | rfl | rfl | rfl | rfl | rfl | rfl | rfl | rfl | rfl | rfl | rfl | rfl | rfl | rfl
  · exact PySem.W.mg_none_of X G z1
  · exact PySem.W.mg_none_of X G z2
  · exact PySem.W.mg_none_of X G z3
  · exact PySem.W.mg_none_of X G z4
  · exact PySem.W.mg_none_of X G z5
  · exact PySem.W.mg_none_of X G z6
  · exact PySem.W.mg_none_of X G z7
  · exact PySem.W.mg_none_of X G z8
  · exact PySem.W.mg_none_of X G z9
  · exact PySem.W.mg_none_of X G z10
  · exact PySem.W.mg_none_of X G z11
  · exact PySem.W.mg_none_of X G z12
  · exact PySem.W.mg_none_of X G z13
  · exact PySem.W.mg_none_of X G z14
  · exact PySem.W.mg_none_of X G z15
  · exact PySem.W.mg_none_of X G z16
  · exact PySem.W.mg_none_of X G z17
/-- law's own call: the promise of a def d is the promise at its address -/
theorem law_at {P : Program} {w : World} {K : PySem.W.Frag} {mg : Str → Option Value} {fa : Addr} {st : Stmt} {k : Nat} {sp : Sp} {x : Str} (hfa : mg "law" = some (.ref fa)) (d : Dn K mg "law" st [x]) (F : ∀ base : Heap, FnOk P w K mg base CX0 k d.f d.fd [x] sp) :
    ∃ fd : FuncData, (∀ (s : Shared) (u : Value), BindsTo s fd ⟨[u], []⟩ [(x, u)]) ∧ ∀ base : Heap, K.In base → base.Ns mainGlobals mg → FnOk P w K mg base CX0 k fa fd [x] sp := by
  have e : fa = d.f := by
    have := hfa.symm.trans d.m
    have := Option.some.inj this
    cases this
    rfl
  subst e
  exact ⟨d.fd, fun s u => d.bd s [u] rfl, fun base _ _ => F base⟩
end L2

namespace L2
open PySem PySem.Spec PyProof.Rows
/-! ### for k, x in enumerate(xs) -/
def Ite (K : PySem.W.Frag) (a : Addr) : It :=
  ⟨fun i H => ∃ xs x, SqL K H a xs ∧ xs[i]? = some x, fun i H x H' => ∃ p y, x = .ref p ∧ New H p (.tup [.int i, y]) H' ∧ ∀ xs, SqL K H a xs → xs[i]? = some y, fun i H => ∃ xs, SqL K H a xs ∧ xs.length ≤ i⟩
theorem turn_enum {P : Program} {w : World} {K : PySem.W.Frag} {elts : List Expr} {k : Nat} {pos : Pos} (a it e : Addr) (hei : e ≠ it) : Turn P w K (.Tuple elts k pos) (Ite K a) [e, it] e (fun i h => (∃ old, IsEnum h e it i old) ∧ h.IsListIter it a i) where
  mem := by simp
  obj := fun i h st b hb => by
    obtain ⟨⟨old, he⟩, hit⟩ := st
    rcases List.mem_cons.mp hb with rfl | hb
    · exact ⟨_, he, fun v z => by
        have z' : Data.fields _ = Data.cell v := z
        cases z'⟩
    · rw [List.mem_singleton.mp hb]
      obtain ⟨o, e1, c, d⟩ := hit
      exact ⟨o, e1, fun v z => by rw [d] at z; cases z⟩
  keep := fun i h h' st kk => by
    obtain ⟨⟨old, he⟩, hit⟩ := st
    exact ⟨⟨old, kk e (by simp) _ he⟩, hit.at fun o q => kk it (by simp) o q⟩
  item := by
    intro X hP hw hK hc i pins s σ H E I hf st hg
    subst hP hw hK
    obtain ⟨xs, x, hq, hx⟩ := hg
    obtain ⟨its, rv, pl, hz⟩ := I.list hq
    obtain ⟨u, hu, ru⟩ := rv.get hx
    obtain ⟨⟨old, he⟩, hit⟩ := st
    obtain ⟨f0, f1, f2, f3, f4, f5⟩ := hf e (by simp)
    obtain ⟨g0, g1, g2, g3, g4, g5⟩ := hf it (by simp)
    refine wpAny_pyNext_enum_item he hit pl.isList (x := u) (by simpa using hu) hei fun h' ho hit' hT hsz hk => ?_
    refine ⟨_, rfl, wpAny_letOwnedTupleGo_enum ho fun h2 he2 hs2 => ?_⟩
    have eT : s.heap.objs.size ≠ e := Nat.ne_of_gt (Heap.lt_size he)
    have iT : s.heap.objs.size ≠ it := by
      obtain ⟨o, e1, _⟩ := hit
      exact Nat.ne_of_gt (Heap.lt_size e1)
    have hT2 : h2.get? s.heap.objs.size = some { cls := .type "tuple", data := .seq #[.int i s.toks, u] } := (hs2.2 _ eT).trans hT
    have kp : ∀ b o, b ≠ e → b ≠ it → s.heap.get? b = some o → h2.get? b = some o := fun b o h1 h2' q => (hs2.2 b h1).trans (hk b o h1 h2' q)
    have I1 : Inv X pins σ H { s with heap := h2, toks := s.toks + 1 } := by
      refine I.step (g' := s.gens) (d' := s.drawn) (H' := H) (ch := [e, it]) (fun b hb => ?_) (fun b o _ _ hc q _ => kp b o (fun z => hc (by simp [z])) (fun z => hc (by simp [z])) q) (fun b o _ _ hc q _ => ⟨o.slots, kp b o (fun z => hc (by simp [z])) (fun z => hc (by simp [z])) q⟩) (fun _ _ _ _ n => n)
        (fun b o hc q => ⟨o, kp b o (fun z => hc (by simp [z])) (fun z => hc (by simp [z])) q⟩) (fun _ _ q => q) (fun _ _ _ q => q) (fun b ps q => ⟨#[], by rw [q]; simp⟩) (fun m hm => ?_) (fun b o q => ?_) I.bare
      · rcases List.mem_cons.mp hb with rfl | hb
        · exact ⟨f3, f1, f4, f5⟩
        · rw [List.mem_singleton.mp hb]; exact ⟨g3, g1, g4, g5⟩
      · obtain ⟨o, es, ep, q, r⟩ := hm
        exact ⟨o, es, ep, kp _ o (Ne.symm f1) (Ne.symm g1) q, r⟩
      · have nb : ∀ c v, H c = some v → c ≠ e ∧ c ≠ it := fun c v q => ⟨ne_of_none q f0, ne_of_none q g0⟩
        refine (I.hok b o q).stay (fun c v hcc r => kp c v ?_ ?_ r) (fun _ q => q) fun _ _ q => q
        · rcases hcc with z | z
          · rw [z]; exact (nb b o q).1
          · exact (nb c _ z).1
        · rcases hcc with z | z
          · rw [z]; exact (nb b o q).2
          · exact (nb c _ z).2
    have hfree : H s.heap.objs.size = none := I.hok.fresh (Nat.le_refl _)
    have I2 : Inv X pins σ (upd H s.heap.objs.size (.tup [.int i, x])) { s with heap := h2, toks := s.toks + 1 } := by
      refine Inv.track I1 hfree I.sz (Nat.ne_of_gt I.lt) (fun y c q => ?_) (fun p hp => Nat.ne_of_lt (Heap.lt_size (I.pin p hp).1)) ?_
      · obtain ⟨v, oc, q1, _⟩ := I.cell y c q
        exact Nat.ne_of_lt (Heap.lt_size q1)
      · exact ⟨(by show 2 ≤ sizeLine; decide), [.int i s.toks, u], .cons ⟨_, rfl⟩ (.cons ru .nil), ⟨_, hT2, rfl, _, rfl⟩⟩
    refine ⟨.ref s.heap.objs.size, _, I2, rfl, ⟨_, x, rfl, New.mk0 hfree, fun ys hy => by rw [I.list_inj hy hq]; exact hx⟩, ⟨⟨u, ?_⟩, hit'.at fun o q => (hs2.2 it (Ne.symm hei)).trans q⟩, fun b hb => ?_⟩
    · have e1 : ((i + 1 : Nat) : Int) = (i : Int) + 1 := by omega
      show IsEnum h2 e it ((i + 1 : Nat) : Int) u
      rw [e1]; exact he2
    · rcases List.mem_cons.mp hb with rfl | hb
      · rw [upd_ne (Ne.symm eT)]; exact f0
      · rw [List.mem_singleton.mp hb, upd_ne (Ne.symm iT)]; exact g0
  done := by
    intro X hP hw hK hc i pins s σ H E I hf st hg
    subst hP hw hK
    obtain ⟨xs, hq, hx⟩ := hg
    obtain ⟨its, rv, pl, hz⟩ := I.list hq
    obtain ⟨⟨old, he⟩, hit⟩ := st
    obtain ⟨g0, g1, g2, g3, g4, g5⟩ := hf it (by simp)
    have hl := rv.length
    exact wpAny_pyNext_enum_end (I.ok.hd hc) he hit pl.isList (by simp; omega) fun h' eb => ⟨rfl, I.turned (t' := s.toks) (fun b o hb q => eb b o hb q) g0 g1 g3 g4 g5⟩
  self := fun _ _ _ _ _ st h => by
    obtain ⟨⟨old, he⟩, _⟩ := st
    exact wpAny_pyIter_enum he h
section
variable {X : Cx} {K : PySem.W.Frag}
def iEnum (K : PySem.W.Frag) (ta : TA) : TI := fun σ H R => ta σ H fun vs H1 => ∃ a, vs = [.ref a] ∧ (∃ xs, SqL K H1 a xs) ∧ R (Ite K a) H1
theorem pi_enum {elts : List Expr} {k : Nat} {tpos : Pos} {l : Expr} {ta : TA} {p pos : Pos} (e0 : X.K = K) (hg : Gl X "enumerate") (hm : X.mg "enumerate" = none) (ha : PA X [l] ta) (hs : starEach [l] X.env = [(false, eval l X.env)] := by rfl) :
    PI X (.Tuple elts k tpos) (.Call (.Name "enumerate" p) [l] [] pos) (iEnum K ta) := by
  subst e0
  intro pins s σ H R I h
  refine wpAny_Call_Name_kw (ld_blt I hg hm boot_enumerate ?_)
  refine PyProof.Rows.callWith_type1 (thn (ha pos pins s σ H _ I h) fun us s1 ⟨vs, H1, I1, r1, q1⟩ => ?_) hs (by rfl)
  obtain ⟨a, e, ⟨xs, hq⟩, q⟩ := q1
  subst e
  obtain ⟨u, rfl, ru⟩ := vals1 r1
  cases ru
  obtain ⟨its, rv, pl, hz⟩ := I1.list hq
  refine call_enumerate_list pl.isList fun h' he hit hsz hk => ?_
  refine wpAny_pyIter_enum he ?_
  have I2 : Inv X pins σ H1 { s1 with heap := h' } := I1.kept (t' := s1.toks) hk
  refine ⟨s1.heap.objs.size + 1, [s1.heap.objs.size + 1, s1.heap.objs.size], _, _, H1, rfl, I2, turn_enum a s1.heap.objs.size (s1.heap.objs.size + 1) (Nat.ne_of_gt (Nat.lt_succ_self _)), ⟨⟨_, he⟩, hit⟩, fun b hb => ?_, q⟩
  have hb' : s1.heap.objs.size ≤ b := by
    rcases List.mem_cons.mp hb with rfl | hb
    · exact Nat.le_succ _
    · rw [List.mem_singleton.mp hb]; exact Nat.le_refl _
  exact I1.fpOk hb' (I1.hok.fresh hb')
end
/-- over a list that the body leaves as it is -/
theorem for_enum {K : PySem.W.Frag} {a : Addr} {xs : List V} {g : TG} {tb : TS} {D : Ends} {σ : St} {H : Hp} (Pv : Nat → St → Hp → Prop) (h0 : Pv 0 σ H) (hl : ∀ i σ H, i ≤ xs.length → Pv i σ H → SqL K H a xs)
    (hs : ∀ (i : Nat) x σ H p H', xs[i]? = some x → Pv i σ H → New H p (.tup [.int i, x]) H' → g (.ref p) σ H' fun σ2 H2 => tb { D with nx := Pv (i + 1), ct := Pv (i + 1), bk := D.nx } σ2 H2) (hd : ∀ σ H, Pv xs.length σ H → D.nx σ H) :
    ∃ W : Nat → Nat → St → Hp → Prop, (∃ m, W 0 m σ H) ∧ ∀ i m σ H, W i m σ H →
      ((Ite K a).stop i H ∧ D.nx σ H) ∨ ((Ite K a).go i H ∧ ∃ N : St → Hp → Prop, (∀ σ' H', N σ' H' → ∃ m', m' < m ∧ W (i + 1) m' σ' H') ∧ ∀ x H', (Ite K a).yld i H x H' → g x σ H' fun σ2 H2 => tb { D with nx := N, ct := N, bk := D.nx } σ2 H2) := by
  refine ⟨fun i m σ H => m = xs.length - i ∧ i ≤ xs.length ∧ Pv i σ H, ⟨xs.length, by simp, Nat.zero_le _, h0⟩, ?_⟩
  rintro i m σ H ⟨rfl, hi, p⟩
  have q := hl i σ H hi p
  by_cases hlt : i < xs.length
  · refine .inr ⟨⟨xs, xs[i], q, by simp [hlt]⟩, Pv (i + 1), fun σ' H' p' => ⟨xs.length - (i + 1), by omega, rfl, hlt, p'⟩, fun x H' y => ?_⟩
    obtain ⟨pp, y0, rfl, nw, ex⟩ := y
    exact hs i y0 σ H pp H' (ex xs q) p nw
  · have e : i = xs.length := by omega
    subst e
    exact .inl ⟨⟨xs, q, Nat.le_refl _⟩, hd σ H p⟩
/-- a comprehension over enumerate, by a function of the place and the item -/
theorem lc_enum {K : PySem.W.Frag} {a : Addr} {xs : List V} {ix : List (Option Nat)} {g : TG} {tt : TT} {te : TE} {σ : St} {H1 : Hp} {Q : VK} (f : Nat → V → Option V) (hx : SqL K H1 a xs) (hz : xs.length ≤ 1000)
    (hs : ∀ (i : Nat) x H p H0 (N : Option V → Hp → Prop), xs[i]? = some x → Same H1 H → New H p (.tup [.int i, x]) H0 → (∀ H', Same H1 H' → N (f i x) H') → g (.ref p) (capt ix σ) H0 fun σ2 H2 => tt σ2 H2 fun b H3 => if b = true then te σ2 H3 fun v H4 => N (some v) H4 else N none H3)
    (hd : ∀ H p H', Same H1 H → New H p (.lst ((List.range xs.length).filterMap fun i => (xs[i]?).bind (f i))) H' → Q (.ref p) H') : LcGoal ix g tt te σ H1 Q (Ite K a) := by
  refine ⟨fun i m ys H => m = xs.length - i ∧ i ≤ xs.length ∧ ys = (List.range i).filterMap (fun i => (xs[i]?).bind (f i)) ∧ Same H1 H, ⟨xs.length, by simp, Nat.zero_le _, rfl, Same.refl _⟩, ?_⟩
  rintro i m ys H ⟨rfl, hi, e, s⟩
  have zy : ys.length ≤ sizeLine := by
    rw [e]
    refine Nat.le_trans (List.length_filterMap_le _ _) ?_
    rw [List.length_range]; exact Nat.le_trans hi (Nat.le_of_lt (small1000 hz))
  have q := s.seq hx
  by_cases hlt : i < xs.length
  · refine .inr ⟨⟨xs, xs[i], q, by simp [hlt]⟩, zy, fun ys' H' => ys' = (List.range (i + 1)).filterMap (fun i => (xs[i]?).bind (f i)) ∧ Same H1 H', fun ys' H' ⟨e', s'⟩ => ⟨xs.length - (i + 1), by omega, rfl, hlt, e', s'⟩, fun x H' y => ?_⟩
    obtain ⟨pp, y0, rfl, nw, ex⟩ := y
    have ey := ex xs q
    refine hs i y0 H pp H' (fun o H' => match o with | some v => (ys ++ [v] = (List.range (i + 1)).filterMap (fun i => (xs[i]?).bind (f i)) ∧ Same H1 H') | none => (ys = (List.range (i + 1)).filterMap (fun i => (xs[i]?).bind (f i)) ∧ Same H1 H')) ey s nw fun H' s' => ?_
    cases ef : f i y0 with
    | some v =>
      refine ⟨?_, s'⟩
      rw [e, List.range_succ, List.filterMap_append]
      simp [ey, ef]
    | none =>
      refine ⟨?_, s'⟩
      rw [e, List.range_succ, List.filterMap_append]
      simp [ey, ef]
  · have e' : i = xs.length := by omega
    subst e'
    refine .inl ⟨⟨xs, q, Nat.le_refl _⟩, zy, fun p hp => ?_⟩
    subst e
    exact hd H p _ s (New.mk0 hp)
/-- a comprehension over a list, by a function of the place -/
theorem lc_ixN {K : PySem.W.Frag} {a : Addr} {xs : List V} {ix : List (Option Nat)} {g : TG} {tt : TT} {te : TE} {σ : St} {H1 : Hp} {Q : VK} (f : Nat → Option V) (hx : SqL K H1 a xs) (hz : xs.length ≤ 1000)
    (hs : ∀ (i : Nat) x H (N : Option V → Hp → Prop), xs[i]? = some x → Same H1 H → (∀ H', Same H1 H' → N (f i) H') → g x (capt ix σ) H fun σ2 H2 => tt σ2 H2 fun b H3 => if b = true then te σ2 H3 fun v H4 => N (some v) H4 else N none H3)
    (hd : ∀ H p H', Same H1 H → New H p (.lst ((List.range xs.length).filterMap f)) H' → Q (.ref p) H') : LcGoal ix g tt te σ H1 Q (Itl K a) := by
  refine lc_list (K := K) (a := a) (xs := xs) (fun i ys H => ys = (List.range i).filterMap f ∧ Same H1 H) ⟨rfl, Same.refl _⟩ (fun i ys H hi ⟨e, s⟩ => ⟨s.seq hx, ?_⟩) (fun i x ys H hi ⟨e, s⟩ => ?_) fun ys H ⟨e, s⟩ p hp => ?_
  · subst e
    refine Nat.le_trans (List.length_filterMap_le _ _) ?_
    rw [List.length_range]; exact Nat.le_trans hi (Nat.le_of_lt (small1000 hz))
  · refine hs i x H (fun o H' => match o with | some v => (ys ++ [v] = (List.range (i + 1)).filterMap f ∧ Same H1 H') | none => (ys = (List.range (i + 1)).filterMap f ∧ Same H1 H')) hi s fun H' s' => ?_
    cases ef : f i with
    | some v =>
      refine ⟨?_, s'⟩
      rw [e, List.range_succ, List.filterMap_append]
      simp [ef]
    | none =>
      refine ⟨?_, s'⟩
      rw [e, List.range_succ, List.filterMap_append]
      simp [ef]
  · subst e
    exact hd H p _ s (New.mk0 hp)
end L2

/-! the program's answers as functions, and how rows and graphs lie in the heap -/
namespace Bg
open PySem L2 Lw
def belowF (n : Int) : Option Int → Bool
  | none => false
  | some i => decide (0 ≤ i ∧ i < n)
inductive Flt where
  | ok | row (k : Nat) | place (v : Nat) | tie (a b : Int) | apart (v j k : Nat)
  deriving DecidableEq
/-! ### in the heap -/
def upV : Option Int → V
  | none => .non
  | some i => .int i
def TieV (K : PySem.W.Frag) (H : Hp) (v : V) (t : Int × Int) : Prop := ∃ p, v = .ref p ∧ SqT K H p [.int t.1, .int t.2]
def TiesAt (K : PySem.W.Frag) (H : Hp) (a : Addr) (ts : List (Int × Int)) : Prop := ∃ xs, SqL K H a xs ∧ Paired (TieV K H) xs ts ∧ ts.length ≤ 1000
def GraphV (K : PySem.W.Frag) (H : Hp) (v : V) (n : Int) (ts : List (Int × Int)) : Prop := ∃ p a, v = .ref p ∧ SqT K H p [.int n, .ref a] ∧ TiesAt K H a ts
theorem TiesAt.same {K : PySem.W.Frag} {H H' : Hp} {a : Addr} {ts : List (Int × Int)} (e : Same H H') (h : TiesAt K H a ts) : TiesAt K H' a ts := by
  obtain ⟨xs, h1, h2, h3⟩ := h
  exact ⟨xs, e.seq h1, Paired.mapP h2 fun _ _ ⟨p, q1, q2⟩ => ⟨p, q1, e.tupq q2⟩, h3⟩
theorem GraphV.same {K : PySem.W.Frag} {H H' : Hp} {v : V} {n : Int} {ts : List (Int × Int)} (e : Same H H') (h : GraphV K H v n ts) : GraphV K H' v n ts := by
  obtain ⟨p, a, h1, h2, h3⟩ := h
  exact ⟨p, a, h1, e.tupq h2, h3.same e⟩
theorem paired_get {α β : Type} {F : α → β → Prop} : ∀ {xs : List α} {ys : List β} {i : Nat} {x : α}, Paired F xs ys → xs[i]? = some x → ∃ y, ys[i]? = some y ∧ F x y
  | _, _, _, _, .nil, h => by simp at h
  | _, _, 0, _, .cons h r, e => by
    simp at e; subst e
    exact ⟨_, rfl, h⟩
  | _, _, i + 1, _, .cons h r, e => by
    obtain ⟨d, e1, q⟩ := paired_get (i := i) r (by simpa using e)
    exact ⟨d, by simpa using e1, q⟩
theorem paired_getr {α β : Type} {F : α → β → Prop} : ∀ {xs : List α} {ys : List β} {i : Nat} {y : β}, Paired F xs ys → ys[i]? = some y → ∃ x, xs[i]? = some x ∧ F x y
  | _, _, _, _, .nil, h => by simp at h
  | _, _, 0, _, .cons h r, e => by
    simp at e; subst e
    exact ⟨_, rfl, h⟩
  | _, _, i + 1, _, .cons h r, e => by
    obtain ⟨d, e1, q⟩ := paired_getr (i := i) r (by simpa using e)
    exact ⟨d, by simpa using e1, q⟩
/-! ### data -/
theorem any_int (ns : List Int) (v : Int) : (ns.map PyData.int).any (fun e => PyData.eqv e (.int v)) = decide (v ∈ ns) := by
  induction ns with
  | nil => rfl
  | cons a r ih =>
    rw [List.map_cons, List.any_cons, ih, PyData.eqv]
    by_cases h : a = v
    · subst h; simp
    · have h' : ¬ v = a := fun z => h z.symm
      simp [h, h']
theorem depth_ints (ns : List Int) : PyData.depthAll (ns.map PyData.int) = 0 := by
  induction ns with
  | nil => rfl
  | cons a r ih => rw [List.map_cons, PyData.depthAll, ih]; rfl
theorem can_ints (ns : List Int) : PyData.canLayAll0 (ns.map PyData.int) = true := by
  induction ns with
  | nil => rfl
  | cons a r ih => rw [List.map_cons, PyData.canLayAll0, ih]; rfl
theorem shaped_ints (ns : List Int) : SeqAt.shaped (.list (ns.map PyData.int)) = true := by
  unfold SeqAt.shaped
  rw [PyData.canLay0, can_ints, PyData.depth, depth_ints]
  decide
theorem eqv_ints (ns ms : List Int) : PyData.eqv (.list (ns.map PyData.int)) (.list (ms.map PyData.int)) = decide (ns = ms) := by
  rw [PyData.eqv]
  exact PySem.W.ked_eqvAll ns ms
/-- v in a list of ints -/
theorem inInts {K : PySem.W.Frag} {H : Hp} {b : Addr} {ns : List Int} {v : Int} {Q : VK} (hS : SqL K H b (ns.map V.int)) (q : Q (.bl (decide (v ∈ ns))) H) : rInD K false (.int v) (.ref b) H Q :=
  ⟨_, _, .int v, .lst hS (IsDs.ints ns), rfl, shaped_ints ns, by rw [any_int]; exact q⟩
theorem notInInts {K : PySem.W.Frag} {H : Hp} {b : Addr} {ns : List Int} {v : Int} {Q : VK} (hS : SqL K H b (ns.map V.int)) (q : Q (.bl (!decide (v ∈ ns))) H) : rInD K true (.int v) (.ref b) H Q :=
  ⟨_, _, .int v, .lst hS (IsDs.ints ns), rfl, shaped_ints ns, by rw [any_int]; exact q⟩
end Bg

namespace L2
open PySem PySem.Spec PyProof.Rows
def rSetN : V → V → V → Hp → (Hp → Prop) → Prop := fun o i v H Q => ∃ p xs k j, o = .ref p ∧ i = .int k ∧ H p = some (.lst xs) ∧ ixN xs.length k = some j ∧ ∀ H', Chg H p (.lst (xs.set j v)) H' → Q H'
theorem set_listN {X : Cx} : PSet X rSetN := fun pins s σ H o i v ov iv u Q I ro ri rv ⟨p, xs, k, j, e1, e2, h1, h2, q⟩ => set_list pins s σ H o i v ov iv u Q I ro ri rv ⟨p, xs, k, j, e1, e2, h1, h2, q _ Chg.mk0⟩
theorem ixN_nat {n j : Nat} (h : j < n) : ixN n (j : Int) = some j := by
  unfold ixN
  rw [if_pos (by omega), if_pos (by omega)]; simp
theorem Same.chg {H H' : Hp} {l : Addr} {o : HO} {H0 : Hp} (s : Same H0 H) (h0 : H0 l = none) (c : Chg H l o H') : Same H0 H' := fun b u e => (c.rest b (ne_of_none e h0)).trans (s b u e)
end L2
namespace Bg
open PySem L2 Lw
/-! ### sets of places -/
/-! ### rows and ties as they are made -/
def TieL (H : Hp) (v : V) (t : Int × Int) : Prop := ∃ p, v = .ref p ∧ H p = some (.tup [.int t.1, .int t.2])
theorem TieL.v {K : PySem.W.Frag} {H : Hp} {v : V} {t : Int × Int} (h : TieL H v t) : TieV K H v t := by
  obtain ⟨p, e, q⟩ := h
  exact ⟨p, e, SqT.of q⟩
theorem TieL.same {H H' : Hp} {v : V} {t : Int × Int} (s : Same H H') (h : TieL H v t) : TieL H' v t := by
  obtain ⟨p, e, q⟩ := h
  exact ⟨p, e, s _ _ q⟩
theorem TieL.chg {H H' : Hp} {l : Addr} {xs ys : List V} {v : V} {t : Int × Int} (hl : H l = some (.lst xs)) (c : Chg H l (.lst ys) H') (h : TieL H v t) : TieL H' v t := by
  obtain ⟨p, e, q⟩ := h
  exact ⟨p, e, (c.rest p (ne_of q hl (by intro z; cases z))).trans q⟩
theorem paired_snoc {α β : Type} {F : α → β → Prop} : ∀ {xs : List α} {ys : List β} {x : α} {y : β}, Paired F xs ys → F x y → Paired F (xs ++ [x]) (ys ++ [y])
  | _, _, _, _, .nil, h => .cons h .nil
  | _, _, _, _, .cons h r, q => .cons h (paired_snoc r q)
/-! ### data -/
def tieD (t : Int × Int) : PyData := .tuple [.int t.1, .int t.2]
theorem TieV.isD {K : PySem.W.Frag} {H : Hp} {v : V} {t : Int × Int} (h : TieV K H v t) : IsD K H v (tieD t) := by
  obtain ⟨p, rfl, q1⟩ := h
  exact .tup q1 (.cons (.int _) (.cons (.int _) .nil))
theorem isDs_of {K : PySem.W.Frag} {H : Hp} {α : Type} {F : V → α → Prop} {f : α → PyData} (hf : ∀ v x, F v x → IsD K H v (f x)) : ∀ {xs : List V} {ys : List α}, Paired F xs ys → IsDs K H xs (ys.map f)
  | _, _, .nil => .nil
  | _, _, .cons h r => .cons (hf _ _ h) (isDs_of hf r)
def tiesD (ts : List (Int × Int)) : PyData := .list (ts.map tieD)
theorem TiesAt.isD {K : PySem.W.Frag} {H : Hp} {a : Addr} {ts : List (Int × Int)} (h : TiesAt K H a ts) : IsD K H (.ref a) (tiesD ts) := by
  obtain ⟨xs, h1, h2, _⟩ := h
  exact .lst h1 (isDs_of (fun v x q => q.isD) h2)
def webD (n : Int) (ts : List (Int × Int)) : PyData := .tuple [.int n, tiesD ts]
theorem GraphV.isD {K : PySem.W.Frag} {H : Hp} {v : V} {n : Int} {ts : List (Int × Int)} (h : GraphV K H v n ts) : IsD K H v (webD n ts) := by
  obtain ⟨p, a, rfl, q1, q2⟩ := h
  exact .tup q1 (.cons (.int _) (.cons q2.isD .nil))
theorem can_all {α : Type} {f : α → PyData} (h : ∀ x, (f x).canLay0 = true) : ∀ l : List α, PyData.canLayAll0 (l.map f) = true
  | [] => rfl
  | x :: r => by rw [List.map_cons, PyData.canLayAll0, h x, can_all h r]; rfl
theorem depth_all {α : Type} {f : α → PyData} {k : Nat} (h : ∀ x, (f x).depth ≤ k) : ∀ l : List α, PyData.depthAll (l.map f) ≤ k
  | [] => Nat.zero_le _
  | x :: r => by
    rw [List.map_cons, PyData.depthAll]
    exact Nat.max_le.mpr ⟨h x, depth_all h r⟩
theorem can_tie (t : Int × Int) : (tieD t).canLay0 = true := rfl
theorem depth_tie (t : Int × Int) : (tieD t).depth ≤ 1 := by
  unfold tieD
  simp [PyData.depth, PyData.depthAll]
theorem shaped_ties (ts : List (Int × Int)) : SeqAt.shaped (tiesD ts) = true := by
  unfold SeqAt.shaped tiesD
  rw [PyData.canLay0, can_all can_tie, PyData.depth, Bool.true_and]
  exact decide_eq_true (by have := depth_all depth_tie ts; omega)
theorem shaped_web (n : Int) (ts : List (Int × Int)) : SeqAt.shaped (webD n ts) = true := by
  have h := shaped_ties ts
  unfold SeqAt.shaped at h ⊢
  rw [Bool.and_eq_true] at h
  have h2 : (tiesD ts).depth ≤ 2 := by
    unfold tiesD
    rw [PyData.depth]
    have := depth_all depth_tie ts; omega
  unfold webD
  rw [PyData.canLay0, PyData.canLayAll0, PyData.canLayAll0, h.1, PyData.depth, PyData.depthAll, PyData.depthAll, PyData.depthAll, PyData.depth]
  simp only [PyData.canLay0, PyData.canLayAll0, Bool.and_true, Bool.true_and]
  refine decide_eq_true ?_
  omega
theorem eqv_self {d : PyData} (h : SeqAt.shaped d = true) : PyData.eqv d d = true := SeqAt.eqv_refl d (SeqAt.canLay_of_shaped h)
end Bg

set_option maxHeartbeats 4100000
namespace L2
open PySem PySem.Spec PyProof.Rows
section
variable {X : Cx} {K : PySem.W.Frag} {a b : Expr} {rest : List Expr} {pos : Pos} {ta tb : TE}
/-- a or b, as values, by their truth -/
def tOrL (K : PySem.W.Frag) (ta tb : TE) : TE := fun σ H Q => ta σ H fun x H1 => ∃ k, TruV K x H1 k ∧ if k = true then Q x H1 else tb σ H1 Q
theorem pe_orL (e : X.K = K) (ha : PE X a ta) (hb : PE X (.BoolOp .Or (b :: rest) pos) tb) : PE X (.BoolOp .Or (a :: b :: rest) pos) (tOrL K ta tb) := by
  subst e
  intro pins s σ H Q I h
  refine BoolOp_or (thn (ha pins s σ H _ I h) fun v s1 ⟨x, H1, I1, r1, q1⟩ => ?_)
  obtain ⟨k, tk, q1⟩ := q1
  refine thn (tru_ok pins s1 σ H1 x v (fun c H2 => c = k ∧ H2 = H1) I1 r1 ⟨k, tk, rfl, rfl⟩) fun c s2 ⟨H2, I2, q2⟩ => ?_
  obtain ⟨rfl, rfl⟩ := q2
  cases c with
  | true => exact ⟨x, H2, I2, r1, q1⟩
  | false => exact hb pins s2 σ H2 Q I2 q1
def rBoolL (K : PySem.W.Frag) : List V → Hp → VK → Prop := fun xs H Q => ∃ p ys, xs = [.ref p] ∧ SqL K H p ys ∧ Q (.bl (!ys.isEmpty)) H
theorem bool_new_meets (x : Value) : Meets (Builtin.«bool.__new__» ⟨[.type "bool", x], []⟩) (fun _ R s => ∃ (c : Bool) (tk : Nat), (∀ (prog : Program) (w : World) (A' : Around) (E' : Value → Shared → Prop) (Q' : Bool → Shared → Prop), Q' c { s with toks := tk } → wpAny (model prog w) A' (truthy x) Q' E' s) ∧ R (.ok (.ret (.bool c))) { s with toks := tk }) :=
  Meets.of_wp fun prog w A R s hs => by
    obtain ⟨c, tk, ht, hr⟩ := hs
    have f1 := F.conv_sub_bool
    obtain ⟨hp, g, d, tk0, os⟩ := s
    repeat (any_goals (first | assumption | (with_reducible refine ht _ _ _ _ _ ?_) | wp_step))
    all_goals first | exact ⟨_, rfl, hr⟩ | exact hr | skip
theorem call_boolL (e : X.K = K) : CallR X (.type "bool") (rBoolL K) := by
  subst e
  intro pins s σ H xs us Q I r h
  obtain ⟨p, ys, rfl, hL, q⟩ := h
  obtain ⟨u, rfl, rx⟩ := vals1 r
  cases rx
  obtain ⟨its, r', pl, hz⟩ := I.list hL
  have hlen := r'.length
  have hl := line63
  refine call_bool_1 (bool_new_meets (.ref p)) ⟨!its.toArray.isEmpty, s.toks + 1 + 1, fun prog w A' E' Q' q' => wpAny_truthy_list pl.isList (by simp only [List.size_toArray]; omega) q', ?_⟩
  refine (show wants (fun obj s₁ => s₁.TypeIs obj "bool" ∧ EP X pins σ Q obj s₁) _ _ _ from ⟨rfl, .bl (!its.toArray.isEmpty), H, I.tok _, rfl, ?_⟩)
  rw [isEmpty_of r']
  exact q
end
end L2

set_option maxHeartbeats 4100000
namespace L2
open PySem PySem.Spec PyProof.Rows
section
variable {K : PySem.W.Frag} {a : Addr} {xs : List V} {ix : List (Option Nat)} {g : TG} {tt : TT} {te : TE} {σ : St} {H1 : Hp} {Q : VK}
/-- a list comprehension over a tuple, by a function of the item -/
theorem lc_fmTN (f : V → Option V) (hx : SqT K H1 a xs) (hz : xs.length ≤ 1000)
    (hs : ∀ x H (N : Option V → Hp → Prop), x ∈ xs → Same H1 H → (∀ H', Same H1 H' → N (f x) H') → g x (capt ix σ) H fun σ2 H2 => tt σ2 H2 fun b H3 => if b = true then te σ2 H3 fun v H4 => N (some v) H4 else N none H3)
    (hd : ∀ H p H', Same H1 H → New H p (.lst (xs.filterMap f)) H' → Q (.ref p) H') : LcGoal ix g tt te σ H1 Q (Itt K a) := by
  refine ⟨fun i m ys H => m = xs.length - i ∧ i ≤ xs.length ∧ ys = (xs.take i).filterMap f ∧ Same H1 H, ⟨xs.length, by simp, Nat.zero_le _, rfl, Same.refl _⟩, ?_⟩
  rintro i m ys H ⟨rfl, hi, e, s⟩
  have q := s.tupq hx
  have z : ys.length ≤ sizeLine := by
    subst e
    refine Nat.le_trans (List.length_filterMap_le _ _) (Nat.le_trans ?_ (Nat.le_of_lt (small1000 hz)))
    rw [List.length_take]; exact Nat.min_le_right _ _
  by_cases hlt : i < xs.length
  · refine .inr ⟨⟨xs, xs[i], q, by simp [hlt]⟩, z, fun ys' H' => ys' = (xs.take (i + 1)).filterMap f ∧ Same H1 H', fun ys' H' p' => ⟨xs.length - (i + 1), by omega, rfl, hlt, p'⟩, fun x H' y => ?_⟩
    obtain ⟨e', y⟩ := y
    subst e'
    have hx' := y xs q
    have hm : x ∈ xs := List.mem_of_getElem? hx'
    obtain ⟨hil, hix⟩ := List.getElem?_eq_some_iff.mp hx'
    have et : xs.take (i + 1) = xs.take i ++ [x] := by rw [List.take_succ_eq_append_getElem hil, hix]
    refine hs x _ (fun o H' => match o with | some v => (ys ++ [v] = (xs.take (i + 1)).filterMap f ∧ Same H1 H') | none => (ys = (xs.take (i + 1)).filterMap f ∧ Same H1 H')) hm s fun H' s' => ?_
    cases ef : f x with
    | some v => exact ⟨by rw [e, et, List.filterMap_append]; simp [ef], s'⟩
    | none => exact ⟨by rw [e, et, List.filterMap_append]; simp [ef], s'⟩
  · have ei : i = xs.length := by omega
    subst ei
    refine .inl ⟨⟨xs, q, Nat.le_refl _⟩, z, fun p hp => ?_⟩
    subst e
    rw [List.take_length]
    exact hd H p _ s (New.mk0 hp)
end
section
variable {X : Cx} {K : PySem.W.Frag}
end
end L2

namespace Srt
open PySem PySem.W PyProof.Rows
section
variable {n : Nat} {key : Nat → Int} {α β : Type}
end
end Srt

set_option maxHeartbeats 4100000
namespace Srt
open PySem PyProof.Rows PySem.Calls PySem.W
section
variable {prog : Program} {wo : World} {A : Around} {E : Value → Shared → Prop} {s : Shared}
end
end Srt

set_option maxHeartbeats 4100000
namespace Srt
open PySem PyProof.Rows PySem.Calls PySem.W
/-! ### lists of ints by their order: a rank -/
/-! ### tuples of ints -/
section
variable {prog : Program} {w : World} {A : Around} {E : Value → Shared → Prop} {s : Shared} {Q : Bool → Shared → Prop}
end
end Srt

set_option maxHeartbeats 4100000
namespace L2
open PySem PySem.Spec PyProof.Rows Bg Srt
theorem ints_of : ∀ {ns : List Int} {us : List Value}, Vals (ns.map V.int) us → IntsAre us ns
  | [], _, .nil => .nil
  | n :: ns, _, .cons r t => by
    obtain ⟨k, rfl⟩ := r
    exact .cons n k (ints_of t)
section
variable {X : Cx} {K : PySem.W.Frag}
end
end L2

set_option maxHeartbeats 4100000
namespace Srt
open PySem PySem.W PySem.Calls PySem.Spec PyProof.Rows PySem.MeetsSeq
end Srt

namespace L2
open PySem PySem.Spec PyProof.Rows Srt
section
variable {X : Cx} {K : PySem.W.Frag}
end
end L2

set_option maxHeartbeats 4100000
namespace L2
open PySem PySem.Spec PyProof.Rows
section
variable {X : Cx} {K : PySem.W.Frag}
end
end L2

set_option maxHeartbeats 4100000
namespace L2
open PySem PySem.Spec PyProof.Rows

section
variable {prog : Program} {w : World} {A : Around} {R : Result → Shared → Prop} {I : Addr} {fp wr : List Addr} {n : Nat} {P : Nat → Value → Prop} {St : Nat → Heap → Prop} {kw : List (Str × Value)}
end
section
variable {prog : Program} {w : World} {A : Around} {E : Value → Shared → Prop} {s : Shared} {xs : Array (Int × Tok)} {l : Addr}
end
section
variable {X : Cx} {K : PySem.W.Frag}
end
end L2

namespace L2
open PySem PySem.Spec PyProof.Rows
section
variable {X : Cx}
/-- m.bit_length() -/
def rBits : V → List V → Hp → VK → Prop := fun x vs H Q => ∃ m : Nat, x = .int (m : Int) ∧ vs = [] ∧ Q (.int ((Builtin.Int.intBits (m : Int) : Nat) : Int)) H
theorem mt_bits : MtR X "int.bit_length" rBits := by
  intro pins s σ H x xs v us Q I rx rs h
  obtain ⟨m, rfl, rfl, q⟩ := h
  obtain ⟨t, rfl⟩ := (show ∃ t, v = Value.int (m : Int) t from rx)
  cases rs
  exact call_int_bit_length ⟨.int _, H, I.tok _, ⟨_, rfl⟩, q⟩
end
theorem and_nat (a b : Nat) : Builtin.bitAnd (a : Int) (b : Int) = ((a &&& b : Nat) : Int) := by
  unfold Builtin.bitAnd
  simp
theorem or_nat (a b : Nat) : Builtin.bitOr (a : Int) (b : Int) = ((a ||| b : Nat) : Int) := by
  unfold Builtin.bitOr Builtin.bitAnd Builtin.bitNot
  rw [decide_eq_false (show ¬ (0 : Int) ≤ -(a : Int) - 1 by omega), decide_eq_false (show ¬ (0 : Int) ≤ -(b : Int) - 1 by omega)]
  dsimp only
  rw [show (-(-(a : Int) - 1) - 1).toNat = a by omega, show (-(-(b : Int) - 1) - 1).toNat = b by omega]
  omega
theorem bits_le {m k : Nat} (h : m < 2 ^ k) : Builtin.Int.intBits (m : Int) ≤ k := by
  unfold Builtin.Int.intBits
  split
  · exact Nat.zero_le _
  · rename_i c
    have hm : m ≠ 0 := fun z => c (by rw [z]; rfl)
    rw [Int.natAbs_natCast]
    exact (Nat.log2_lt hm).mpr h
theorem bits_test {m v : Nat} (h : m.testBit v = true) : v < Builtin.Int.intBits (m : Int) := by
  unfold Builtin.Int.intBits
  have hm : m ≠ 0 := fun z => by rw [z] at h; simp at h
  have hc : ¬ (((m : Int) == 0) = true) := by simpa using hm
  rw [if_neg hc, Int.natAbs_natCast]
  have := Nat.ge_two_pow_of_testBit h
  exact Nat.lt_succ_of_le ((Nat.le_log2 hm).mpr this)
/-- the places of a mask -/
def placesF (m : Nat) : List Nat := (List.range 10).filter (m.testBit ·)
theorem places_bits {m : Nat} (h : m < 2 ^ 10) : (List.range (Builtin.Int.intBits (m : Int))).filter (m.testBit ·) = placesF m := by
  unfold placesF
  have hk := bits_le h
  obtain ⟨d, ed⟩ : ∃ d, 10 = Builtin.Int.intBits (m : Int) + d := ⟨10 - Builtin.Int.intBits (m : Int), by omega⟩
  rw [ed, List.range_add, List.filter_append]
  have : ((List.range d).map (fun x => Builtin.Int.intBits (m : Int) + x)).filter (m.testBit ·) = [] := by
    rw [List.filter_eq_nil_iff]
    intro x hx hb
    obtain ⟨y, _, rfl⟩ := List.mem_map.mp hx
    have := bits_test hb
    omega
  rw [this, List.append_nil]
theorem and_bit (m v : Nat) : (m &&& 2 ^ v = 0) ↔ m.testBit v = false := by
  constructor
  · intro h
    have : (m &&& 2 ^ v).testBit v = false := by rw [h]; simp
    rw [Nat.testBit_and, Nat.testBit_two_pow_self, Bool.and_true] at this
    exact this
  · intro h
    refine Nat.eq_of_testBit_eq fun i => ?_
    rw [Nat.testBit_and, Nat.zero_testBit, Nat.testBit_two_pow]
    by_cases c : v = i
    · subst c; rw [h]; rfl
    · rw [decide_eq_false c, Bool.and_false]
theorem sub_bit {m v : Nat} (h : m.testBit v = true) : ∀ u, (m - 2 ^ v).testBit u = (m.testBit u && !decide (u = v)) := by
  induction v generalizing m with
  | zero =>
    intro u
    have h1 : m % 2 = 1 := by rw [Nat.testBit_zero] at h; exact of_decide_eq_true h
    cases u with
    | zero =>
      rw [Nat.testBit_zero, Nat.testBit_zero]
      have : (m - 2 ^ 0) % 2 = 0 := by omega
      rw [this]; simp
    | succ u =>
      rw [Nat.testBit_succ, Nat.testBit_succ]
      have : (m - 2 ^ 0) / 2 = m / 2 := by omega
      rw [this]; simp
  | succ v ih =>
    intro u
    rw [Nat.testBit_succ] at h
    have le : 2 ^ v ≤ m / 2 := Nat.ge_two_pow_of_testBit h
    have e2 : 2 ^ (v + 1) = 2 * 2 ^ v := by rw [Nat.pow_succ, Nat.mul_comm]
    cases u with
    | zero =>
      rw [Nat.testBit_zero, Nat.testBit_zero]
      have : (m - 2 ^ (v + 1)) % 2 = m % 2 := by omega
      rw [this]; simp
    | succ u =>
      rw [Nat.testBit_succ, Nat.testBit_succ]
      have : (m - 2 ^ (v + 1)) / 2 = m / 2 - 2 ^ v := by omega
      rw [this, ih h u]
      simp
/-- bags as masks: which place is in which bag -/
structure BagsM (n : Nat) (ms : List Nat) (R : Nat → Nat → Bool) : Prop where
  len : ms.length = n
  n10 : n ≤ 10
  lt : ∀ m ∈ ms, m < 2 ^ 10
  bit : ∀ v < n, ∀ u, (ms.getD v 0).testBit u = R v u
  far : ∀ v u, R v u = true → v < n ∧ u < n
theorem BagsM.get {n : Nat} {ms : List Nat} {R : Nat → Nat → Bool} (b : BagsM n ms R) {v : Nat} (h : v < n) : ms[v]? = some (ms.getD v 0) := by
  have : v < ms.length := by rw [b.len]; exact h
  rw [List.getD_eq_getElem?_getD, List.getElem?_eq_getElem this]; rfl
theorem BagsM.mlt {n : Nat} {ms : List Nat} {R : Nat → Nat → Bool} (b : BagsM n ms R) {v : Nat} (h : v < n) : ms.getD v 0 < 2 ^ 10 := b.lt _ (List.mem_of_getElem? (b.get h))
theorem lt_of_bits {m k : Nat} (h : ∀ u, m.testBit u = true → u < k) : m < 2 ^ k := Nat.lt_pow_two_of_testBit m fun i hi => by
  cases e : m.testBit i with
  | false => rfl
  | true => have := h i e; omega
/-- a place is taken out -/
def takeR (v : Nat) (R : Nat → Nat → Bool) : Nat → Nat → Bool := fun x u => if x = v then false else if R x v = true then (R x u || R v u) && !decide (u = v) else R x u
def takeM (v : Nat) (ms : List Nat) : List Nat := (ms.map fun m => if m &&& 2 ^ v = 0 then m else (m ||| ms.getD v 0) - 2 ^ v).set v 0
theorem take_ok {n : Nat} {ms : List Nat} {R : Nat → Nat → Bool} {v : Nat} (b : BagsM n ms R) (hv : v < n) : BagsM n (takeM v ms) (takeR v R) := by
  have far : ∀ x u, takeR v R x u = true → x < n ∧ u < n := fun x u h => by
    unfold takeR at h
    split at h
    · cases h
    · split at h
      · rename_i c
        rw [Bool.and_eq_true, Bool.or_eq_true] at h
        rcases h.1 with z | z
        · exact b.far _ _ z
        · exact ⟨(b.far _ _ c).1, (b.far _ _ z).2⟩
      · exact b.far _ _ h
  have bit : ∀ x < n, ∀ u, ((takeM v ms).getD x 0).testBit u = takeR v R x u := fun x hx u => by
    unfold takeM takeR
    by_cases c : x = v
    · subst c
      rw [if_pos rfl, List.getD_eq_getElem?_getD, List.getElem?_set_self (by rw [List.length_map, b.len]; exact hx)]
      simp
    · rw [if_neg c, List.getD_eq_getElem?_getD, List.getElem?_set_ne (Ne.symm c), List.getElem?_map, b.get hx]
      simp only [Option.map_some, Option.getD_some]
      have ab := and_bit (ms.getD x 0) v
      rw [b.bit x hx] at ab
      by_cases d : R x v = true
      · rw [if_pos d, if_neg (fun z => by rw [ab.mp z] at d; cases d)]
        have ht : (ms.getD x 0 ||| ms.getD v 0).testBit v = true := by rw [Nat.testBit_or, b.bit x hx, d]; rfl
        rw [sub_bit ht, Nat.testBit_or, b.bit x hx, b.bit v hv]
      · rw [if_neg d, if_pos (ab.mpr (by simpa using d)), b.bit x hx]
  refine ⟨by unfold takeM; rw [List.length_set, List.length_map]; exact b.len, b.n10, fun m hm => ?_, bit, far⟩
  obtain ⟨j, hj, ej⟩ := List.getElem_of_mem hm
  have jn : j < n := by
    unfold takeM at hj
    rw [List.length_set, List.length_map, b.len] at hj
    exact hj
  have e : (takeM v ms).getD j 0 = m := by rw [List.getD_eq_getElem?_getD, List.getElem?_eq_getElem hj, ej]; rfl
  refine lt_of_bits fun u hu => ?_
  rw [← e, bit j jn] at hu
  have := far j u hu
  have := b.n10
  omega
theorem bags_places {n : Nat} {ms : List Nat} {R : Nat → Nat → Bool} {v : Nat} (b : BagsM n ms R) (hv : v < n) : placesF (ms.getD v 0) = (List.range n).filter (R v ·) := by
  unfold placesF
  have hn := b.n10
  obtain ⟨d, ed⟩ : ∃ d, 10 = n + d := ⟨10 - n, by omega⟩
  rw [ed, List.range_add, List.filter_append]
  have e1 : ((List.range d).map (fun x => n + x)).filter ((ms.getD v 0).testBit ·) = [] := by
    rw [List.filter_eq_nil_iff]
    intro x hx hb
    obtain ⟨y, _, rfl⟩ := List.mem_map.mp hx
    rw [b.bit v hv] at hb
    have := (b.far _ _ hb).2
    omega
  rw [e1, List.append_nil]
  exact List.filter_congr fun u _ => b.bit v hv u
/-- the ties at first -/
def tiedR (n : Nat) (ts : List (Int × Int)) : Nat → Nat → Bool := fun v u => decide (v < n ∧ u < n) && (decide (u = v) || decide (((v : Int), (u : Int)) ∈ ts) || decide (((u : Int), (v : Int)) ∈ ts))
end L2

namespace L2
open PySem PySem.Spec PyProof.Rows
def rRepN : R2 := fun x y H Q => ∃ l k xs, x = .ref l ∧ y = .int k ∧ H l = some (.lst xs) ∧ -(2 ^ 63) ≤ k ∧ k < 2 ^ 63 ∧ xs.length * k.toNat ≤ 1000 ∧ ∀ p H', New H p (.lst (List.replicate k.toNat xs).flatten) H' → Q (.ref p) H'
theorem op_repN {X : Cx} : OpR X (binaryOp .Mult) rRepN := op_rep.weak fun x y H Q ⟨l, k, xs, e1, e2, h, a, b, z, q⟩ => ⟨l, k, xs, e1, e2, h, a, b, Nat.le_of_lt (small1000 z), fun p hp => q p _ (New.mk0 hp)⟩
theorem rep_one {α : Type} (x : α) (k : Nat) : (List.replicate k [x]).flatten = List.replicate k x := by
  induction k with
  | zero => rfl
  | succ k ih => rw [List.replicate_succ, List.flatten_cons, ih, List.replicate_succ]; rfl
/-- a row of truths -/
def rowT (n : Nat) (f : Nat → Bool) : List V := (List.range n).map fun j => V.bl (f j)
theorem rowT_len (n : Nat) (f : Nat → Bool) : (rowT n f).length = n := by unfold rowT; simp
theorem rowT_at {n : Nat} {f : Nat → Bool} {j : Nat} (h : j < n) : atI (rowT n f) (j : Int) = some (.bl (f j)) := atI_nat (by
  unfold rowT
  rw [List.getElem?_map, List.getElem?_range h]; rfl)
theorem rowT_set {n : Nat} {f : Nat → Bool} {j : Nat} {b : Bool} : (rowT n f).set j (.bl b) = rowT n (fun k => if k = j then b else f k) := by
  unfold rowT
  apply List.ext_getElem?
  intro i
  rw [List.getElem?_set]
  by_cases c : i < n
  · rw [List.length_map, List.length_range, List.getElem?_map, List.getElem?_map, List.getElem?_range c]
    by_cases d : j = i
    · subst d; simp [c]
    · rw [if_neg d]
      simp [show ¬ i = j from fun z => d z.symm]
  · rw [List.length_map, List.length_range, List.getElem?_map, List.getElem?_map, List.getElem?_eq_none (by simpa using c)]
    split
    · split
      · omega
      · rfl
    · rfl
theorem rowT_const (n : Nat) (b : Bool) : List.replicate n (V.bl b) = rowT n (fun _ => b) := by
  unfold rowT
  rw [List.map_const', List.length_range]
theorem rowT_congr {n : Nat} {f g : Nat → Bool} (h : ∀ j < n, f j = g j) : rowT n f = rowT n g := by
  unfold rowT
  exact List.map_congr_left fun j hj => by rw [h j (List.mem_range.mp hj)]
/-- a table of truths, row by row, all rows apart -/
structure TabL (H : Hp) (qs : List Addr) (n : Nat) (T : Nat → Nat → Bool) : Prop where
  nd : qs.Nodup
  at_ : ∀ (j : Nat) q, qs[j]? = some q → H q = some (.lst (rowT n (T j)))
theorem TabL.same {H H' : Hp} {qs : List Addr} {n : Nat} {T : Nat → Nat → Bool} (t : TabL H qs n T) (s : ∀ q ∈ qs, ∀ u, H q = some u → H' q = some u) : TabL H' qs n T := ⟨t.nd, fun j q e => s q (List.mem_of_getElem? e) _ (t.at_ j q e)⟩
theorem TabL.set {H H' : Hp} {qs : List Addr} {n : Nat} {T : Nat → Nat → Bool} {i j : Nat} {q : Addr} {b : Bool} (t : TabL H qs n T) (e : qs[i]? = some q) (c : Chg H q (.lst ((rowT n (T i)).set j (.bl b))) H') : TabL H' qs n (fun x y => if x = i ∧ y = j then b else T x y) :=
  ⟨t.nd, fun k q' e' => by
    by_cases z : k = i
    · subst z
      rw [e] at e'; cases e'
      rw [c.here, rowT_set]
      congr 2
      exact rowT_congr fun y _ => by simp
    · refine (c.rest q' fun y => ?_).trans ((t.at_ k q' e').trans ?_)
      · subst y
        obtain ⟨h1, e1⟩ := List.getElem?_eq_some_iff.mp e
        obtain ⟨h2, e2⟩ := List.getElem?_eq_some_iff.mp e'
        exact z ((List.getElem_inj t.nd).mp (e2.trans e1.symm))
      · congr 2
        exact rowT_congr fun y _ => by simp [z]⟩
end L2

set_option maxHeartbeats 1000000
namespace Sm
open PySem

def BelowOk (xs : Array Nat) (j k : Nat) : Prop := k ≤ xs.size ∧ ∀ i (h : i < xs.size), xs[i] < j ↔ i < k

theorem up_lt {xs : Array Nat} (h : xs.toList.Pairwise (· < ·)) {i k : Nat} (hi : i < xs.size) (hk : k < xs.size) (ik : i < k) : xs[i] < xs[k] := by
  have := List.pairwise_iff_getElem.mp h i k (by simpa using hi) (by simpa using hk) ik
  simpa using this

theorem go_ok {xs : Array Nat} {j : Nat} (h : xs.toList.Pairwise (· < ·)) : ∀ (fuel lo hi : Nat), hi - lo ≤ fuel → lo ≤ hi → hi ≤ xs.size →
    (∀ i (z : i < xs.size), i < lo → xs[i] < j) → (∀ i (z : i < xs.size), hi ≤ i → j ≤ xs[i]) → BelowOk xs j (SetTable.below.go xs j fuel lo hi) := by
  intro fuel
  induction fuel with
  | zero =>
    intro lo hi a b c d e
    unfold SetTable.below.go
    have : lo = hi := by omega
    subst this
    exact ⟨c, fun i z => ⟨fun q => by
      rcases Nat.lt_or_ge i lo with g | g
      · exact g
      · have := e i z g
        omega, fun q => d i z q⟩⟩
  | succ f ih =>
    intro lo hi a b c d e
    unfold SetTable.below.go
    by_cases q : lo < hi
    · rw [if_pos q]
      dsimp only
      have m1 : lo ≤ (lo + hi) / 2 := by omega
      have m2 : (lo + hi) / 2 < hi := by omega
      have m3 : (lo + hi) / 2 < xs.size := by omega
      have ge : xs.getD ((lo + hi) / 2) j = xs[(lo + hi) / 2] := by simp [Array.getD, m3]
      rw [ge]
      by_cases r : xs[(lo + hi) / 2] < j
      · rw [if_pos r]
        refine ih _ _ (by omega) (by omega) c (fun i z hi' => ?_) e
        rcases Nat.lt_or_ge i ((lo + hi) / 2) with g | g
        · have := up_lt h z m3 g
          omega
        · have : i = (lo + hi) / 2 := by omega
          subst this
          exact r
      · rw [if_neg r]
        refine ih _ _ (by omega) (by omega) (by omega) d (fun i z hi' => ?_)
        rcases Nat.lt_or_ge ((lo + hi) / 2) i with g | g
        · have := up_lt h m3 z g
          omega
        · have : i = (lo + hi) / 2 := by omega
          subst this
          omega
    · rw [if_neg q]
      have : lo = hi := by omega
      subst this
      exact ⟨c, fun i z => ⟨fun q => by
        rcases Nat.lt_or_ge i lo with g | g
        · exact g
        · have := e i z g
          omega, fun q => d i z q⟩⟩

theorem below_ok {xs : Array Nat} (h : xs.toList.Pairwise (· < ·)) (j : Nat) : BelowOk xs j (SetTable.below xs j) :=
  go_ok h _ _ _ (by omega) (Nat.zero_le _) (Nat.le_refl _) (fun i z q => absurd q (Nat.not_lt_zero _)) (fun i z q => absurd z (by omega))

theorem below_at {xs : Array Nat} (h : xs.toList.Pairwise (· < ·)) {k : Nat} (hk : k < xs.size) : SetTable.below xs (xs[k]) = k := by
  obtain ⟨a, b⟩ := below_ok h xs[k]
  rcases Nat.lt_trichotomy (SetTable.below xs xs[k]) k with g | g | g
  · have c := (b (SetTable.below xs xs[k]) (by omega)).mp (up_lt h (by omega) hk g)
    omega
  · exact g
  · have c := (b k hk).mpr g
    omega

theorem below_zero {xs : Array Nat} (h : xs.toList.Pairwise (· < ·)) : SetTable.below xs 0 = 0 := by
  obtain ⟨a, b⟩ := below_ok h 0
  rcases Nat.eq_zero_or_pos (SetTable.below xs 0) with g | g
  · exact g
  · have := (b 0 (by omega)).mpr g
    omega

theorem below_next {xs : Array Nat} (h : xs.toList.Pairwise (· < ·)) {k : Nat} (hk : k < xs.size) : SetTable.below xs (xs[k] + 1) = k + 1 := by
  obtain ⟨a, b⟩ := below_ok h (xs[k] + 1)
  have c := (b k hk).mp (by omega)
  rcases Nat.lt_or_ge (k + 1) (SetTable.below xs (xs[k] + 1)) with g | g
  · have e := (b (k + 1) (by omega)).mpr g
    have := up_lt h hk (show k + 1 < xs.size by omega) (Nat.lt_succ_self _)
    omega
  · omega

theorem has_nil (j : Nat) : SetTable.has #[] j = false := by
  unfold SetTable.has
  simp

theorem slot_empty {t : SetTable} (dm : t.dummies = #[]) {j : Nat} (h : j ∉ t.place.toList) : t.slot j = .empty := by
  unfold SetTable.slot
  have e : (t.place[SetTable.below t.place j]? == some j) = false := by
    rw [beq_eq_false_iff_ne]
    intro c
    exact h (by simpa using Array.mem_of_getElem? c)
  dsimp only
  rw [e, dm, has_nil]
  rfl
theorem slot_live {t : SetTable} (up : t.place.toList.Pairwise (· < ·)) {j : Nat} (h : j ∈ t.place.toList) : ∃ i, t.slot j = .live i := by
  obtain ⟨k, hk, e⟩ := List.getElem_of_mem h
  have hk' : k < t.place.size := by simpa using hk
  have e' : t.place[k] = j := by simpa using e
  unfold SetTable.slot
  have q : SetTable.below t.place j = k := by rw [← e']; exact below_at up hk'
  dsimp only
  rw [q]
  have : (t.place[k]? == some j) = true := by simp [hk', e']
  rw [this]
  exact ⟨k, rfl⟩

/-- the going on of a search, by the mask alone -/
def adv (mask : Nat) (p : SetTable.Probe) : SetTable.Probe :=
  if 0 < p.more then { p with more := p.more - 1, j := p.j + 1 } else
  { p with j := (SetTable.leap mask p.i p.perturb).1, more := SetTable.runEnd mask (SetTable.leap mask p.i p.perturb).1 - (SetTable.leap mask p.i p.perturb).1, i := (SetTable.leap mask p.i p.perturb).1, perturb := (SetTable.leap mask p.i p.perturb).2 }
theorem adv_eq (t : SetTable) (p : SetTable.Probe) : t.advance p = adv t.mask p := by
  unfold SetTable.advance adv
  rfl
def nth (mask : Nat) (p : SetTable.Probe) : Nat → SetTable.Probe
  | 0 => p
  | k + 1 => nth mask (adv mask p) k
theorem adv_dummy (m : Nat) (p : SetTable.Probe) : (adv m p).dummy = p.dummy := by
  unfold adv
  split <;> rfl
theorem go_finds {t : SetTable} (dm : t.dummies = #[]) (up : t.place.toList.Pairwise (· < ·)) (h : Int) : ∀ (k fuel : Nat) (p : SetTable.Probe), k < fuel → p.dummy = none → (nth t.mask p k).j ∉ t.place.toList →
    ∃ j, j ∉ t.place.toList ∧ SetTable.probe.go t (fun _ => h + 1) h fuel p = some (.empty j none) := by
  intro k
  induction k with
  | zero =>
    intro fuel p hf hd hn
    obtain ⟨f, rfl⟩ : ∃ f, fuel = f + 1 := ⟨fuel - 1, by omega⟩
    unfold SetTable.probe.go
    have hn' : p.j ∉ t.place.toList := hn
    refine ⟨p.j, hn', ?_⟩
    rw [slot_empty dm hn', hd]
  | succ k ih =>
    intro fuel p hf hd hn
    obtain ⟨f, rfl⟩ : ∃ f, fuel = f + 1 := ⟨fuel - 1, by omega⟩
    unfold SetTable.probe.go
    by_cases c : p.j ∈ t.place.toList
    · obtain ⟨i, e⟩ := slot_live up c
      rw [e]
      dsimp only
      have : (h + 1 == h) = false := by rw [beq_eq_false_iff_ne]; omega
      rw [this]
      rw [adv_eq]
      exact ih f (adv t.mask p) (by omega) (by rw [adv_dummy]; exact hd) hn
    · rw [slot_empty dm c, hd]
      exact ⟨p.j, c, rfl⟩
def start7 (v : Nat) : SetTable.Probe := { j := v % 8, more := 0, i := v % 8, perturb := v, dummy := none }
theorem seven : ∀ v, v < 16 → ∀ j, j < 8 → ∃ k, k < 16 ∧ (nth 7 (start7 v) k).j = j := by decide +kernel
theorem bits_of {v : Nat} (h : v < 16) : SetTable.bits (v : Int) = v := by
  unfold SetTable.bits
  omega
theorem free_of {t : SetTable} (dm : t.dummies = #[]) (up : t.place.toList.Pairwise (· < ·)) {v k : Nat} (hk : k < 10 * SetTable.turns t.mask) (hn : (nth t.mask (t.probeStart (v : Int)) k).j ∉ t.place.toList) :
    ∃ j, j ∉ t.place.toList ∧ t.freeSlot (v : Int) = some (j, false) := by
  obtain ⟨j, hj, e⟩ := go_finds dm up (v : Int) k (10 * SetTable.turns t.mask) (t.probeStart (v : Int)) hk rfl hn
  refine ⟨j, hj, ?_⟩
  unfold SetTable.freeSlot SetTable.probe
  rw [e]
  rfl
theorem len_le : ∀ (l m : List Nat), l.Nodup → (∀ x ∈ l, x ∈ m) → l.length ≤ m.length
  | [], _, _, _ => Nat.zero_le _
  | a :: r, m, nd, h => by
    have am : a ∈ m := h a List.mem_cons_self
    obtain ⟨n1, n2⟩ := List.nodup_cons.mp nd
    have q := len_le r (m.erase a) n2 fun x hx => (List.mem_erase_of_ne (fun e => n1 (by rw [← e]; exact hx))).mpr (h x (List.mem_cons_of_mem _ hx))
    rw [List.length_erase_of_mem am] at q
    have := List.length_pos_of_mem am
    rw [List.length_cons]
    omega
theorem pigeon {l : List Nat} (h : l.length ≤ 4) : ∃ j, j < 8 ∧ j ∉ l := by
  apply Classical.byContradiction
  intro c
  have q : ∀ j, j < 8 → j ∈ l := fun j hj => Classical.byContradiction fun d => c ⟨j, hj, d⟩
  have := len_le (List.range 8) l List.nodup_range (fun j hj => q j (List.mem_range.mp hj))
  rw [List.length_range] at this
  omega
theorem own_free {t : SetTable} (dm : t.dummies = #[]) {v : Nat} (hv : v < 16) (hm : 15 ≤ t.mask) (hn : v ∉ t.place.toList) : t.freeSlot (v : Int) = some (v, false) := by
  unfold SetTable.freeSlot SetTable.probe
  have e : (t.probeStart (v : Int)).j = v := by
    unfold SetTable.probeStart
    dsimp only
    rw [bits_of hv]
    exact Nat.mod_eq_of_lt (by omega)
  obtain ⟨f, hf⟩ : ∃ f, 10 * SetTable.turns t.mask = f + 1 := ⟨10 * SetTable.turns t.mask - 1, by unfold SetTable.turns; omega⟩
  rw [hf]
  unfold SetTable.probe.go
  rw [e, slot_empty dm hn]
  rfl

def Es (es : Array (Int × Value)) (L : List Nat) : Prop := Paired (fun e v => e.1 = ((v : Nat) : Int) ∧ ∃ tk, e.2 = Value.int ((v : Nat) : Int) tk) es.toList L
structure Tb (B : Bool) (t : SetTable) (L : List Nat) : Prop where
  dm : t.dummies = #[]
  pl : t.plain = true
  led : t.led = !B
  up : t.place.toList.Pairwise (· < ·)
  sz : t.place.size = L.length
  nd : L.Nodup
  lt : ∀ v ∈ L, v < 16
  sh : (t.mask = 7 ∧ L.length ≤ 4) ∨ (15 ≤ t.mask ∧ t.place.toList = L ∧ L.length * 5 < t.mask * 3)

theorem ins_up {xs : Array Nat} (up : xs.toList.Pairwise (· < ·)) {j : Nat} (h : j ∉ xs.toList) : (SetTable.insertAt xs (SetTable.below xs j) j).toList.Pairwise (· < ·) := by
  obtain ⟨a, b⟩ := below_ok up j
  rw [SetTable.toList_insertAt]
  have z : ∀ i (hi : i < xs.toList.length), xs.toList[i] < j ↔ i < SetTable.below xs j := fun i hi => by
    have := b i (by simpa using hi)
    simpa using this
  rw [List.pairwise_append]
  refine ⟨up.sublist (List.take_sublist _ _), ?_, ?_⟩
  · rw [List.pairwise_cons]
    refine ⟨fun y hy => ?_, up.sublist (List.drop_sublist _ _)⟩
    obtain ⟨i, hi, e⟩ := List.getElem_of_mem hy
    rw [List.getElem_drop] at e
    have hl : SetTable.below xs j + i < xs.toList.length := by rw [List.length_drop] at hi; omega
    have q := z _ hl
    rw [e] at q
    have ne : y ≠ j := fun c => h (by rw [← c, ← e]; exact List.getElem_mem hl)
    rcases Nat.lt_or_ge y j with g | g
    · have := q.mp g
      omega
    · omega
  · intro x hx y hy
    obtain ⟨i, hi, e⟩ := List.getElem_of_mem hx
    rw [List.getElem_take] at e
    have hl : i < xs.toList.length := by rw [List.length_take] at hi; omega
    have hb : i < SetTable.below xs j := by rw [List.length_take] at hi; omega
    have x1 : x < j := by rw [← e]; exact (z i hl).mpr hb
    rcases List.mem_cons.mp hy with rfl | hy
    · exact x1
    · obtain ⟨k, hk, e2⟩ := List.getElem_of_mem hy
      rw [List.getElem_drop] at e2
      have hl2 : SetTable.below xs j + k < xs.toList.length := by rw [List.length_drop] at hk; omega
      have q := z _ hl2
      rw [e2] at q
      rcases Nat.lt_or_ge y j with g | g
      · have := q.mp g
        omega
      · omega

theorem Es.len {es : Array (Int × Value)} {L : List Nat} (h : Es es L) : es.size = L.length := by
  have := Paired.length h
  simpa using this
theorem paired_take {α β : Type} {R : α → β → Prop} : ∀ {xs : List α} {ys : List β} (n : Nat), Paired R xs ys → Paired R (xs.take n) (ys.take n)
  | _, _, 0, _ => .nil
  | _, _, _ + 1, .nil => .nil
  | _, _, n + 1, .cons r t => .cons r (paired_take n t)
theorem paired_drop {α β : Type} {R : α → β → Prop} : ∀ {xs : List α} {ys : List β} (n : Nat), Paired R xs ys → Paired R (xs.drop n) (ys.drop n)
  | _, _, 0, r => r
  | _, _, _ + 1, .nil => .nil
  | _, _, n + 1, .cons _ t => paired_drop n t
theorem paired_app {α β : Type} {R : α → β → Prop} : ∀ {xs xs' : List α} {ys ys' : List β}, Paired R xs ys → Paired R xs' ys' → Paired R (xs ++ xs') (ys ++ ys')
  | _, _, _, _, .nil, s => s
  | _, _, _, _, .cons r t, s => .cons r (paired_app t s)
theorem paired_get {α β : Type} {R : α → β → Prop} : ∀ {xs : List α} {ys : List β}, Paired R xs ys → ∀ (i : Nat) (h : i < ys.length), ∃ x, xs[i]? = some x ∧ R x ys[i]
  | _, _, .nil, i, h => by simp at h
  | _, _, .cons r t, 0, h => ⟨_, rfl, r⟩
  | _, _, .cons r t, i + 1, h => by
    obtain ⟨x, e, q⟩ := paired_get t i (by simpa using h)
    exact ⟨x, by simpa using e, by simpa using q⟩

/-- one more laid -/
theorem lay_ok {B : Bool} {t : SetTable} {L : List Nat} {es : Array (Int × Value)} {v : Nat} {x : Value} (T : Tb B t L) (hE : Es es L) (hv : v < 16) (hn : v ∉ L) (hx : ∃ tk, x = Value.int ((v : Nat) : Int) tk) :
    ∃ t1 es1 p, layNew t es ((v : Nat) : Int) x = (es1, t1, false, false) ∧ Es es1 (L.take p ++ v :: L.drop p) ∧ t1.dummies = #[] ∧ t1.plain = true ∧ (t1.led = !B) ∧ t1.mask = t.mask ∧ t1.finger = t.finger ∧ t1.moves = t.moves ∧
      t1.place.toList.Pairwise (· < ·) ∧ t1.place.size = L.length + 1 ∧ (15 ≤ t.mask → t1.place.toList = L.take p ++ v :: L.drop p) := by
  have main : ∃ j, j ∉ t.place.toList ∧ t.freeSlot ((v : Nat) : Int) = some (j, false) ∧ (15 ≤ t.mask → j = v) := by
    rcases T.sh with ⟨m7, l4⟩ | ⟨m15, pe, fl⟩
    · have lp : t.place.toList.length ≤ 4 := by rw [Array.length_toList, T.sz]; exact l4
      obtain ⟨j, hj, nj⟩ := pigeon lp
      obtain ⟨k, hk, e⟩ := seven v hv j hj
      have st : t.probeStart ((v : Nat) : Int) = start7 v := by
        unfold SetTable.probeStart start7
        rw [bits_of hv, m7]
        unfold SetTable.runEnd
        have : ¬ v % (7 + 1) + 9 ≤ 7 := by omega
        simp only [if_neg this]
        simp
      obtain ⟨j', hj', e'⟩ := free_of (v := v) (k := k) T.dm T.up (by unfold SetTable.turns; omega) (by rw [st, m7, e]; exact nj)
      exact ⟨j', hj', e', fun c => by omega⟩
    · have nv : v ∉ t.place.toList := by rw [pe]; exact hn
      exact ⟨v, nv, own_free T.dm hv m15 nv, fun _ => rfl⟩
  obtain ⟨j, nj, ef, ej⟩ := main
  have sz1 : (SetTable.insertAt t.place (SetTable.below t.place j) j).size = L.length + 1 := by
    have := congrArg List.length (SetTable.toList_insertAt t.place (SetTable.below t.place j) j)
    rw [Array.length_toList] at this
    rw [this, List.length_append, List.length_cons, List.length_take, List.length_drop, Array.length_toList, T.sz]
    omega
  have es1 : (SetTable.insertAt es (SetTable.below t.place j) (((v : Nat) : Int), x)).size = L.length + 1 := by
    have := congrArg List.length (SetTable.toList_insertAt es (SetTable.below t.place j) (((v : Nat) : Int), x))
    rw [Array.length_toList] at this
    rw [this, List.length_append, List.length_cons, List.length_take, List.length_drop, Array.length_toList, hE.len]
    omega
  have mk : L.length + 1 ≤ t.mask := by
    rcases T.sh with ⟨m7, l4⟩ | ⟨m15, pe, fl⟩ <;> omega
  refine ⟨{ t with place := SetTable.insertAt t.place (SetTable.below t.place j) j }, SetTable.insertAt es (SetTable.below t.place j) (((v : Nat) : Int), x), SetTable.below t.place j, ?_, ?_, T.dm, T.pl, T.led, rfl, rfl, rfl, ins_up T.up nj, sz1, ?_⟩
  · unfold layNew
    rw [ef]
    dsimp only
    unfold SetTable.put
    have hd : SetTable.has t.dummies j = false := by rw [T.dm]; exact has_nil j
    dsimp only
    rw [hd]
    have ft : SetTable.fits { t with place := SetTable.insertAt t.place (SetTable.below t.place j) j } (SetTable.insertAt es (SetTable.below t.place j) (((v : Nat) : Int), x)).size = true := by
      unfold SetTable.fits SetTable.fill
      dsimp only
      rw [sz1, es1, T.dm]
      simp
      omega
    unfold SetTable.orStandIn
    simp only [if_false, Bool.false_eq_true]
    rw [if_pos ft, ft]
    rfl
  · unfold Es
    rw [SetTable.toList_insertAt]
    exact paired_app (paired_take _ hE) (.cons ⟨rfl, hx⟩ (paired_drop _ hE))
  · intro hm
    dsimp only
    have := ej hm
    subst this
    rcases T.sh with ⟨m7, l4⟩ | ⟨m15, pe, fl⟩
    · omega
    · rw [SetTable.toList_insertAt, pe]
end Sm

set_option maxHeartbeats 1000000
namespace Sm
open PySem

/-- who stands where: as told by the list so far -/
def Owns (m : Nat) (owner : Array (Option Nat)) (L : List Nat) : Prop := owner.size = m + 1 ∧ ∀ j, j ≤ m → owner.getD j none = if j ∈ L then some (L.idxOf j) else none

theorem free_own {m : Nat} {owner : Array (Option Nat)} {L : List Nat} (O : Owns m owner L) {v f : Nat} (hv : v ≤ m) (hn : v ∉ L) : SetTable.layClean.free m owner (f + 1) v v = some v := by
  unfold SetTable.layClean.free
  obtain ⟨k, hk⟩ : ∃ k, SetTable.runEnd m v + 1 - v = k + 1 := ⟨SetTable.runEnd m v - v, by unfold SetTable.runEnd; split <;> omega⟩
  rw [hk, List.range_succ_eq_map]
  have g : owner.getD (v + 0) (some 0) = none := by
    have a := O.2 v hv
    rw [if_neg hn] at a
    have hs : v < owner.size := by rw [O.1]; omega
    simp [Array.getD, hs] at a ⊢
    exact a
  rw [List.find?_cons_of_pos (by rw [g]; rfl)]
  rfl

theorem clean_go {m : Nat} (hm : 15 ≤ m) : ∀ (R L : List Nat) (owner : Array (Option Nat)), Owns m owner L → (L ++ R).Nodup → (∀ v ∈ R, v < 16) →
    ∃ owner', Owns m owner' (L ++ R) ∧ (R.map fun v => ((v : Nat) : Int)).foldl (fun (acc : Option (Array (Option Nat) × Nat)) h => do
      let (owner, k) ← acc
      let j ← SetTable.layClean.free m owner (SetTable.turns m) (SetTable.bits h % (m + 1)) (SetTable.bits h)
      pure (owner.setIfInBounds j (some k), k + 1)) (some (owner, L.length)) = some (owner', (L ++ R).length) := by
  intro R
  induction R with
  | nil => intro L owner O _ _; exact ⟨owner, by simpa using O, by simp⟩
  | cons v R ih =>
    intro L owner O nd hlt
    have hv : v < 16 := hlt v List.mem_cons_self
    have hn : v ∉ L := fun c => by
      have := List.nodup_append.mp nd
      exact this.2.2 v c v List.mem_cons_self rfl
    have O' : Owns m (owner.setIfInBounds v (some L.length)) (L ++ [v]) := by
      refine ⟨by rw [Array.size_setIfInBounds]; exact O.1, fun j hj => ?_⟩
      have hs : v < owner.size := by rw [O.1]; omega
      have hs' : j < owner.size := by rw [O.1]; omega
      have a := O.2 j hj
      by_cases e : j = v
      · subst e
        rw [if_pos (List.mem_append_right _ (List.mem_singleton.mpr rfl)), List.idxOf_append, if_neg hn]
        simp [Array.getD, hs]
      · have e1 : (owner.setIfInBounds v (some L.length)).getD j none = owner.getD j none := by
          simp only [Array.getD, Array.size_setIfInBounds, hs']
          simp [Array.getElem_setIfInBounds, hs', Ne.symm e]
        rw [e1, a]
        by_cases c : j ∈ L
        · rw [if_pos c, if_pos (List.mem_append_left _ c), List.idxOf_append, if_pos c]
        · rw [if_neg c, if_neg]
          intro d
          rcases List.mem_append.mp d with d | d
          · exact c d
          · exact e (List.mem_singleton.mp d)
    obtain ⟨o2, O2, e2⟩ := ih (L ++ [v]) _ O' (by simpa using nd) (fun u hu => hlt u (List.mem_cons_of_mem _ hu))
    refine ⟨o2, by simpa using O2, ?_⟩
    rw [List.map_cons, List.foldl_cons]
    have st : (do
      let (owner, k) ← some (owner, L.length)
      let j ← SetTable.layClean.free m owner (SetTable.turns m) (SetTable.bits ((v : Nat) : Int) % (m + 1)) (SetTable.bits ((v : Nat) : Int))
      pure (owner.setIfInBounds j (some k), k + 1) : Option (Array (Option Nat) × Nat)) = some (owner.setIfInBounds v (some L.length), (L ++ [v]).length) := by
      rw [bits_of hv, Nat.mod_eq_of_lt (by omega)]
      have : SetTable.turns m = (m + 14) + 1 := rfl
      rw [this]
      show (SetTable.layClean.free m owner (m + 14 + 1) v v).bind _ = _
      rw [free_own O (by omega) hn]
      simp
    rw [st]
    have e3 : (L ++ v :: R) = L ++ [v] ++ R := by simp
    rw [e3]
    exact e2

def upTo (m : Nat) (L : List Nat) : List Nat := (List.range (m + 1)).filter fun j => decide (j ∈ L)
theorem upTo_up (m : Nat) (L : List Nat) : (upTo m L).Pairwise (· < ·) := List.Pairwise.filter _ List.pairwise_lt_range
theorem mem_upTo {m : Nat} {L : List Nat} (h : ∀ v ∈ L, v ≤ m) {j : Nat} : j ∈ upTo m L ↔ j ∈ L := by
  unfold upTo
  rw [List.mem_filter, List.mem_range]
  constructor
  · rintro ⟨_, b⟩; exact of_decide_eq_true b
  · intro b; exact ⟨Nat.lt_succ_of_le (h j b), decide_eq_true b⟩
theorem nodup_of_up {L : List Nat} (h : L.Pairwise (· < ·)) : L.Nodup := h.imp fun h => Nat.ne_of_lt h
theorem upTo_perm {m : Nat} {L : List Nat} (h : ∀ v ∈ L, v ≤ m) (nd : L.Nodup) : (upTo m L).Perm L :=
  (List.perm_ext_iff_of_nodup (nodup_of_up (upTo_up m L)) nd).mpr fun j => mem_upTo h
theorem map_idx {L : List Nat} (nd : L.Nodup) : L.map (fun v => L.idxOf v) = List.range L.length := by
  apply List.ext_getElem
  · simp
  · intro i h1 h2
    rw [List.getElem_map, List.getElem_range]
    exact List.Nodup.idxOf_getElem nd i _
theorem fm_if {α β : Type} (p : α → Bool) (f : α → β) : ∀ l : List α, l.filterMap (fun a => if p a = true then some (f a) else none) = (l.filter p).map f
  | [] => rfl
  | a :: r => by
    rw [List.filter_cons]
    cases e : p a with
    | true => rw [List.filterMap_cons_some (b := f a) (by rw [e]; rfl), fm_if p f r]; simp
    | false => rw [List.filterMap_cons_none (by rw [e]; rfl), fm_if p f r]; simp

theorem fm_congr {α β : Type} {f g : α → Option β} : ∀ {l : List α}, (∀ a ∈ l, f a = g a) → l.filterMap f = l.filterMap g
  | [], _ => rfl
  | a :: r, h => by
    have e := h a List.mem_cons_self
    have q := fm_congr (l := r) fun b hb => h b (List.mem_cons_of_mem _ hb)
    cases c : f a with
    | none => rw [List.filterMap_cons_none c, List.filterMap_cons_none (by rw [← e]; exact c), q]
    | some b => rw [List.filterMap_cons_some c, List.filterMap_cons_some (by rw [← e]; exact c), q]
theorem Es.hashes {es : Array (Int × Value)} {L : List Nat} (h : Es es L) : (es.map (·.1)).toList = L.map fun v => ((v : Nat) : Int) := by
  rw [Array.toList_map]
  unfold Es at h
  generalize es.toList = l at h
  induction h with
  | nil => rfl
  | cons r _ ih => rw [List.map_cons, List.map_cons, ih, r.1]
theorem Es.at {es : Array (Int × Value)} {L : List Nat} (h : Es es L) {v : Nat} (hv : v ∈ L) : ∃ e, es[L.idxOf v]? = some e ∧ e.1 = ((v : Nat) : Int) ∧ ∃ tk, e.2 = Value.int ((v : Nat) : Int) tk := by
  have hi := List.idxOf_lt_length_of_mem hv
  obtain ⟨x, e, q⟩ := paired_get h (L.idxOf v) hi
  rw [List.getElem_idxOf hi] at q
  exact ⟨x, by simpa using e, q⟩
theorem es_re {es : Array (Int × Value)} {L : List Nat} (h : Es es L) : ∀ S : List Nat, (∀ v ∈ S, v ∈ L) → Paired (fun e v => e.1 = ((v : Nat) : Int) ∧ ∃ tk, e.2 = Value.int ((v : Nat) : Int) tk) ((S.map fun v => L.idxOf v).filterMap fun i => es[i]?) S
  | [], _ => .nil
  | v :: S, hs => by
    obtain ⟨e, a, b⟩ := h.at (hs v List.mem_cons_self)
    rw [List.map_cons, List.filterMap_cons_some a]
    exact .cons b (es_re h S fun u hu => hs u (List.mem_cons_of_mem _ hu))

theorem laid_ok {es : Array (Int × Value)} {L : List Nat} {m f mv : Nat} {led plain : Bool} (hm : 15 ≤ m) (hE : Es es L) (nd : L.Nodup) (hlt : ∀ v ∈ L, v < 16) :
    ∃ order : Array Nat, SetTable.laid m f mv led plain (es.map (·.1)) = some ({ mask := m, place := (upTo m L).toArray, dummies := #[], finger := f, led := led, moves := mv, plain := plain }, order) ∧
      Es (order.filterMap (es[·]?)) (upTo m L) ∧ coversAll order es.size = true := by
  have hle : ∀ v ∈ L, v ≤ m := fun v hv => by have := hlt v hv; omega
  have O0 : Owns m (Array.replicate (m + 1) none) [] := ⟨by simp, fun j hj => by simp [Array.getD]⟩
  obtain ⟨ow, O, e⟩ := clean_go hm L [] _ O0 (by simpa using nd) hlt
  rw [List.nil_append] at O e
  have ec : SetTable.layClean m (es.map (·.1)) = some ow := by
    unfold SetTable.layClean
    rw [← Array.foldl_toList, hE.hashes]
    have e' := e
    rw [List.length_nil] at e'
    show Option.map _ (List.foldl _ _ _) = _
    refine Eq.trans (congrArg (Option.map (·.1)) (Eq.trans ?_ e')) rfl
    rfl
  have lv : (List.range (m + 1)).filterMap (fun j => (ow.getD j none).map (fun k => (j, k))) = (upTo m L).map fun j => (j, L.idxOf j) := by
    unfold upTo
    rw [← fm_if]
    apply fm_congr
    intro j hj
    rw [O.2 j (by have := List.mem_range.mp hj; omega)]
    by_cases c : j ∈ L
    · simp [c]
    · simp [c]
  refine ⟨((upTo m L).map fun j => L.idxOf j).toArray, ?_, ?_, ?_⟩
  · unfold SetTable.laid
    rw [ec]
    show some _ = some _
    have : (List.range (m + 1)).filterMap (fun j => (ow.getD j none).map (j, ·)) = (upTo m L).map fun j => (j, L.idxOf j) := lv
    rw [this, List.map_map, List.map_map]
    have i1 : ((fun (x : Nat × Nat) => x.1) ∘ fun j => (j, L.idxOf j)) = fun j => j := rfl
    have i2 : ((fun (x : Nat × Nat) => x.2) ∘ fun j => (j, L.idxOf j)) = fun j => L.idxOf j := rfl
    rw [i1, i2, List.map_id']
  · unfold Es
    rw [Array.toList_filterMap]
    exact es_re hE (upTo m L) fun v hv => (mem_upTo hle).mp hv
  · unfold coversAll
    rw [List.isPerm_iff, hE.len]
    have p := (upTo_perm hle nd).map fun v => L.idxOf v
    rw [map_idx nd] at p
    exact p
theorem up_len {m : Nat} {L : List Nat} (h : ∀ v ∈ L, v < 16) (hm : 15 ≤ m) (nd : L.Nodup) : (upTo m L).length = L.length := (upTo_perm (fun v hv => by have := h v hv; omega) nd).length_eq

theorem sizeAbove_gt {n : Nat} (h : n < 2 ^ 40) : n < SetTable.sizeAbove n := by
  have go : ∀ fuel size, n < size * 2 ^ fuel → n < SetTable.sizeAbove.go n fuel size := by
    intro fuel
    induction fuel with
    | zero => intro size h; unfold SetTable.sizeAbove.go; simpa using h
    | succ f ih =>
      intro size h
      unfold SetTable.sizeAbove.go
      split
      · exact ih _ (by rw [Nat.pow_succ] at h; rw [Nat.mul_assoc, Nat.mul_comm 2]; exact h)
      · omega
  exact go 64 8 (by omega)
theorem sizeAbove_16 {n : Nat} (h : 8 ≤ n) : 16 ≤ SetTable.sizeAbove n := by
  have go : ∀ fuel size, 16 ≤ size → 16 ≤ SetTable.sizeAbove.go n fuel size := by
    intro fuel
    induction fuel with
    | zero => intro size h; unfold SetTable.sizeAbove.go; exact h
    | succ f ih =>
      intro size h
      unfold SetTable.sizeAbove.go
      split
      · exact ih _ (by omega)
      · exact h
  unfold SetTable.sizeAbove
  unfold SetTable.sizeAbove.go
  rw [if_pos h]
  exact go 63 _ (by omega)
theorem Tb.fits {B : Bool} {t : SetTable} {L : List Nat} (T : Tb B t L) : t.fits L.length = true := by
  unfold SetTable.fits SetTable.fill
  have := T.sz
  rw [T.dm]
  rcases T.sh with ⟨a, b⟩ | ⟨a, b, c⟩ <;> simp [this] <;> omega
theorem tb_laid {B : Bool} {L : List Nat} {m f mv : Nat} (hm : 15 ≤ m) (nd : L.Nodup) (hlt : ∀ v ∈ L, v < 16) (hr : L.length * 5 < m * 3) :
    Tb B { mask := m, place := (upTo m L).toArray, dummies := #[], finger := f, led := !B, moves := mv, plain := true } (upTo m L) where
  dm := rfl
  pl := rfl
  led := rfl
  up := by simpa using upTo_up m L
  sz := by simp
  nd := nodup_of_up (upTo_up m L)
  lt := fun v hv => hlt v ((mem_upTo (fun v hv => by have := hlt v hv; omega)).mp hv)
  sh := .inr ⟨hm, by simp, by rw [up_len hlt hm nd]; exact hr⟩
/-- laid anew by a grown table -/
theorem relay_ok {B : Bool} {t : SetTable} {es : Array (Int × Value)} {L : List Nat} {n : Nat} (hp : t.plain = true) (hl : t.led = !B) (hE : Es es L) (nd : L.Nodup) (hlt : ∀ v ∈ L, v < 16) (hn : 8 ≤ n) (h2 : 2 * L.length ≤ n) (hb : n < 2 ^ 40) :
    ∃ es' t' L', relayAll t es n = (es', t', false) ∧ Es es' L' ∧ Tb B t' L' ∧ L'.Perm L := by
  have a1 := sizeAbove_gt hb
  have a2 := sizeAbove_16 hn
  have hm : 15 ≤ SetTable.sizeAbove n - 1 := by omega
  obtain ⟨order, e, hE', hc⟩ := laid_ok (f := t.finger) (mv := t.movedTo (SetTable.sizeAbove n - 1)) (led := !B) (plain := true) hm hE nd hlt
  have T := tb_laid (B := B) (f := t.finger) (mv := t.movedTo (SetTable.sizeAbove n - 1)) hm nd hlt (by omega)
  refine ⟨_, _, _, ?_, hE', T, upTo_perm (fun v hv => by have := hlt v hv; omega) nd⟩
  unfold relayAll SetTable.relaid
  rw [hp, hl, e]
  dsimp only
  have z := hE'.len
  rw [hc, z, T.fits]
  rfl
end Sm

set_option maxHeartbeats 1000000
namespace Sm
open PySem

abbrev setO (es : Array (Int × Value)) (ep : Nat) (t : SetTable) : Obj := { cls := .type "set", dict := none, data := .set es ep t, slots := #[] }
/-- a set of small numbers stands there, in the order of L -/
def SetAt (B : Bool) (h : Heap) (a : Addr) (L : List Nat) : Prop := ∃ es ep t, h.get? a = some (setO es ep t) ∧ Es es L ∧ Tb B t L
/-- the table is no greater than it grows by itself -/
def Dense (h : Heap) (a : Addr) : Prop := ∃ es ep t, h.get? a = some (setO es ep t) ∧ (t.mask = 7 ∨ 5 ≤ es.size)
theorem Dense.keep {h h' : Heap} {a : Addr} (S : Dense h a) (k : ∀ o, h.get? a = some o → h'.get? a = some o) : Dense h' a :=
  let ⟨es, ep, t, ho, r⟩ := S; ⟨es, ep, t, k _ ho, r⟩
theorem SetAt.keep {B : Bool} {h h' : Heap} {a : Addr} {L : List Nat} (S : SetAt B h a L) (k : ∀ o, h.get? a = some o → h'.get? a = some o) : SetAt B h' a L :=
  let ⟨es, ep, t, ho, r⟩ := S; ⟨es, ep, t, k _ ho, r⟩
theorem Tb.len {B : Bool} {t : SetTable} {L : List Nat} (T : Tb B t L) : L.length ≤ 16 := by
  have := len_le L (List.range 16) T.nd fun x hx => List.mem_range.mpr (T.lt x hx)
  simpa using this
theorem hash16 : ∀ v : Nat, v < 16 → hashInt ((v : Nat) : Int) = ((v : Nat) : Int) := by decide +kernel
theorem Es.elems {prog : Program} {w : World} {es : Array (Int × Value)} {L : List Nat} (h : Es es L) (lt : ∀ v ∈ L, v < 16) : ElemsOf (intKind prog w) es.toList := by
  unfold Es at h
  generalize es.toList = l at h
  induction h with
  | nil => intro e he; simp at he
  | @cons x y xs ys r _ ih =>
    intro e he
    rcases List.mem_cons.mp he with rfl | he
    · obtain ⟨tk, e2⟩ := r.2
      refine ⟨⟨((y : Nat) : Int), ?_, ?_⟩, ?_⟩
      · show Value.isInt _ _ = true
        rw [e2]; simp [Value.isInt]
      · rw [r.1]; exact (hash16 y (lt y List.mem_cons_self)).symm
      · rw [e2]; rfl
    · exact ih (fun v hv => lt v (List.mem_cons_of_mem _ hv)) e he
theorem Es.find {es : Array (Int × Value)} {L : List Nat} (h : Es es L) (v : Nat) : (es.toList.findIdx? fun e => Value.isInt ((v : Nat) : Int) e.2).isSome = decide (v ∈ L) := by
  unfold Es at h
  generalize es.toList = l at h
  induction h with
  | nil => simp
  | @cons x y xs ys r _ ih =>
    obtain ⟨tk, e2⟩ := r.2
    rw [List.findIdx?_cons, e2]
    by_cases c : v = y
    · subst c; simp [Value.isInt]
    · have : Value.isInt ((v : Nat) : Int) (.int ((y : Nat) : Int) tk) = false := by simp [Value.isInt]; omega
      rw [this]
      simp only [Bool.false_eq_true, if_false, Option.isSome_map]
      rw [ih]
      simp [c]
section
variable {prog : Program} {w : World} {A : Around} {E : Value → Shared → Prop} {s : Shared} {B : Bool} {a : Addr} {L : List Nat}
theorem scan_at {es : Array (Int × Value)} {ep : Nat} {t : SetTable} {v tk : Nat} {ad : Bool} {Q : ScanMet → Shared → Prop} (ho : s.heap.get? a = some (setO es ep t)) (hE : Es es L) (T : Tb B t L) (hv : v < 16)
    (h1 : v ∈ L → ∀ j, Q (.found j) s) (h2 : v ∉ L → Q .absent s) : wpAny (model prog w) A (setScan a (.int ((v : Nat) : Int) tk) ((v : Nat) : Int) ad es) Q E s := by
  have hf : t.fits es.size = true := by rw [hE.len]; exact T.fits
  have sc := wpAny_setScan_of (prog := prog) (w := w) (A := A) (E := E) (s := s) (knd := intKind prog w) (k := ((v : Nat) : Int)) (x := .int ((v : Nat) : Int) tk) (adding := ad) (Q := Q) (by simp [intKind, Value.isInt]) ho rfl hf (hE.elems T.lt) (by
    have q := hE.find v
    have e : (fun e : Int × Value => (intKind prog w).is ((v : Nat) : Int) e.2) = fun e => Value.isInt ((v : Nat) : Int) e.2 := rfl
    rw [e]
    cases c : es.toList.findIdx? (fun e => Value.isInt ((v : Nat) : Int) e.2) with
    | none => rw [c] at q; exact h2 (of_decide_eq_false q.symm)
    | some j => rw [c] at q; exact h1 (of_decide_eq_true q.symm) _)
  have e : (intKind prog w).hash ((v : Nat) : Int) = ((v : Nat) : Int) := hash16 v hv
  rw [e] at sc
  exact sc
theorem put_get {h : Heap} {es es' : Array (Int × Value)} {ep : Nat} {t t' : SetTable} (ho : h.get? a = some (setO es ep t)) : (h.update a (Obj.putSet es' t')).get? a = some (setO es' (ep + 1) t') := by
  have := Heap.get?_update_self (Obj.putSet es' t') ho (by rw [putSet_of es' t' rfl]; rfl)
  rw [putSet_of es' t' rfl] at this
  exact this
theorem scan_ok (prog : Program) (w : World) {es : Array (Int × Value)} {t : SetTable} {v tk : Nat} (hE : Es es L) (T : Tb B t L) : byScan (.int ((v : Nat) : Int) tk) es = true :=
  byScan_of (knd := intKind prog w) rfl (by rw [hE.len]; have := T.len; unfold scanBound; omega) (hE.elems T.lt)
/-- a small number put to a set -/
theorem add_at {v tk : Nat} {Q : Bool → Shared → Prop} (S : SetAt B s.heap a L) (hv : v < 16)
    (h : ∀ b h' L', Heap.SameBut a s.heap h' → SetAt B h' a L' → (∀ u, u ∈ L' ↔ u = v ∨ u ∈ L) → (Dense s.heap a → Dense h' a) → Q b { s with heap := h' }) :
    wpAny (model prog w) A (setAddHashed a (.int ((v : Nat) : Int) tk) ((v : Nat) : Int)) Q E s := by
  obtain ⟨es, ep, t, ho, hE, T⟩ := S
  have hf : t.fits es.size = true := by rw [hE.len]; exact T.fits
  unfold setAddHashed setAddHashedIn
  refine wpAny_holding (wpAny_bind (wpAny_setState_of ho rfl hf ?_))
  dsimp only
  rw [scan_ok prog w hE T]
  simp only [↓reduceIte]
  unfold setAddByScan
  refine wpAny_bind ?_
  refine wpAny_bind (wpAny_rule ?_)
  refine wpAny_bind (scan_at ho hE T hv (fun hm j => ?_) fun hm => ?_)
  · dsimp only
    refine wpAny_pure (wpAny_pure ?_)
    have q := h false s.heap L (Heap.SameBut.refl a s.heap) ⟨es, ep, t, ho, hE, T⟩ (fun u => ⟨.inr, fun c => c.elim (fun e => e ▸ hm) id⟩) id
    exact q
  · dsimp only
    obtain ⟨t1, es1, p, e1, hE1, dm, pl, ld, mk, _, _, up, sz, own⟩ := lay_ok (x := .int ((v : Nat) : Int) tk) T hE hv hm ⟨tk, rfl⟩
    rw [e1]
    dsimp only
    refine wpAny_bind (wpAny_pure ?_)
    rw [pl]
    refine wpAny_bind (wpAny_pure ?_)
    simp only [↓reduceIte]
    have mem : ∀ u, u ∈ L.take p ++ v :: L.drop p ↔ u = v ∨ u ∈ L := fun u => by
      rw [List.mem_append, List.mem_cons]
      have e : u ∈ L ↔ u ∈ L.take p ∨ u ∈ L.drop p := by rw [← List.mem_append, List.take_append_drop]
      rw [e]
      constructor
      · rintro (c | c | c)
        · exact .inr (.inl c)
        · exact .inl c
        · exact .inr (.inr c)
      · rintro (c | c | c)
        · exact .inr (.inl c)
        · exact .inl c
        · exact .inr (.inr c)
    have nd1 : (L.take p ++ v :: L.drop p).Nodup := by
      have pm : (L.take p ++ v :: L.drop p).Perm (v :: L) := by
        have : L.take p ++ L.drop p = L := List.take_append_drop p L
        exact List.perm_middle.trans (by rw [this])
      exact pm.nodup_iff.mpr (List.nodup_cons.mpr ⟨hm, T.nd⟩)
    have lt1 : ∀ u ∈ L.take p ++ v :: L.drop p, u < 16 := fun u hu => ((mem u).mp hu).elim (fun e => e ▸ hv) (T.lt u)
    have ln1 : (L.take p ++ v :: L.drop p).length = L.length + 1 := by
      rw [List.length_append, List.length_cons, List.length_take, List.length_drop]; omega
    have fl : t1.fill = L.length + 1 := by unfold SetTable.fill; rw [dm, sz]; rfl
    have l16 := T.len
    have z1 : es1.size = L.length + 1 := by rw [hE1.len, ln1]
    refine wpAny_bind (wpAny_storeSet_of ho rfl ?_ (by rw [z1, sizeLine_eq]; omega))
    have ho1 := put_get (es' := es1) (t' := t1) ho
    cases tf : t1.tooFull with
    | false =>
      simp only [Bool.not_false, Bool.and_false, Bool.false_eq_true, if_false]
      refine wpAny_pure (wpAny_pure ?_)
      refine h true _ _ (Heap.SameBut.update ..) ⟨es1, ep + 1, t1, ho1, hE1, ⟨dm, pl, ld, up, by rw [ln1, sz], nd1, lt1, ?_⟩⟩ mem (fun ⟨es0, ep0, t0, ho0, d⟩ => ⟨es1, ep + 1, t1, ho1, by
        rw [ho] at ho0; cases ho0
        rw [mk, z1]; have := hE.len; omega⟩)
      unfold SetTable.tooFull at tf
      have tf' := of_decide_eq_false tf
      rw [fl, mk] at tf'
      rw [ln1, mk]
      rcases T.sh with ⟨m7, l4⟩ | ⟨m15, pe, _⟩
      · refine .inl ⟨m7, by omega⟩
      · exact .inr ⟨m15, own m15, by omega⟩
    | true =>
      simp only [Bool.not_false, Bool.and_self, if_true]
      unfold SetTable.tooFull at tf
      have tf' := of_decide_eq_true tf
      rw [fl, mk] at tf'
      have five : 5 ≤ L.length + 1 := by
        rcases T.sh with ⟨m7, l4⟩ | ⟨m15, pe, _⟩ <;> omega
      have gr : SetTable.grown es1.size = (L.length + 1) * 4 := by
        unfold SetTable.grown
        rw [z1, if_neg (by omega)]
      obtain ⟨es2, t2, L2, e2, hE2, T2, pm⟩ := relay_ok (t := t1) (n := SetTable.grown es1.size) pl ld hE1 nd1 lt1 (by rw [gr]; omega) (by rw [gr, ln1]; omega) (by rw [gr]; omega)
      rw [e2]
      dsimp only
      refine wpAny_bind (wpAny_pure ?_)
      refine wpAny_bind (wpAny_storeSet_of ho1 rfl ?_ (by rw [hE2.len, pm.length_eq, ln1, sizeLine_eq]; omega))
      refine wpAny_pure (wpAny_pure ?_)
      exact h true _ L2 ((Heap.SameBut.update ..).trans (Heap.SameBut.update ..)) ⟨es2, _, t2, put_get ho1, hE2, T2⟩ (fun u => (pm.mem_iff).trans (mem u)) fun _ => ⟨es2, _, t2, put_get ho1, .inr (by rw [hE2.len, pm.length_eq, ln1]; exact five)⟩
end
end Sm

set_option maxHeartbeats 2000000
namespace Sm
open PySem

/-- whether sets are walked by the text of the world -/
abbrev byT (w : World) : Bool := w.params.followText "set-order"
theorem erase_perm {α : Type} : ∀ (l : List α) (i : Nat) (h : i < l.length), (l[i] :: l.eraseIdx i).Perm l
  | _ :: r, 0, _ => .refl _
  | x :: r, i + 1, h => by
    have q := erase_perm r i (by simpa using h)
    rw [List.getElem_cons_succ, List.eraseIdx_cons_succ]
    exact (List.Perm.swap x (r[i]'(by simpa using h)) (r.eraseIdx i)).trans (q.cons x)
theorem pick_go {α : Type} (nx : Nat → Nat) : ∀ (fuel k : Nat) (left : List α) (out : Array α), left.length ≤ fuel → (pickOrder.go nx fuel k left out).toList.Perm (out.toList ++ left) := by
  intro fuel
  induction fuel with
  | zero =>
    intro k left out h
    have : left = [] := List.length_eq_zero_iff.mp (by omega)
    subst this
    unfold pickOrder.go
    simp
  | succ f ih =>
    intro k left out h
    unfold pickOrder.go
    by_cases c : left = []
    · subst c; simp
    · have pos : 0 < left.length := List.length_pos_iff.mpr c
      have lt := Nat.mod_lt (nx k) pos
      rw [List.getElem?_eq_getElem lt]
      dsimp only
      refine (ih (k + 1) _ _ (by rw [List.length_eraseIdx]; split <;> omega)).trans ?_
      rw [Array.toList_push, List.append_assoc]
      exact List.Perm.append_left _ (erase_perm left _ lt)
theorem pick_perm {α : Type} (nx : Nat → Nat) (xs : Array α) : (pickOrder nx xs).toList.Perm xs.toList := by
  have := pick_go nx xs.size 0 xs.toList #[] (by simp)
  unfold pickOrder
  simpa using this
theorem walk_eq (a : Addr) : setWalk a = (do
  let (xs, c, tb) ← setState a
  if ← setsByText then
    let q ← ask
    return pickOrder (q.params.setOrder a c) xs
  if !tb.plain && xs.size > 1 then return (← drawOrder xs.size xs.toList).toArray
  (do if !tb.led && xs.size > 1 then unsupported "set:maker-not-led" : Sem Unit)
  return xs) := rfl
/-- the small numbers of entries, in some order -/
theorem Es.perm {es : Array (Int × Value)} {L : List Nat} (h : Es es L) {es' : List (Int × Value)} (p : es'.Perm es.toList) : ∃ L', Paired (fun e v => e.1 = ((v : Nat) : Int) ∧ ∃ tk, e.2 = Value.int ((v : Nat) : Int) tk) es' L' ∧ L'.Perm L := by
  refine ⟨es'.map fun e => e.1.toNat, ?_, ?_⟩
  · have all : ∀ e ∈ es.toList, ∃ v : Nat, e.1 = ((v : Nat) : Int) ∧ ∃ tk, e.2 = Value.int ((v : Nat) : Int) tk := by
      unfold Es at h
      generalize es.toList = l at h
      clear p
      induction h with
      | nil => intro e he; simp at he
      | cons r _ ih =>
        intro e he
        rcases List.mem_cons.mp he with rfl | he
        · exact ⟨_, r⟩
        · exact ih e he
    have all' : ∀ e ∈ es', ∃ v : Nat, e.1 = ((v : Nat) : Int) ∧ ∃ tk, e.2 = Value.int ((v : Nat) : Int) tk := fun e he => all e (p.mem_iff.mp he)
    clear p
    induction es' with
    | nil => exact .nil
    | cons e r ih =>
      obtain ⟨v, e1, e2⟩ := all' e List.mem_cons_self
      rw [List.map_cons]
      refine .cons ?_ (ih fun x hx => all' x (List.mem_cons_of_mem _ hx))
      rw [e1]
      exact ⟨rfl, e2⟩
  · refine (p.map fun e => e.1.toNat).trans ?_
    unfold Es at h
    generalize es.toList = l at h
    have : l.map (fun e => e.1.toNat) = L := by
      induction h with
      | nil => rfl
      | cons r _ ih => rw [List.map_cons, ih, r.1]; rfl
    rw [this]
section
variable {prog : Program} {w : World} {A : Around} {E : Value → Shared → Prop} {s : Shared} {a : Addr} {L : List Nat}
theorem state_at {es : Array (Int × Value)} {ep : Nat} {t : SetTable} {B : Bool} {Q : (Array (Int × Value) × Nat × SetTable) → Shared → Prop} (ho : s.heap.get? a = some (setO es ep t)) (hE : Es es L) (T : Tb B t L) (h : Q (es, ep, t) s) :
    wpAny (model prog w) A (setState a) Q E s := wpAny_setState_of ho rfl (by rw [hE.len]; exact T.fits) h
theorem byText_at {Q : Bool → Shared → Prop} (h : Q (byT w) s) : wpAny (model prog w) A setsByText Q E s := by
  unfold setsByText
  exact wpAny_bind (wpAny_askSetting (wpAny_pure h))
theorem walk_at {es : Array (Int × Value)} {ep : Nat} {t : SetTable} {Q : Array (Int × Value) → Shared → Prop} (ho : s.heap.get? a = some (setO es ep t)) (hE : Es es L) (T : Tb (byT w) t L)
    (h : ∀ es', es'.toList.Perm es.toList → Q es' s) : wpAny (model prog w) A (setWalk a) Q E s := by
  rw [walk_eq]
  refine wpAny_bind (state_at ho hE T ?_)
  refine wpAny_bind (byText_at ?_)
  have pl := T.pl
  have ld := T.led
  cases c : byT w with
  | true =>
    simp only [if_true]
    exact wpAny_bind (wpAny_askSetting (wpAny_pure (h _ (pick_perm _ _))))
  | false =>
    rw [c] at ld
    simp only [pl, ld, Bool.not_true, Bool.not_false, Bool.false_and, Bool.false_eq_true, if_false]
    first | exact wpAny_bind (wpAny_pure (wpAny_pure (h _ .rfl))) | exact wpAny_pure (h _ .rfl)
theorem unseen_at {es : Array (Int × Value)} {ep : Nat} {t : SetTable} {others : List Addr} {f : Option Addr} {Q : Array (Int × Value) → Shared → Prop} (ho : s.heap.get? a = some (setO es ep t)) (hE : Es es L) (T : Tb (byT w) t L)
    (h : ∀ es', es'.toList.Perm es.toList → Q es' s) : wpAny (model prog w) A (setWalkUnseen a others f) Q E s := by
  unfold setWalkUnseen
  refine wpAny_bind (state_at ho hE T ?_)
  refine wpAny_bind (byText_at ?_)
  have e : (byT w || (t.led && t.plain) || decide (es.size ≤ 1)) = true := by rw [T.led, T.pl]; cases byT w <;> rfl
  dsimp only
  rw [if_pos e]
  exact walk_at ho hE T h
def reord (es : Array (Int × Value)) (laid : Option (SetTable × Array Nat)) : Sem (Array (Int × Value) × SetTable) := do
  let some (t, order) := laid
    | unsupported "internal:set-table-without-room"
  if (order.filterMap (es[·]?)).size != es.size then unsupported "internal:set-table-lost-an-element"
  pure (order.filterMap (es[·]?), t)
theorem relay_eq (a : Addr) (n : Nat) : setRelay a n = (do
  let (es, _, t) ← setState a
  if SetTable.sizeAbove n > sizeLine then unsupported "set:memory"
  let (es, t) ← reord es (t.relaid (es.map (·.1)) n)
  storeSet a es t) := rfl
theorem reord_at {es : Array (Int × Value)} {t : SetTable} {order : Array Nat} {S : List Nat} {Q : Array (Int × Value) × SetTable → Shared → Prop} (hE' : Es (order.filterMap (es[·]?)) S) (hz : es.size = S.length) (h : Q (order.filterMap (es[·]?), t) s) :
    wpAny (model prog w) A (reord es (some (t, order))) Q E s := by
  unfold reord
  dsimp only
  have e : ((order.filterMap (es[·]?)).size != es.size) = false := by rw [hE'.len, hz]; simp
  simp only [e, Bool.false_eq_true, if_false]
  first | exact wpAny_bind (wpAny_pure (wpAny_pure h)) | exact wpAny_pure h
theorem above_le {n : Nat} (h : n ≤ 64) : SetTable.sizeAbove n ≤ 128 := by
  have : ∀ n, n ≤ 64 → SetTable.sizeAbove n ≤ 128 := by decide +kernel
  exact this n h
/-- room made: the same set, in a table that has room -/
theorem room_at {more : Nat} {Q : Unit → Shared → Prop} {B : Bool} (S : SetAt B s.heap a L) (hm : more ≤ 16)
    (h : ∀ h' es ep t L', Heap.SameBut a s.heap h' → h'.get? a = some (setO es ep t) → Es es L' → Tb B t L' → L'.Perm L → (L.length + more) * 5 < t.mask * 3 → Q () { s with heap := h' }) : wpAny (model prog w) A (setRoomFor a more) Q E s := by
  obtain ⟨es, ep, t, ho, hE, T⟩ := S
  unfold setRoomFor
  refine wpAny_bind (state_at ho hE T ?_)
  have fl : t.fill = L.length := by unfold SetTable.fill; rw [T.dm, T.sz]; rfl
  have l16 := T.len
  unfold SetTable.roomFor
  dsimp only
  rw [fl, T.sz]
  by_cases c : (L.length + more) * 5 ≥ t.mask * 3
  · rw [if_pos c]
    dsimp only
    rw [relay_eq]
    refine wpAny_bind (state_at ho hE T ?_)
    have five : 5 ≤ L.length + more := by
      rcases T.sh with ⟨m7, _⟩ | ⟨m15, _, _⟩ <;> omega
    have b1 := sizeAbove_gt (n := (L.length + more) * 2) (by omega)
    have b2 := sizeAbove_16 (n := (L.length + more) * 2) (by omega)
    have b3 := above_le (n := (L.length + more) * 2) (by omega)
    dsimp only
    rw [if_neg (by rw [sizeLine_eq]; omega)]
    have hm' : 15 ≤ SetTable.sizeAbove ((L.length + more) * 2) - 1 := by omega
    obtain ⟨order, e, hE', hc⟩ := laid_ok (f := t.finger) (mv := t.movedTo (SetTable.sizeAbove ((L.length + more) * 2) - 1)) (led := t.led) (plain := t.plain) hm' hE T.nd T.lt
    unfold SetTable.relaid
    rw [e]
    have lz := up_len T.lt hm' T.nd
    refine wpAny_bind (reord_at hE' (by rw [hE.len, lz]) ?_)
    refine wpAny_storeSet_of ho rfl ?_ (by rw [hE'.len, lz, sizeLine_eq]; omega)
    have T' := tb_laid (B := B) (f := t.finger) (mv := t.movedTo (SetTable.sizeAbove ((L.length + more) * 2) - 1)) hm' T.nd T.lt (by omega)
    rw [← T.led, ← T.pl] at T'
    exact h _ _ _ _ _ (Heap.SameBut.update ..) (put_get ho) hE' T' (upTo_perm (fun v hv => by have := T.lt v hv; omega) T.nd) (by show _ < (SetTable.sizeAbove ((L.length + more) * 2) - 1) * 3; omega)
  · rw [if_neg c]
    refine wpAny_pure ?_
    exact h s.heap es ep t L (Heap.SameBut.refl a s.heap) ho hE T .rfl (by omega)
end
end Sm

set_option maxHeartbeats 2000000
namespace Sm
open PySem
theorem merge_eq (sA oA : Addr) (each : Sem Unit) : setMerge sA oA each = (do
  if sA == oA then return
  let (eo, epoch, to) ← setState oA
  if eo.isEmpty then return
  setRoomFor sA eo.size
  let (_, _, ts) ← setState sA
  match ts.road to with
  | .slotForSlot =>
    storeSet sA eo { to with finger := ts.finger, led := ts.led && to.led, moves := ts.moves, plain := ts.plain && to.plain }
  | .clean =>
    let (es, t) ← reord eo (SetTable.laid ts.mask ts.finger ts.moves (ts.led && to.led) (ts.plain && to.plain) (eo.map (·.1)))
    storeSet sA es t
  | .oneByOne =>
    for (h, x) in ← setWalkUnseen oA [sA] (some sA) do
      let _ ← holding [x] (setAddHashed sA x h)
      each
      if (← setState oA).2.1 != epoch then unsupported "set.changed-during-merge") := rfl
section
variable {prog : Program} {w : World} {A : Around} {E : Value → Shared → Prop} {s : Shared} {sA oA : Addr} {L1 L2 : List Nat}
theorem merge_at {each : Sem Unit} {Q : Unit → Shared → Prop} (ne : sA ≠ oA) (S1 : SetAt (byT w) s.heap sA L1) (S2 : SetAt (byT w) s.heap oA L2) (D : Dense s.heap oA)
    (he : ∀ (s' : Shared) (Q' : Unit → Shared → Prop), (∀ o, s.heap.get? oA = some o → s'.heap.get? oA = some o) → Q' () s' → wpAny (model prog w) A each Q' E s')
    (h : ∀ h' L, Heap.SameBut sA s.heap h' → SetAt (byT w) h' sA L → (∀ u, u ∈ L ↔ u ∈ L1 ∨ u ∈ L2) → Q () { s with heap := h' }) : wpAny (model prog w) A (setMerge sA oA each) Q E s := by
  obtain ⟨eo, ep, to, ho, hE, T⟩ := S2
  rw [merge_eq]
  have nb : (sA == oA) = false := beq_eq_false_iff_ne.mpr ne
  rw [nb]
  simp only [Bool.false_eq_true, if_false]
  refine wpAny_bind (state_at ho hE T ?_)
  dsimp only
  have hz := hE.len
  have l16 := T.len
  by_cases c : eo.isEmpty = true
  · rw [if_pos c]
    have l0 : L2.length = 0 := by rw [← hz]; simpa using c
    have : L2 = [] := List.length_eq_zero_iff.mp l0
    subst this
    exact wpAny_pure (h s.heap L1 (Heap.SameBut.refl _ _) S1 fun u => by simp)
  rw [if_neg c]
  refine wpAny_bind (room_at S1 (by omega) fun h1 es1 ep1 t1 L1' sb1 ho1 hE1 T1 pm hr => ?_)
  have ho' : h1.get? oA = some (setO eo ep to) := by rw [sb1.2 oA (Ne.symm ne)]; exact ho
  refine wpAny_bind (state_at (s := { s with heap := h1 }) ho1 hE1 T1 ?_)
  dsimp only
  have fl : t1.fill = L1'.length := by unfold SetTable.fill; rw [T1.dm, T1.sz]; rfl
  unfold SetTable.road
  rw [fl, pm.length_eq]
  have ld : (t1.led && to.led) = !byT w := by rw [T1.led, T.led]; simp
  have pl : (t1.plain && to.plain) = true := by rw [T1.pl, T.pl]; rfl
  by_cases e0 : L1.length = 0
  · have n1 : L1 = [] := List.length_eq_zero_iff.mp e0
    have nb : (L1.length != 0) = false := by rw [e0]; rfl
    rw [nb]
    simp only [Bool.false_eq_true, if_false]
    have dmt : to.dummies.isEmpty = true := by rw [T.dm]; rfl
    by_cases em : t1.mask = to.mask
    · have : (t1.mask == to.mask && to.dummies.isEmpty) = true := by rw [em, dmt]; simp
      rw [this]
      simp only [if_true]
      refine wpAny_storeSet_of (s := { s with heap := h1 }) ho1 rfl ?_ (by rw [hz, sizeLine_eq]; omega)
      refine h _ L2 (sb1.trans (Heap.SameBut.update ..)) ⟨eo, _, _, put_get ho1, hE, ⟨T.dm, pl, ld, T.up, T.sz, T.nd, T.lt, T.sh⟩⟩ fun u => by rw [n1]; simp
    · have : (t1.mask == to.mask && to.dummies.isEmpty) = false := by rw [beq_eq_false_iff_ne.mpr em]; rfl
      rw [this]
      simp only [Bool.false_eq_true, if_false]
      have m15 : 15 ≤ t1.mask := by
        obtain ⟨es0, ep0, t0, ho0, d⟩ := D
        rw [ho] at ho0
        cases ho0
        rcases T1.sh with ⟨m7, _⟩ | ⟨m15, _⟩
        · rw [m7] at hr
          rcases d with d | d
          · exact absurd (m7.trans d.symm) em
          · rw [hz] at hr; omega
        · exact m15
      obtain ⟨order, e, hE', hc⟩ := laid_ok (f := t1.finger) (mv := t1.moves) (led := t1.led && to.led) (plain := t1.plain && to.plain) m15 hE T.nd T.lt
      rw [e]
      have lz := up_len T.lt m15 T.nd
      refine wpAny_bind (reord_at hE' (by rw [hz, lz]) ?_)
      refine wpAny_storeSet_of (s := { s with heap := h1 }) ho1 rfl ?_ (by rw [hE'.len, lz, sizeLine_eq]; omega)
      have T' := tb_laid (B := byT w) (f := t1.finger) (mv := t1.moves) m15 T.nd T.lt (by rw [hz] at hr; omega)
      rw [← ld, ← pl] at T'
      refine h _ _ (sb1.trans (Heap.SameBut.update ..)) ⟨_, _, _, put_get ho1, hE', ?_⟩ fun u => ?_
      · rw [ld] at T' ⊢
        exact T'
      · rw [n1, mem_upTo (fun v hv => by have := T.lt v hv; omega)]; simp
  · have nb : (L1.length != 0) = true := by simp [e0]
    rw [nb]
    simp only [if_true]
    refine wpAny_bind (unseen_at (s := { s with heap := h1 }) ho' hE T fun es' pe => ?_)
    obtain ⟨R, hR, pR⟩ := hE.perm pe
    refine wpAny_bind ?_
    rw [← Array.forIn_toList]
    refine wpAny_forIn_list _ (fun rest _ s' => ∃ h' L R, s' = { s with heap := h' } ∧ Heap.SameBut sA s.heap h' ∧ SetAt (byT w) h' sA L ∧ Paired (fun (e : Int × Value) (v : Nat) => e.1 = ((v : Nat) : Int) ∧ ∃ tk, e.2 = Value.int ((v : Nat) : Int) tk) rest R ∧
      (∀ v ∈ R, v < 16) ∧ ∀ u, (u ∈ L ∨ u ∈ R) ↔ (u ∈ L1 ∨ u ∈ L2)) _ ?_ ?_ _ _ ⟨h1, L1', R, rfl, sb1, ⟨es1, ep1, t1, ho1, hE1, T1⟩, hR, fun v hv => T.lt v (pR.mem_iff.mp hv), fun u => by rw [pm.mem_iff, pR.mem_iff]⟩
    · rintro ⟨hh, x⟩ rest b s' ⟨h', L, R', rfl, sb, S, hP, lt, mem⟩
      cases hP with
      | @cons _ v _ R'' r t =>
        obtain ⟨e1, tk, e2⟩ := r
        dsimp only at e1 e2
        subst e1; subst e2
        dsimp only
        refine wpAny_bind (wpAny_holding (add_at (s := { s with heap := h' }) S (lt v List.mem_cons_self) fun b2 h2 L' sb2 S' mem' _ => ?_))
        have sb3 := sb.trans sb2
        have oo : h2.get? oA = some (setO eo ep to) := by rw [sb3.2 oA (Ne.symm ne)]; exact ho
        refine wpAny_bind (he _ _ (fun o q => by rw [ho] at q; cases q; exact oo) ?_)
        refine wpAny_bind (state_at (s := { s with heap := h2 }) oo hE T ?_)
        simp only [bne_self_eq_false, Bool.false_eq_true, if_false]
        refine wpAny_pure ⟨h2, L', R'', rfl, sb3, S', t, fun u hu => lt u (List.mem_cons_of_mem _ hu), fun u => ?_⟩
        rw [mem' u, ← mem u, List.mem_cons]
        constructor
        · rintro ((q | q) | q)
          · exact .inr (.inl q)
          · exact .inl q
          · exact .inr (.inr q)
        · rintro (q | q | q)
          · exact .inl (.inr q)
          · exact .inl (.inl q)
          · exact .inr q
    · rintro b s' ⟨h', L, R', rfl, sb, S, hP, lt, mem⟩
      cases hP
      exact wpAny_pure (h h' L sb S fun u => by rw [← mem u]; simp)
end
end Sm

set_option maxHeartbeats 2000000
namespace Sm
open PySem PySem.Builtin.Frozenset
theorem sub_ss : isSubtype (.type "set") (.type "set") = pure true := by rw [isSubtype_type]; kernel_rfl
theorem entry_or : entryFor table "set.__or__" = some Builtin.«frozenset.__or__» := entryFor_alias (id' := "frozenset.__or__") (by kernel_rfl) rfl (by decide +kernel) (by kernel_rfl)
theorem entry_iter : entryFor table "set.__iter__" = some Builtin.«frozenset.__iter__» := entryFor_alias (id' := "frozenset.__iter__") (by kernel_rfl) rfl (by decide +kernel) (by kernel_rfl)
def unionM (id : String) (l : Addr) (r : Value) : Sem Value := do
  let result ← copyOf l
  if r != .ref l then
    let q ← addrOf result
    holding [result] (updateFrom id q r)
  return result
theorem or_eq (x y : Value) : Builtin.«frozenset.__or__» ⟨[x, y], []⟩ = (do
  let (self, other) ← slot1 "__or__" ⟨[x, y], []⟩
  if !(← isAnySet self <&&> isAnySet other) then
    rule s!"frozenset.{"__or__"}.declined"
    return ← ret .notImplemented
  ret (← unionM s!"frozenset.{"__or__"}" (← addrOf self) other)) := rfl
section
variable {prog : Program} {w : World} {A : Around} {E : Value → Shared → Prop} {s : Shared} {a b : Addr} {L1 L2 : List Nat}
theorem fresh_tb (B : Bool) : Tb B (.fresh 0 0 (!B)) [] := ⟨rfl, rfl, rfl, .nil, rfl, .nil, fun v h => by simp at h, .inl ⟨rfl, by simp⟩⟩
theorem new_at {Q : Value → Shared → Prop} (h : Q (.ref s.heap.objs.size) { s with heap := s.heap.push (setO #[] 0 (.fresh 0 0 (!byT w))) }) : wpAny (model prog w) A (newSet (.type "set")) Q E s := by
  unfold newSet
  refine wpAny_bind (byText_at ?_)
  dsimp only
  simp only [newObj]
  exact wpAny_bind (wpAny_alloc (wpAny_pure h))
theorem SetAt.type {B : Bool} (S : SetAt B s.heap a L1) : s.TypeIs (.ref a) "set" := let ⟨_, _, _, ho, _⟩ := S; ⟨_, ho, rfl⟩
theorem any_at {B : Bool} {Q : Bool → Shared → Prop} (S : SetAt B s.heap a L1) (h : Q true s) : wpAny (model prog w) A (isAnySet (.ref a)) Q E s := by
  unfold isAnySet orM
  refine wpAny_bind (wpAny_isInstance S.type sub_ss ?_)
  exact wpAny_pure h
theorem copy_at {Q : Value → Shared → Prop} (S : SetAt (byT w) s.heap a L1) (D : Dense s.heap a)
    (h : ∀ h' L, (∀ b o, s.heap.get? b = some o → h'.get? b = some o) → SetAt (byT w) h' s.heap.objs.size L → (∀ u, u ∈ L ↔ u ∈ L1) → Q (.ref s.heap.objs.size) { s with heap := h' }) : wpAny (model prog w) A (copyOf a) Q E s := by
  unfold copyOf baseOf
  refine wpAny_bind (wpAny_bind (wpAny_isInstance S.type sub_ss (wpAny_pure ?_)))
  simp only [if_true]
  refine wpAny_bind (new_at ?_)
  show wpAny _ _ (do setMerge s.heap.objs.size a; pure (Value.ref s.heap.objs.size)) _ _ _
  have lt : a < s.heap.objs.size := by
    obtain ⟨_, _, _, ho, _⟩ := S
    exact Heap.lt_size ho
  have k : ∀ b o, s.heap.get? b = some o → (s.heap.push (setO #[] 0 (.fresh 0 0 (!byT w)))).get? b = some o := fun b o e => Heap.get?_push_of_some _ e
  refine wpAny_bind (merge_at (s := { s with heap := s.heap.push (setO #[] 0 (.fresh 0 0 (!byT w))) }) (L1 := []) (Nat.ne_of_gt lt) ⟨#[], 0, _, Heap.get?_push_size _ rfl, .nil, fresh_tb _⟩ (S.keep (k a)) (D.keep (k a)) (fun s' Q' _ q => wpAny_pure q) fun h' L sb S' mem => ?_)
  refine wpAny_pure (h h' L (fun b o e => ?_) S' fun u => by rw [mem u]; simp)
  have lb := Heap.lt_size e
  rw [sb.2 b (Nat.ne_of_lt lb)]
  exact k b o e
theorem epoch_at {es : Array (Int × Value)} {ep : Nat} {t : SetTable} {B : Bool} {Q : Nat → Shared → Prop} (ho : s.heap.get? a = some (setO es ep t)) (hE : Es es L1) (T : Tb B t L1) (h : Q ep s) : wpAny (model prog w) A (setEpoch a) Q E s :=
  wpAny_setEpoch_of ho rfl (by rw [hE.len]; exact T.fits) h
theorem union_at {id : String} {Q : Value → Shared → Prop} (ne : a ≠ b) (S1 : SetAt (byT w) s.heap a L1) (D1 : Dense s.heap a) (S2 : SetAt (byT w) s.heap b L2) (D2 : Dense s.heap b)
    (h : ∀ h' L, (∀ b o, s.heap.get? b = some o → h'.get? b = some o) → SetAt (byT w) h' s.heap.objs.size L → (∀ u, u ∈ L ↔ u ∈ L1 ∨ u ∈ L2) → Q (.ref s.heap.objs.size) { s with heap := h' }) :
    wpAny (model prog w) A (unionM id a (.ref b)) Q E s := by
  unfold unionM
  refine wpAny_bind (copy_at S1 D1 fun h1 L k S mem => ?_)
  have nb : (Value.ref b != Value.ref a) = true := by simp [Ne.symm ne]
  rw [nb]
  simp only [if_true]
  have S2' := S2.keep (k b)
  have D2' := D2.keep (k b)
  have lt : b < s.heap.objs.size := by
    obtain ⟨_, _, _, ho, _⟩ := S2
    exact Heap.lt_size ho
  have S2c := S2'
  obtain ⟨es, ep, t, ho, hE, T⟩ := S2c
  show wpAny _ _ (holding [Value.ref s.heap.objs.size] (updateFrom id s.heap.objs.size (.ref b)) >>= fun _ => pure (Value.ref s.heap.objs.size)) _ _ _
  refine wpAny_bind (wpAny_holding ?_)
  unfold updateFrom
  refine wpAny_bind (any_at (s := { s with heap := h1 }) S2' ?_)
  simp only [if_true]
  show wpAny _ _ (merge id s.heap.objs.size b) _ _ _
  unfold merge
  refine wpAny_bind (epoch_at (s := { s with heap := h1 }) ho hE T ?_)
  refine merge_at (s := { s with heap := h1 }) (Nat.ne_of_gt lt) S S2' D2' (fun s' Q' ks q => ?_) fun h' L' sb S' mem' => ?_
  · unfold unchanged
    refine wpAny_bind (epoch_at (s := s') (ks _ ho) hE T ?_)
    simp only [bne_self_eq_false, Bool.false_eq_true, if_false]
    exact wpAny_pure q
  · refine wpAny_pure (h h' L' (fun c o e => ?_) S' fun u => by rw [mem' u, mem u])
    rw [sb.2 c (Nat.ne_of_lt (Heap.lt_size e))]
    exact k c o e
/-- x | y of sets of small numbers -/
theorem or_at {Q : Value → Shared → Prop} (ne : a ≠ b) (S1 : SetAt (byT w) s.heap a L1) (D1 : Dense s.heap a) (S2 : SetAt (byT w) s.heap b L2) (D2 : Dense s.heap b)
    (h : ∀ h' L, (∀ b o, s.heap.get? b = some o → h'.get? b = some o) → SetAt (byT w) h' s.heap.objs.size L → (∀ u, u ∈ L ↔ u ∈ L1 ∨ u ∈ L2) → Q (.ref s.heap.objs.size) { s with heap := h' }) :
    wpAny (model prog w) A (binaryOp .BitOr (.ref a) (.ref b)) Q E s := by
  refine wpAny_binaryOp_same S1.type S2.type F.fills_set_or F.slot_set_or (wpAny_call_entry F.slot_set_or S1.type entry_or ?_ (F.args_set_or_2 _ _))
  rw [or_eq]
  refine wpAny_bind (m := slot1 "__or__" _) (wpAny_pure ?_)
  dsimp only
  unfold andM
  refine wpAny_bind (wpAny_bind (any_at S1 ?_))
  refine any_at S2 ?_
  simp only [Bool.not_true, Bool.false_eq_true, if_false]
  show wpAny _ _ (unionM _ a (.ref b) >>= fun v => ret v) _ _ _
  refine wpAny_bind (union_at ne S1 D1 S2 D2 fun h' L k S mem => ?_)
  exact wpAny_pure ⟨_, rfl, by simp, h h' L k S mem⟩
end
end Sm

set_option maxHeartbeats 4000000
namespace Sm
open PySem
theorem slot_si_next : Slot "set_iterator" "__next__" "set_iterator.__next__" := .of (owner := "set_iterator") (n := "__next__") (by rw [typeLookup_type, builtinLookup_eq_fast]; kernel_rfl) (by decide +kernel) (by decide +kernel) (by decide +kernel) (by first | exact .inl (by decide +kernel) | exact .inr (by decide +kernel)) (by rw [isSubtype_type]; kernel_rfl)
theorem entry_si_next : entryFor table "set_iterator.__next__" = some Builtin.«set_iterator.__next__» := entryFor_of_fast (by kernel_rfl)
theorem args_si_next (a : Value) : argsOk "set_iterator.__next__" ⟨[a], []⟩ := by unfold argsOk; kernel_rfl
theorem slot_si_iter : Slot "set_iterator" "__iter__" "set_iterator.__iter__" := .of (owner := "set_iterator") (n := "__iter__") (by rw [typeLookup_type, builtinLookup_eq_fast]; kernel_rfl) (by decide +kernel) (by decide +kernel) (by decide +kernel) (by first | exact .inl (by decide +kernel) | exact .inr (by decide +kernel)) (by rw [isSubtype_type]; kernel_rfl)
theorem args_si_iter (a : Value) : argsOk "set_iterator.__iter__" ⟨[a], []⟩ := by unfold argsOk; kernel_rfl
end Sm

set_option maxHeartbeats 4000000
namespace Sm
open PySem
theorem entry_si_iter : entryFor table "set_iterator.__iter__" = some Builtin.«dict_keyiterator.__iter__» := entryFor_alias (id' := "dict_keyiterator.__iter__") (by kernel_rfl) rfl (by decide +kernel) (by kernel_rfl)
/-- the entries as they are walked -/
def walked (w : World) (a : Addr) (ep : Nat) (es : Array (Int × Value)) : Array (Int × Value) := if byT w = true then pickOrder (w.params.setOrder a ep) es else es
theorem walked_perm (w : World) (a : Addr) (ep : Nat) (es : Array (Int × Value)) : (walked w a ep es).toList.Perm es.toList := by
  unfold walked
  split
  · exact pick_perm _ _
  · exact .rfl
theorem walked_size (w : World) (a : Addr) (ep : Nat) (es : Array (Int × Value)) : (walked w a ep es).size = es.size := by
  have := (walked_perm w a ep es).length_eq
  simpa using this
theorem next_eq (a : Addr) (slot given epochThen : Nat) : setNext a slot given epochThen = (do
  let (xs, c, tb) ← setState a
  if ← setsByText then
    if c != epochThen then
      unsupported "set_iterator.__next__:elements-changed"
    let zs ← setWalk a
    return (zs[given]?).map fun z => (z.2, slot)
  if !tb.plain && xs.size > 1 then
    unsupported "set_iterator.__next__:the-table-is-plain-no-more"
  (do if !tb.led && !xs.isEmpty then unsupported "set:maker-not-led" : Sem Unit)
  return match xs[SetTable.below tb.place slot]?, tb.place[SetTable.below tb.place slot]? with
    | some (_, z), some m => some (z, m + 1)
    | _, _ => none) := rfl
def slotOf (B : Bool) (t : SetTable) (i : Nat) : Nat := if B = true then 0 else if i = 0 then 0 else t.place.getD (i - 1) 0 + 1
theorem below_slot {B : Bool} {t : SetTable} {L : List Nat} (T : Tb B t L) (hB : B = false) : ∀ i, i ≤ L.length → SetTable.below t.place (slotOf B t i) = i
  | 0, _ => by
    unfold slotOf
    rw [hB]
    exact below_zero T.up
  | k + 1, h => by
    unfold slotOf
    rw [hB]
    have hk : k < t.place.size := by rw [T.sz]; omega
    simp only [Bool.false_eq_true, if_false, Nat.add_sub_cancel]
    rw [if_neg (by omega)]
    have : t.place.getD k 0 = t.place[k] := by simp [Array.getD, hk]
    rw [this]
    exact below_next T.up hk
section
variable {prog : Program} {w : World} {A : Around} {E : Value → Shared → Prop} {s : Shared} {a : Addr} {L : List Nat}
theorem walk_is {es : Array (Int × Value)} {ep : Nat} {t : SetTable} {Q : Array (Int × Value) → Shared → Prop} (ho : s.heap.get? a = some (setO es ep t)) (hE : Es es L) (T : Tb (byT w) t L)
    (h : Q (walked w a ep es) s) : wpAny (model prog w) A (setWalk a) Q E s := by
  rw [walk_eq]
  refine wpAny_bind (state_at ho hE T ?_)
  refine wpAny_bind (byText_at ?_)
  have pl := T.pl
  have ld := T.led
  unfold walked at h
  cases c : byT w with
  | true =>
    rw [c] at h
    simp only [if_true] at h ⊢
    exact wpAny_bind (wpAny_askSetting (wpAny_pure h))
  | false =>
    rw [c] at ld h
    simp only [pl, ld, Bool.not_true, Bool.not_false, Bool.false_and, Bool.false_eq_true, if_false] at h ⊢
    first | exact wpAny_bind (wpAny_pure (wpAny_pure h)) | exact wpAny_pure h
theorem snext_at {es : Array (Int × Value)} {ep i : Nat} {t : SetTable} {Q : Option (Value × Nat) → Shared → Prop} (ho : s.heap.get? a = some (setO es ep t)) (hE : Es es L) (T : Tb (byT w) t L) (hi : i ≤ L.length)
    (h : Q (((walked w a ep es)[i]?).map fun e => (e.2, slotOf (byT w) t (i + 1))) s) : wpAny (model prog w) A (setNext a (slotOf (byT w) t i) i ep) Q E s := by
  rw [next_eq]
  refine wpAny_bind (state_at ho hE T ?_)
  refine wpAny_bind (byText_at ?_)
  have pl := T.pl
  have ld := T.led
  cases c : byT w with
  | true =>
    simp only [if_true, bne_self_eq_false, Bool.false_eq_true, if_false]
    refine wpAny_bind (walk_is ho hE T (wpAny_pure ?_))
    rw [c] at h
    unfold slotOf at h ⊢
    simp only [if_true] at h ⊢
    exact h
  | false =>
    rw [c] at ld h
    simp only [pl, ld, Bool.not_true, Bool.not_false, Bool.false_and, Bool.false_eq_true, if_false]
    have bs := below_slot T c i hi
    rw [c] at bs
    rw [bs]
    have wk : walked w a ep es = es := by unfold walked; rw [c]; rfl
    rw [wk] at h
    have e : (match es[i]?, t.place[i]? with
      | some (_, z), some m => some (z, m + 1)
      | _, _ => none) = (es[i]?).map fun e => (e.2, slotOf false t (i + 1)) := by
      by_cases q : i < L.length
      · have h1 : i < es.size := by rw [hE.len]; exact q
        have h2 : i < t.place.size := by rw [T.sz]; exact q
        rw [Array.getElem?_eq_getElem h1, Array.getElem?_eq_getElem h2]
        unfold slotOf
        simp [Array.getD, h2]
      · have h1 : es[i]? = none := Array.getElem?_eq_none (by rw [hE.len]; omega)
        rw [h1]
        rfl
    first
    | exact wpAny_bind (wpAny_pure (wpAny_pure (by rw [e]; exact h)))
    | exact wpAny_pure (by rw [e]; exact h)
abbrev itO (sl i : Nat) (a : Addr) (n ep : Nat) : Obj := { cls := .type "set_iterator", dict := none, data := .fields #[.int (sl : Nat) 0, .int (i : Nat) 0, .ref a, .int (n : Nat) 0, .int (ep : Nat) 0], slots := #[] }
theorem item_at {I : Addr} {es : Array (Int × Value)} {ep i : Nat} {t : SetTable} {e : Int × Value} {Q : Option Value → Shared → Prop} (ne : a ≠ I) (ho : s.heap.get? a = some (setO es ep t)) (hE : Es es L) (T : Tb (byT w) t L)
    (hI : s.heap.get? I = some (itO (slotOf (byT w) t i) i a L.length ep)) (hw : (walked w a ep es)[i]? = some e)
    (h : ∀ h', h'.get? I = some (itO (slotOf (byT w) t (i + 1)) (i + 1) a L.length ep) → Heap.SameBut I s.heap h' → Q (some e.2) { s with heap := h' }) : wpAny (model prog w) A (pyNext (.ref I)) Q E s := by
  have hi : i < L.length := by
    rcases Nat.lt_or_ge i (walked w a ep es).size with q | q
    · rw [walked_size, hE.len] at q; exact q
    · rw [Array.getElem?_eq_none q] at hw; cases hw
  have hT : s.TypeIs (.ref I) "set_iterator" := ⟨_, hI, rfl⟩
  unfold pyNext
  refine wpAny_bind (wpAny_attempt (wpAny_callSpecial?_slot (name := Str.ofString "__next__") hT slot_si_next (wpAny_call_entry slot_si_next hT entry_si_next ?_ (args_si_next _))))
  unfold Builtin.«set_iterator.__next__»
  refine wpAny_bind (m := slotArgs "__next__" 0 _) (wpAny_pure ?_)
  dsimp only
  refine wpAny_bind (wpAny_fieldsOf hI rfl ?_)
  dsimp only
  unfold setEntries
  refine wpAny_bind (wpAny_bind (state_at ho hE T (wpAny_pure ?_)))
  have z : (((es.size : Nat) : Int) != ((L.length : Nat) : Int)) = false := by rw [hE.len]; simp
  dsimp only
  rw [z]
  simp only [Bool.false_eq_true, if_false, Int.toNat_natCast]
  refine wpAny_bind (snext_at ho hE T (by omega) ?_)
  rw [hw]
  dsimp only [Option.map]
  refine wpAny_bind (wpAny_setField_rec hI (by simp) fun h1 hI1 sb1 => ?_)
  refine wpAny_bind (wpAny_setField_rec (s := { s with heap := h1 }) hI1 (by simp) fun h2 hI2 sb2 => ?_)
  refine wpAny_pure ⟨_, rfl, wpAny_pure (h h2 ?_ (sb1.trans sb2))⟩
  rw [hI2]
  simp [rawInt]
theorem end_at {I : Addr} {es : Array (Int × Value)} {ep : Nat} {t : SetTable} {Q : Option Value → Shared → Prop} (hh : A.handled = none) (ne : a ≠ I) (ho : s.heap.get? a = some (setO es ep t)) (hE : Es es L) (T : Tb (byT w) t L)
    (hI : s.heap.get? I = some (itO (slotOf (byT w) t L.length) L.length a L.length ep))
    (h : ∀ h', Heap.ExtBut I s.heap h' → Q none { s with heap := h' }) : wpAny (model prog w) A (pyNext (.ref I)) Q E s := by
  have hT : s.TypeIs (.ref I) "set_iterator" := ⟨_, hI, rfl⟩
  unfold pyNext
  refine wpAny_bind (wpAny_attempt (wpAny_callSpecial?_slot (name := Str.ofString "__next__") hT slot_si_next (wpAny_call_entry slot_si_next hT entry_si_next ?_ (args_si_next _))))
  unfold Builtin.«set_iterator.__next__»
  refine wpAny_bind (m := slotArgs "__next__" 0 _) (wpAny_pure ?_)
  dsimp only
  refine wpAny_bind (wpAny_fieldsOf hI rfl ?_)
  dsimp only
  unfold setEntries
  refine wpAny_bind (wpAny_bind (state_at ho hE T (wpAny_pure ?_)))
  have z : (((es.size : Nat) : Int) != ((L.length : Nat) : Int)) = false := by rw [hE.len]; simp
  dsimp only
  rw [z]
  simp only [Bool.false_eq_true, if_false, Int.toNat_natCast]
  refine wpAny_bind (snext_at ho hE T (by omega) ?_)
  rw [Array.getElem?_eq_none (by rw [walked_size, hE.len]; exact Nat.le_refl _)]
  dsimp only [Option.map]
  refine wpAny_bind (wpAny_setField_rec hI (by simp) fun h1 hI1 sb1 => ?_)
  refine wpAny_bind ?_
  simp only [newExc, newTuple]
  refine wpAny_bind (wpAny_newObj_type ?_ (by size_fits))
  refine wpAny_bind (m := firstArgMember _ _) (wpAny_of_eq (a := Value.none) (by first | rfl | (simp only [firstArgMember]; rfl)) ?_); refine wpAny_newObj_type ?_ (by size_fits)
  simp only [raiseNew]
  refine wpAny_bind (wpAny_handled ?_)
  rw [show A.in1.handled = none from hh]; refine wpAny_bind (wpAny_pure (wpAny_throw ?_))
  refine wpAny_bind (wpAny_isInstance (U := "StopIteration") (T := "StopIteration") (b := true) ⟨_, Heap.get?_push_size _ rfl, rfl⟩ isSubtype_stop ?_)
  exact wpAny_pure (h _ ((sb1.extBut.push _).push _))
end
end Sm

set_option maxHeartbeats 4000000
namespace Sm
open PySem PyProof.Rows
section
variable {prog : Program} {w : World} {A : Around} {E : Value → Shared → Prop} {s : Shared} {a : Addr} {L : List Nat}
theorem sWalks {I : Addr} {es : Array (Int × Value)} {ep : Nat} {t : SetTable} (hh : A.handled = none) (ne : a ≠ I) (hE : Es es L) (T : Tb (byT w) t L) :
    Walks prog w A I [I, a] [I] L.length (fun i v => ∃ e, (walked w a ep es)[i]? = some e ∧ v = e.2)
      (fun i h => h.get? I = some (itO (slotOf (byT w) t i) i a L.length ep) ∧ h.get? a = some (setO es ep t)) where
  sub := fun b hb => by simp at hb; simp [hb]
  frame := fun _ _ _ st hk => ⟨hk I (by simp) _ st.1, hk a (by simp) _ st.2⟩
  item := fun i s Q E hi st hQ => by
    obtain ⟨e, he⟩ : ∃ e, (walked w a ep es)[i]? = some e := ⟨_, Array.getElem?_eq_getElem (by rw [walked_size, hE.len]; exact hi)⟩
    refine item_at ne st.2 hE T st.1 he fun h' hI sb => ?_
    exact hQ _ h' s.toks ⟨e, he, rfl⟩ ⟨hI, by rw [sb.2 a ne]; exact st.2⟩ fun b o hb q => by rw [sb.2 b (fun c => hb (by simp [c]))]; exact q
  done := fun s Q E st hQ => end_at hh ne st.2 hE T st.1 fun h' xb => hQ h' s.toks fun b o hb q => xb b o (fun c => hb (by simp [c])) q
  self := fun i s Q E st hQ => by
    have hT : s.TypeIs (.ref I) "set_iterator" := ⟨_, st.1, rfl⟩
    refine wpAny_pyIter_slot hT slot_si_iter (wpAny_call_entry slot_si_iter hT entry_si_iter ?_ (args_si_iter _))
    show wpAny _ _ (ret (Value.ref I)) _ _ s; exact wpAny_pure ⟨_, rfl, "set_iterator", _, hT, slot_si_next.lookup, hQ⟩
theorem drawn_eq (a : Addr) : setDrawn a = (do
  let (es, _, t) ← setState a
  let byText ← setsByText
  return !byText && (!t.plain && es.size > 1)) := rfl
theorem iter_at {es : Array (Int × Value)} {ep : Nat} {t : SetTable} {Q : Value → Shared → Prop} (ho : s.heap.get? a = some (setO es ep t)) (hE : Es es L) (T : Tb (byT w) t L)
    (h : Q (.ref s.heap.objs.size) { s with heap := s.heap.push (itO 0 0 a L.length ep) }) : wpAny (model prog w) A (pyIter (.ref a)) Q E s := by
  have hT : s.TypeIs (.ref a) "set" := ⟨_, ho, rfl⟩
  refine wpAny_pyIter_slot hT F.slot_set_iter (wpAny_call_entry F.slot_set_iter hT entry_iter ?_ (F.args_set_iter_1 _))
  unfold Builtin.«frozenset.__iter__»
  refine wpAny_bind (m := Builtin.Frozenset.slot0 _ _) (wpAny_pure ?_)
  unfold Builtin.Frozenset.sizeOf setEntries
  refine wpAny_bind (wpAny_bind (wpAny_bind (state_at ho hE T (wpAny_pure (wpAny_pure ?_)))))
  rw [drawn_eq]
  refine wpAny_bind (wpAny_bind (state_at ho hE T ?_))
  refine wpAny_bind (byText_at (wpAny_pure ?_))
  rw [T.pl]
  simp only [Bool.not_true, Bool.false_and, Bool.and_false, Bool.false_eq_true, if_false]
  refine wpAny_bind (wpAny_pure ?_)
  refine wpAny_bind (epoch_at ho hE T ?_)
  refine wpAny_bind ?_
  unfold newFields
  refine wpAny_newObj_type ?_
  refine wpAny_pure ⟨_, rfl, "set_iterator", _, ⟨_, Heap.get?_push_size _ rfl, rfl⟩, slot_si_next.lookup, ?_⟩
  rw [hE.len]
  exact h
theorem no_list : (Value.type "set" == Value.type "list") = false := by decide
theorem no_tup : (Value.type "set" == Value.type "tuple") = false := by decide
theorem len_slot : typeLookup (.type "set") "__len__" = pure (some (.builtin "set.__len__")) := F.slot_set_len.lookup
theorem split_len : splitId "set.__len__" = some ("set", "__len__") := by decide +kernel
theorem collect_set {es : Array (Int × Value)} {ep : Nat} {t : SetTable} {Q : List Value → Shared → Prop} (hh : A.handled = none) (ho : s.heap.get? a = some (setO es ep t)) (hE : Es es L) (T : Tb (byT w) t L)
    (h : ∀ (h' : Heap) (tk : Nat), (∀ b o, s.heap.get? b = some o → h'.get? b = some o) → s.heap.objs.size < h'.objs.size → Q ((walked w a ep es).toList.map (·.2)) { s with heap := h', toks := tk }) : wpAny (model prog w) A (collect (.ref a)) Q E s := by
  have lt : a < s.heap.objs.size := Heap.lt_size ho
  unfold collect
  refine wpAny_bind (wpAny_runValue (codeAny_builtin F.entry_proto_collect ?_))
  rw [Around.under_plainId F.plain_proto_collect _]
  show wpAny _ A.in1 (newList [] >>= fun l => again (.builtin "list.__iadd__" ⟨[l, .ref a], []⟩)) _ _ s
  refine wpAny_bind (wpAny_newObj_type (wpAny_pure ⟨plainId_quiet F.plain_list_iadd _, codeAny_builtin F.entry_list_iadd ?_⟩))
  rw [Around.under_plainId F.plain_list_iadd _]
  have S0 : (s.heap.push { cls := .type "list", data := .seq ([] : List Value).toArray }).get? s.heap.objs.size = some { cls := .type "list", data := .seq ([] : List Value).toArray } := Heap.get?_push_size _ rfl
  have ho1 : (s.heap.push { cls := .type "list", data := .seq ([] : List Value).toArray }).get? a = some (setO es ep t) := Heap.get?_push_of_some _ ho
  have hT1 : Shared.TypeIs { s with heap := s.heap.push { cls := .type "list", data := .seq ([] : List Value).toArray } } (.ref a) "set" := ⟨_, ho1, rfl⟩
  show wpAny _ A.in1 (Builtin.List.listExtendWith (.ref s.heap.objs.size) (.ref a) (.ref s.heap.objs.size)) _ _ { s with heap := s.heap.push { cls := .type "list", data := .seq ([] : List Value).toArray } }
  unfold Builtin.List.listExtendWith
  refine wpAny_bind (wpAny_typeOf hT1 ?_)
  have n1 : Builtin.List.listSameRef (.ref s.heap.objs.size) (.ref a) = false := by simp [Builtin.List.listSameRef, Nat.ne_of_gt lt]
  simp only [n1, no_list, no_tup, Bool.or_false, Bool.false_eq_true, if_false]
  refine wpAny_bind (iter_at ho1 hE T ?_)
  refine wpAny_bind (wpAny_holding ?_)
  have ho2 : ((s.heap.push { cls := .type "list", data := .seq ([] : List Value).toArray }).push (itO 0 0 a L.length ep)).get? a = some (setO es ep t) := Heap.get?_push_of_some _ ho1
  have hT2 : Shared.TypeIs { s with heap := (s.heap.push { cls := .type "list", data := .seq ([] : List Value).toArray }).push (itO 0 0 a L.length ep) } (.ref a) "set" := ⟨_, ho2, rfl⟩
  unfold Builtin.List.listLengthHint
  refine wpAny_bind (wpAny_specialOf hT2 len_slot ?_)
  dsimp only
  rw [split_len]
  dsimp only
  refine wpAny_bind (wpAny_isInstance hT2 sub_ss ?_)
  rw [if_neg (by decide)]
  rw [if_pos (by decide +kernel)]
  refine wpAny_bind (wpAny_typeOf hT2 ?_)
  dsimp only
  refine wpAny_pure ?_
  rw [if_pos (by decide +kernel)]
  refine wpAny_bind (wpAny_rule ?_)
  have lsz : (s.heap.push { cls := .type "list", data := .seq ([] : List Value).toArray }).objs.size = s.heap.objs.size + 1 := size_push' _ _
  have S1 : ((s.heap.push { cls := .type "list", data := .seq ([] : List Value).toArray }).push (itO 0 0 a L.length ep)).get? s.heap.objs.size = some { cls := .type "list", data := .seq ([] : List Value).toArray } := Heap.get?_push_of_some _ S0
  refine wpAny_bind ?_
  show wpAny _ A.in1 (updateSeq s.heap.objs.size (·.push .none) >>= fun _ => updateSeq s.heap.objs.size (·.pop)) _ _ _
  refine wpAny_bind (wpAny_updateSeq S1 rfl ?_)
  have S2 := Heap.get?_update_self (Obj.mapSeq (·.push Value.none)) S1 rfl
  refine wpAny_updateSeq S2 rfl ?_
  have S3 := Heap.get?_update_self (Obj.mapSeq (·.pop)) S2 rfl
  have oth : ∀ b o, b ≠ s.heap.objs.size → ((s.heap.push { cls := .type "list", data := .seq ([] : List Value).toArray }).push (itO 0 0 a L.length ep)).get? b = some o →
      ((((s.heap.push { cls := .type "list", data := .seq ([] : List Value).toArray }).push (itO 0 0 a L.length ep)).update s.heap.objs.size (Obj.mapSeq (·.push Value.none))).update s.heap.objs.size (Obj.mapSeq (·.pop))).get? b = some o :=
    fun b o hb e => (Heap.get?_update_other _ _ (Ne.symm hb)).trans ((Heap.get?_update_other _ _ (Ne.symm hb)).trans e)
  have neI : a ≠ (s.heap.push { cls := .type "list", data := .seq ([] : List Value).toArray }).objs.size := by rw [lsz]; exact Nat.ne_of_lt (Nat.lt_succ_of_lt lt)
  have W := (sWalks (prog := prog) (w := w) (A := A.in1) (I := (s.heap.push { cls := .type "list", data := .seq ([] : List Value).toArray }).objs.size) (ep := ep) (by simpa using hh) neI hE T).toS
  have l16 := T.len
  have sl0 : slotOf (byT w) t 0 = 0 := by unfold slotOf; split <;> rfl
  refine wpAny_pure ⟨plainId_quiet F.plain_extend_loop _, codeAny_extend_loopS W (by rw [sizeLine_eq]; omega) _ (by
      rw [lsz]; simp only [List.mem_cons, List.not_mem_nil, or_false, not_or]; exact ⟨Nat.ne_of_lt (Nat.lt_succ_self _), Nat.ne_of_gt lt⟩) _ _ 0 _ #[] _ rfl (Nat.zero_le _) ⟨?_, ?_⟩ S3 (ItemsOf.nil _) fun s' acc' c' hm hS' hacc => ?_⟩
  · refine oth _ _ (by rw [lsz]; exact Nat.ne_of_gt (Nat.lt_succ_self _)) ?_
    rw [sl0]
    exact Heap.get?_push_size _ rfl
  · exact oth _ _ (Nat.ne_of_lt lt) ho2
  · obtain ⟨h', g', d', tk', os'⟩ := s'
    have eg : g' = s.gens := hm.gens
    have ed : d' = s.drawn := hm.drawn
    have eo : os' = s.os := hm.os
    subst eg; subst ed; subst eo
    show wpAny _ A (load s.heap.objs.size >>= _) _ _ _
    refine wpAny_bind (wpAny_load hS' ?_)
    dsimp only
    have el : acc'.toList = (walked w a ep es).toList.map (·.2) := by
      apply List.ext_getElem?
      intro i
      rw [Array.getElem?_toList, List.getElem?_map, Array.getElem?_toList]
      rcases Nat.lt_or_ge i acc'.size with q | q
      · obtain ⟨e, he, hv⟩ := hacc.2 i acc'[i] (Array.getElem?_eq_getElem q)
        rw [Array.getElem?_eq_getElem q, he, hv]
        rfl
      · rw [Array.getElem?_eq_none q, Array.getElem?_eq_none (by rw [walked_size, hE.len, ← hacc.1]; exact q)]
        rfl
    rw [el]
    refine wpAny_pure (h h' tk' (fun b o e => ?_) (Heap.lt_size hS'))
    have lb : b < s.heap.objs.size := Heap.lt_size e
    refine hm.heap b o (by rw [lsz]; simp only [List.mem_cons, List.not_mem_nil, or_false, not_or]; exact ⟨Nat.ne_of_lt lb, Nat.ne_of_lt (Nat.lt_succ_of_lt lb)⟩) (oth b o (Nat.ne_of_lt lb) (Heap.get?_push_of_some _ (Heap.get?_push_of_some _ e)))
theorem sh_old {h : Heap} {a b : Addr} {vs : List Value} {out : Array Value} {o : Obj} (lb : b < h.objs.size) (ne : b ≠ a) (e : h.get? b = some o) : (sortedHeap h a vs out).get? b = some o := by
  unfold sortedHeap
  rw [Heap.get?_update_ne _ _ _ _ ne]
  exact Heap.get?_push_of_some _ (Heap.get?_push_of_some _ (by rw [Heap.get?_update_ne _ _ _ _ ne]; exact e))
theorem sh_at {h : Heap} {a : Addr} {vs : List Value} {xs out : Array Value} {n : Nat} (e : h.get? a = some (seqObj "list" xs n)) : ∃ n', (sortedHeap h a vs out).get? a = some (seqObj "list" out n') := by
  unfold sortedHeap
  exact ⟨_, get?_update_seq (Heap.get?_push_of_some _ (Heap.get?_push_of_some _ (get?_update_seq e fun _ => #[]))) fun _ => out⟩
/-- sorted(x), x a set of small numbers -/
theorem sorted_set {Q : Value → Shared → Prop} (hh : A.handled = none) (S : SetAt (byT w) s.heap a L)
    (h : ∀ (h' : Heap) (tk : Nat) (p : Addr) (vs : List Value) (n : Nat) (ns : List Int), (∀ b o, s.heap.get? b = some o → h'.get? b = some o) → s.heap.objs.size ≤ p → h'.get? p = some (seqObj "list" vs.toArray n) → IntsAre vs ns →
      ns.Perm (L.map fun v => ((v : Nat) : Int)) → ns.Pairwise (· ≤ ·) → Q (.ref p) { s with heap := h', toks := tk }) : wpAny (model prog w) A (call (.builtin "sorted") [.ref a]) Q E s := by
  obtain ⟨es, ep, t, ho, hE, T⟩ := S
  have l16 := T.len
  apply Calls.call_function_entry kind_sorted plain_sorted entry_sorted (args_sorted1 _)
  unfold Builtin.«sorted»
  refine wpAny_bind (m := checkCount "sorted" 1 1 _) (wpAny_pure ?_); refine wpAny_bind (collect_set (by simpa using hh) ho hE T fun h1 tk k lz => ?_)
  obtain ⟨L', hP, pm⟩ := hE.perm (walked_perm w a ep es)
  have hl : L'.length = L.length := pm.length_eq
  have hI : IntsAre ((walked w a ep es).toList.map (·.2)) (L'.map fun v => ((v : Nat) : Int)) := by
    generalize (walked w a ep es).toList = l at hP
    clear pm hl
    induction hP with
    | nil => exact .nil
    | cons r _ ih =>
      obtain ⟨q, e⟩ := r.2
      rw [List.map_cons, List.map_cons, e]
      exact .cons _ q ih
  have hn : ((walked w a ep es).toList.map (·.2)).length = L.length := by rw [List.length_map, Array.length_toList, walked_size, hE.len]
  refine wpAny_bind (wpAny_newList ?_ (by rw [hn, sizeLine_eq]; omega))
  have o1 : (h1.push (seqObj "list" ((walked w a ep es).toList.map (·.2)).toArray 0)).get? h1.objs.size = some (seqObj "list" ((walked w a ep es).toList.map (·.2)).toArray 0) := Heap.get?_push_size _ rfl
  refine wpAny_bind (wpAny_holding (wpAny_call_entry slot_list_sort ⟨_, o1, rfl⟩ entry_list_sort (list_sort_tree o1 hI (by rw [hn]; omega) fun out ns a1 a2 a3 => ⟨_, rfl, ?_⟩) (args_list_sort _)))
  obtain ⟨n', o2⟩ := sh_at (vs := (walked w a ep es).toList.map (·.2)) (out := out) o1
  refine wpAny_pure ⟨_, rfl, h _ _ _ out.toList n' ns (fun b o e => ?_) (Nat.le_of_lt lz) (by simpa using o2) a1 (a2.trans (pm.map _)) a3⟩
  have lb : b < h1.objs.size := Nat.lt_trans (Heap.lt_size e) lz
  exact sh_old (by rw [size_push']; exact Nat.lt_succ_of_lt lb) (Nat.ne_of_lt lb) (Heap.get?_push_of_some _ (k b o e))
end
end Sm

set_option maxHeartbeats 4000000
namespace Sm
open PySem PyProof.Rows
section
variable {prog : Program} {w : World} {A : Around} {R : Result → Shared → Prop} {I : Addr} {fp wr : List Addr} {G : Array GenState → Array GenState → Prop} {n : Nat} {P : Nat → Value → Prop} {St : Nat → Shared → Prop}
theorem fill_at (W : WalksS prog w A.in1 I fp wr G n P St) (S : Addr) (nf : S ∉ fp) (val : Nat → Nat) (hv : ∀ i v, i < n → P i v → ∃ t, v = .int ((val i : Nat) : Int) t) (lt : ∀ i, i < n → val i < 16) :
    ∀ (k i : Nat) (s : Shared) (L : List Nat), n - i = k → i ≤ n → St i s → SetAt (byT w) s.heap S L → Dense s.heap S → (∀ u, u ∈ L ↔ ∃ j, j < i ∧ val j = u) →
      (∀ s' L', Moved (S :: wr) G s s' → SetAt (byT w) s'.heap S L' → Dense s'.heap S → (∀ u, u ∈ L' ↔ ∃ j, j < n ∧ val j = u) → R (.ok (.ret .none)) s') →
      codeAny (model prog w) A (.builtin "set.update.loop" ⟨[.ref S, .ref I], []⟩) R s := by
  have nw : S ∉ wr := fun h => nf (W.sub _ h)
  have up : ∀ b ∈ wr, b ∈ S :: wr := fun b hb => List.mem_cons_of_mem _ hb
  intro k
  induction k with
  | zero =>
    intro i s L hk hi st hS hD mem hR
    obtain rfl : i = n := by omega
    refine codeAny_builtin F.entry_set_update_loop ?_
    rw [Around.under_plainId F.plain_set_update_loop _]; show wpAny _ A.in1 (pyNext (.ref I) >>= _) _ _ s; refine wpAny_bind (W.done s _ _ st fun s' hm => ?_)
    exact wpAny_pure (hR s' L (hm.mono up) (hS.keep fun o e => hm.heap S o nw e) (hD.keep fun o e => hm.heap S o nw e) mem)
  | succ k ih =>
    intro i s L hk hi st hS hD mem hR
    have li : i < n := by omega
    refine codeAny_builtin F.entry_set_update_loop ?_
    rw [Around.under_plainId F.plain_set_update_loop _]; show wpAny _ A.in1 (pyNext (.ref I) >>= _) _ _ s; refine wpAny_bind (W.item i s _ _ li st fun v s' hP st' hm => ?_)
    obtain ⟨t, rfl⟩ := hv i v li hP
    have hS' := hS.keep fun o e => hm.heap S o nw e
    have hD' := hD.keep fun o e => hm.heap S o nw e
    show wpAny _ A.in1 (holding [Value.int ((val i : Nat) : Int) t] (setAdd S (.int ((val i : Nat) : Int) t)) >>= _) _ _ s'
    refine wpAny_bind (wpAny_holding ?_)
    unfold setAdd
    refine wpAny_holding (wpAny_bind ((intKind prog w).pyHash (k := ((val i : Nat) : Int)) (intKind_is _ _ _ _) ?_))
    have eh : (intKind prog w).hash ((val i : Nat) : Int) = ((val i : Nat) : Int) := hash16 _ (lt i li)
    rw [eh]
    refine add_at (s := { s' with toks := s'.toks + 1 }) hS' (lt i li) fun b h' L' sb S2 mem2 dn => ?_
    refine wpAny_pure ⟨plainId_quiet F.plain_set_update_loop _, ih (i + 1) _ L' (by omega) li (W.frame _ s' _ _ st' (Nat.le_succ _) fun c hc o e => ?_) S2 (dn hD') (fun u => ?_) fun s2 L2 hm2 h2 h3 h4 => hR s2 L2 (Moved.trans W.gtrans ((hm.mono up).then_heap (Nat.le_succ _) fun c o hc e => ?_) hm2) h2 h3 h4⟩
    · rw [sb.2 c (fun q : c = S => nf (by rw [← q]; exact hc))]; exact e
    · rw [mem2 u, mem u]
      constructor
      · rintro (rfl | ⟨j, hj, e⟩)
        · exact ⟨i, Nat.lt_succ_self _, rfl⟩
        · exact ⟨j, Nat.lt_succ_of_lt hj, e⟩
      · rintro ⟨j, hj, e⟩
        rcases Nat.lt_or_ge j i with q | q
        · exact .inr ⟨j, q, e⟩
        · obtain rfl : j = i := by omega
          exact .inl e.symm
    · rw [sb.2 c (fun q : c = S => hc (by rw [q]; exact List.mem_cons_self))]; exact e
end
section
variable {prog : Program} {w : World} {A : Around} {E : Value → Shared → Prop} {s : Shared}
theorem newS_at (a : Value) {Q : Value → Shared → Prop} (h : Q (.ref s.heap.objs.size) { s with heap := s.heap.push (setO #[] 0 (.fresh 0 0 (!byT w))) }) :
    codeAny (model prog w) A (.call (.builtin "set.__new__") ⟨[.type "set", a], []⟩) (wants Q E) s := by
  refine codeAny_of_tree ?_
  show wpAny _ A.in1 (do checkBuiltinCall "set.__new__" ⟨[.type "set", a], []⟩; again (.builtin "set.__new__" ⟨[.type "set", a], []⟩)) _ _ s; refine wpAny_bind (wpAny_of_eq (F.newCall_set_1 a) (wpAny_pure ⟨plainId_quiet F.plain_set_new _, codeAny_builtin F.entry_set_new ?_⟩))
  rw [Around.under_plainId F.plain_set_new _]
  unfold Builtin.«set.__new__» Builtin.Frozenset.newClass
  have hsub := sub_set_self
  obtain ⟨hp, g, d, tk, os⟩ := s
  dsimp only at h ⊢
  wp_walk
  refine wpAny_askSetting (wpAny_pure ?_)
  dsimp only
  simp only [newObj]
  exact wpAny_bind (wpAny_alloc (wpAny_pure (wpAny_pure h)))
set_option maxHeartbeats 8000000 in
/-- set(xs), xs a list of small numbers -/
theorem set_at {l : Addr} {items : Array Value} {vals : List Nat} {Q : Value → Shared → Prop} (hh : A.handled = none) (hl : s.heap.IsList l items) (hi : IntsAre items.toList (vals.map fun v => ((v : Nat) : Int))) (lt : ∀ v ∈ vals, v < 16)
    (h : ∀ (h' : Heap) (tk : Nat) (L : List Nat), SetAt (byT w) h' s.heap.objs.size L → Dense h' s.heap.objs.size → (∀ u, u ∈ L ↔ u ∈ vals) → (∀ b o, b < s.heap.objs.size → s.heap.get? b = some o → h'.get? b = some o) → Q (.ref s.heap.objs.size) { s with heap := h', toks := tk }) :
    wpAny (model prog w) A (call (.type "set") [.ref l]) Q E s := by
  obtain ⟨c, tl, hmro⟩ := F.called_set.mro
  have hmade := F.called_set.made
  have hsub := F.called_set.sub
  have hlen : items.size = vals.length := by
    have := hi.length
    simpa using this
  refine wpAny_call (codeAny_of_tree ?_)
  show wpAny _ _ (callAny (.type "set") _) _ _ _; refine wpAny_pure ⟨Code.quiet_builtin _ (by decide +kernel), codeAny_builtin F.entry_type_call ?_⟩
  rw [Around.under_plain (weight_type_call_type "set" [.ref l] []) rfl]; have h1 := F.called_set.notType
  have h2 := F.called_set.canCreate
  have hct := F.typeCall_set_1 (.ref l)
  repeat (any_goals (first | assumption | wp_step))
  refine codeAny_mono (newS_at (.ref l) (E := E) (Q := fun obj s₁ => obj = .ref s.heap.objs.size ∧ s₁ = { s with heap := s.heap.push (setO #[] 0 (.fresh 0 0 (!byT w))) }) ⟨rfl, rfl⟩) fun r s₁ hr => ?_
  cases r with
  | error e => exact hr
  | ok fl =>
    cases fl with
    | ret obj =>
      obtain ⟨rfl, rfl⟩ := hr
      have gS : (s.heap.push (setO #[] 0 (.fresh 0 0 (!byT w)))).get? s.heap.objs.size = some (setO #[] 0 (.fresh 0 0 (!byT w))) := Heap.get?_push_size _ rfl
      have hT : Shared.TypeIs { s with heap := s.heap.push (setO #[] 0 (.fresh 0 0 (!byT w))) } (.ref s.heap.objs.size) "set" := ⟨_, gS, rfl⟩
      have hli := F.called_set.init.lookup
      have hbi := F.called_set.init.bind (.ref s.heap.objs.size)
      repeat (any_goals (first | assumption | wp_step))
      refine codeAny_mono (codeAny_call_builtin (R := wants (fun r s₂ => r = .none ∧ ∃ h' tk L, s₂ = { s with heap := h', toks := tk } ∧ SetAt (byT w) h' s.heap.objs.size L ∧ Dense h' s.heap.objs.size ∧ (∀ u, u ∈ L ↔ u ∈ vals) ∧
          (∀ b o, b < s.heap.objs.size → s.heap.get? b = some o → h'.get? b = some o)) E) F.called_set.init.plain F.entry_set_init (check_set_init_1 hT ?_)) fun r₂ s₂ hr₂ => ?_
      · obtain ⟨ol, hol, hcl, nl, hdl⟩ := hl
        obtain ⟨ocls, odict, odata, oslots⟩ := ol
        simp only at hcl hdl
        subst hcl; subst hdl
        have hol' : (s.heap.push (setO #[] 0 (.fresh 0 0 (!byT w)))).get? l = some { cls := .type "list", dict := odict, data := .seq items nl, slots := oslots } := Heap.get?_push_of_some _ hol
        have hsls := F.sub_list_set
        have hslf := F.sub_list_frozenset
        have hne : (Value.type "list" == Value.type "dict") = false := by decide
        have hl1 : (s.heap.push (setO #[] 0 (.fresh 0 0 (!byT w)))).IsList l items := ⟨_, hol', rfl, nl, rfl⟩
        unfold Builtin.«set.__init__» noKeywords Builtin.Frozenset.updateFrom
        generalize hPI : pyIter = PI
        wp_walk
        subst hPI
        refine wpAny_pyIter_list hl1 (wpAny_bind (wpAny_runValue ?_))
        have ll : l < s.heap.objs.size := Heap.lt_size hol
        have hh3 : A.in1.in1.in1.handled = none := by simp [hh]
        have ni : l ≠ (s.heap.push (setO #[] 0 (.fresh 0 0 (!byT w)))).objs.size := by rw [Heap.size_push]; exact Nat.ne_of_lt (Nat.lt_succ_of_lt ll)
        have nf : s.heap.objs.size ∉ [(s.heap.push (setO #[] 0 (.fresh 0 0 (!byT w)))).objs.size, l] := by
          rw [Heap.size_push]; simp only [List.mem_cons, List.not_mem_nil, or_false, not_or]
          exact ⟨Nat.ne_of_lt (Nat.lt_succ_self _), Nat.ne_of_gt ll⟩
        have hval : ∀ (i : Nat) (v : Value), i < items.size → items[i]? = some v → ∃ t, v = .int (((fun i => vals.getD i 0) i : Nat) : Int) t := fun i v li hv => by
          obtain ⟨t, e⟩ := PyProof.Rows.IntsAre.int_at hi i v (by rw [Array.getElem?_toList]; exact hv)
          have lv : i < vals.length := by omega
          refine ⟨t, ?_⟩
          rw [e]
          simp [List.getD, lv]
        refine fill_at ((Walks.list hh3 _ l ni items).toS) s.heap.objs.size nf (fun i => vals.getD i 0) hval (fun i li => ?_) (items.size - 0) 0 _ [] (by omega) (Nat.zero_le _) ⟨⟨_, Heap.get?_push_size _ rfl, rfl, rfl⟩, (hl1.push _)⟩ ?hS0 ?hD0 (fun u => by simp) ?hR
        · have lv : i < vals.length := by omega
          refine lt _ ?_
          simp [List.getD, lv]
        case hS0 => exact ⟨#[], 0, _, Heap.get?_push_of_some _ gS, .nil, fresh_tb _⟩
        case hD0 => exact ⟨#[], 0, _, Heap.get?_push_of_some _ gS, .inl rfl⟩
        case hR =>
          intro s' L' hm hS' hD' mem
          obtain ⟨h', g', d', tk', os'⟩ := s'
          have eg : g' = s.gens := hm.gens
          have ed : d' = s.drawn := hm.drawn
          have eo : os' = s.os := hm.os
          subst eg; subst ed; subst eo
          show wpAny _ _ _ _ _ _
          refine wpAny_pure ?_
          show wpAny _ _ (ret Value.none) _ _ _; refine wpAny_pure ⟨rfl, h', tk', L', rfl, hS', hD', fun u => ?_, fun b o hb e => ?_⟩
          · rw [mem u]
            constructor
            · rintro ⟨j, hj, rfl⟩
              have lv : j < vals.length := by omega
              simp [List.getD, lv]
            · intro hu
              obtain ⟨j, hj, e⟩ := List.getElem_of_mem hu
              exact ⟨j, by omega, by simp [List.getD, hj, e]⟩
          · have b1 : b ≠ s.heap.objs.size := Nat.ne_of_lt hb
            have b2 : b ≠ (s.heap.push (setO #[] 0 (.fresh 0 0 (!byT w)))).objs.size := by rw [Heap.size_push]; exact Nat.ne_of_lt (Nat.lt_succ_of_lt hb)
            exact hm.heap b o (by simp only [List.mem_cons, List.not_mem_nil, or_false, not_or]; exact ⟨b1, b2⟩) (Heap.get?_push_of_some _ (Heap.get?_push_of_some _ e))
      · cases r₂ with
        | error e => exact hr₂
        | ok fl₂ =>
          cases fl₂ with
          | ret r =>
            obtain ⟨rfl, h', tk, L, rfl, q1, q2, q3, q4⟩ := hr₂
            repeat (any_goals (first | assumption | wp_step))
            exact h _ _ L q1 q2 q3 q4
          | _ => exact hr₂.elim
    | _ => exact hr.elim
end
end Sm

set_option maxHeartbeats 4100000
namespace L2
open PySem PySem.Spec PyProof.Rows Sm
/-- a set of small numbers, as a thing of the heap; d: its table is no greater than it grows by itself -/
def SetV (w : World) (a : Addr) (d : Bool) (L : List Nat) : HO := .ext fun h => SetAt (byT w) h a L ∧ (d = true → Dense h a)
def Small (ns : List Int) : Prop := ∀ n ∈ ns, 0 ≤ n ∧ n < 16
/-- rising, each once, of those below sixteen that p tells -/
def upF (p : Int → Bool) : List Int := ((List.range 16).map fun i => ((i : Nat) : Int)).filter p
theorem upF_up (p : Int → Bool) : (upF p).Pairwise (· < ·) := by
  unfold upF
  refine List.Pairwise.filter _ ?_
  rw [List.pairwise_map]
  exact List.pairwise_lt_range.imp fun h => by omega
theorem mem_upF {p : Int → Bool} {v : Int} : v ∈ upF p ↔ 0 ≤ v ∧ v < 16 ∧ p v = true := by
  unfold upF
  rw [List.mem_filter, List.mem_map]
  constructor
  · rintro ⟨⟨i, hi, rfl⟩, h⟩
    have := List.mem_range.mp hi
    exact ⟨by omega, by omega, h⟩
  · rintro ⟨h0, h1, h⟩
    exact ⟨⟨v.toNat, List.mem_range.mpr (by omega), by omega⟩, h⟩
/-- two rising lists with the same members are one -/
theorem up_eq : ∀ {xs ys : List Int}, xs.Pairwise (· < ·) → ys.Pairwise (· < ·) → (∀ v, v ∈ xs ↔ v ∈ ys) → xs = ys
  | [], [], _, _, _ => rfl
  | [], y :: ys, _, _, h => absurd ((h y).mpr List.mem_cons_self) List.not_mem_nil
  | x :: xs, [], _, _, h => absurd ((h x).mp List.mem_cons_self) List.not_mem_nil
  | x :: xs, y :: ys, hx, hy, h => by
    obtain ⟨x1, x2⟩ := List.pairwise_cons.mp hx
    obtain ⟨y1, y2⟩ := List.pairwise_cons.mp hy
    have e : x = y := by
      rcases List.mem_cons.mp ((h x).mp List.mem_cons_self) with e | e
      · exact e
      · rcases List.mem_cons.mp ((h y).mpr List.mem_cons_self) with f | f
        · exact f.symm
        · have a := y1 x e
          have b := x1 y f
          omega
    subst e
    congr 1
    refine up_eq x2 y2 fun v => ?_
    constructor
    · intro q
      rcases List.mem_cons.mp ((h v).mp (List.mem_cons_of_mem _ q)) with e | e
      · subst e; have := x1 v q; omega
      · exact e
    · intro q
      rcases List.mem_cons.mp ((h v).mpr (List.mem_cons_of_mem _ q)) with e | e
      · subst e; have := y1 v q; omega
      · exact e
def rSetS (w : World) (K : PySem.W.Frag) : List V → Hp → VK → Prop := fun xs H Q => ∃ l ns, xs = [.ref l] ∧ SqL K H l (List.map V.int ns) ∧ Small ns ∧ ∀ p L H', New H p (SetV w p true L) H' → (∀ u : Nat, u ∈ L ↔ (u : Int) ∈ ns) → Q (.ref p) H'
def rOrS (w : World) : R2 := fun x y H Q => ∃ a b L1 L2, x = .ref a ∧ y = .ref b ∧ a ≠ b ∧ H a = some (SetV w a true L1) ∧ H b = some (SetV w b true L2) ∧ ∀ p L H', New H p (SetV w p false L) H' → (∀ u : Nat, u ∈ L ↔ u ∈ L1 ∨ u ∈ L2) → Q (.ref p) H'
def rSortS (w : World) : List V → Hp → VK → Prop := fun xs H Q => ∃ a d L, xs = [.ref a] ∧ H a = some (SetV w a d L) ∧ ∀ p H', New H p (.lst ((upF fun v => decide (v.toNat ∈ L)).map V.int)) H' → Q (.ref p) H'
def rSortI (K : PySem.W.Frag) : List V → Hp → VK → Prop := fun xs H Q => ∃ l ns, xs = [.ref l] ∧ SqL K H l (List.map V.int ns) ∧ ns.length < 64 ∧ ∀ p H' zs, New H p (.lst (List.map V.int zs)) H' → zs.Perm ns → zs.Pairwise (· ≤ ·) → Q (.ref p) H'
theorem ints_from : ∀ {vs : List Value} {ns : List Int}, IntsAre vs ns → Vals (ns.map V.int) vs
  | _, _, .nil => .nil
  | _, _, .cons n t r => .cons ⟨t, rfl⟩ (ints_from r)
theorem up_small {xs : List Int} {L : List Nat} (pm : xs.Perm (L.map fun v => ((v : Nat) : Int))) (nd : L.Nodup) (lt : ∀ v ∈ L, v < 16) (le : xs.Pairwise (· ≤ ·)) : xs = upF fun v => decide (v.toNat ∈ L) := by
  have nd2 : xs.Nodup := pm.nodup_iff.mpr (by
    unfold List.Nodup
    rw [List.pairwise_map]
    exact nd.imp fun h e => h (by omega))
  have lt2 : xs.Pairwise (· < ·) := by
    unfold List.Nodup at nd2
    exact (le.and nd2).imp fun h => by omega
  refine up_eq lt2 (upF_up _) fun v => ?_
  rw [pm.mem_iff, mem_upF, List.mem_map]
  constructor
  · rintro ⟨u, hu, rfl⟩
    have := lt u hu
    exact ⟨by omega, by omega, decide_eq_true (by rw [Int.toNat_natCast]; exact hu)⟩
  · rintro ⟨h0, h1, h⟩
    exact ⟨v.toNat, of_decide_eq_true h, by omega⟩
section
variable {X : Cx} {K : PySem.W.Frag} {w : World}
theorem setV_ok {H : Hp} {h : Heap} {a : Addr} {d : Bool} {L : List Nat} {P : Program} {w' : World} (S : SetAt (byT w) h a L) (D : d = true → Dense h a) : ObjOk P w' H h a (SetV w a d L) := by
  refine ⟨⟨S, D⟩, ?_, ?_⟩
  · obtain ⟨_, _, _, ho, _⟩ := S
    exact ⟨_, ho⟩
  · rintro h1 h2 ⟨s1, d1⟩ k
    exact ⟨s1.keep k, fun e => (d1 e).keep k⟩
theorem call_setS (ek : X.K = K) (ew : X.w = w) (cm : X.calm = true) : CallR X (.type "set") (rSetS w K) := by
  subst ek; subst ew
  intro pins s σ H xs us Q I r h
  obtain ⟨l, ns, rfl, hL, sm, q⟩ := h
  obtain ⟨u, rfl, rx⟩ := vals1 r
  cases rx
  obtain ⟨its, r', pl, hz⟩ := I.list hL
  have hi := ints_of r'
  have e : (ns.map Int.toNat).map (fun v => ((v : Nat) : Int)) = ns := by
    rw [List.map_map]
    have : ∀ n ∈ ns, ((fun v => ((v : Nat) : Int)) ∘ Int.toNat) n = id n := fun n hn => by
      have := (sm n hn).1
      show ((n.toNat : Nat) : Int) = n
      omega
    rw [List.map_congr_left this, List.map_id]
  refine set_at (vals := ns.map Int.toNat) (I.ok.hd cm) pl.isList (by rw [e]; simpa using hi) (fun v hv => ?_) fun h' tk L S D mem k => ?_
  · obtain ⟨n, hn, rfl⟩ := List.mem_map.mp hv
    have := sm n hn
    omega
  · have hf : H s.heap.objs.size = none := I.hok.fresh (Nat.le_refl _)
    refine ⟨.ref s.heap.objs.size, _, I.laid (t' := tk) (o := SetV X.w s.heap.objs.size true L) (fun b o eo => k b o (Heap.lt_size eo) eo) (Nat.le_refl _) (setV_ok S fun _ => D), rfl, q _ L _ (New.mk0 hf) fun u => ?_⟩
    rw [mem u, List.mem_map]
    constructor
    · rintro ⟨n, hn, rfl⟩
      have := (sm n hn).1
      have e2 : ((n.toNat : Nat) : Int) = n := by omega
      rw [e2]; exact hn
    · intro hn
      exact ⟨_, hn, by omega⟩
theorem op_orS (ew : X.w = w) : OpR X (binaryOp .BitOr) (rOrS w) := by
  subst ew
  intro pins s σ H x y v u Q I rx ry h
  obtain ⟨a, b, L1, L2, rfl, rfl, ne, hA, hB, q⟩ := h
  cases rx
  cases ry
  obtain ⟨⟨S1, D1⟩, _⟩ := I.hok a _ hA
  obtain ⟨⟨S2, D2⟩, _⟩ := I.hok b _ hB
  refine or_at ne S1 (D1 rfl) S2 (D2 rfl) fun h' L k S mem => ?_
  have hf : H s.heap.objs.size = none := I.hok.fresh (Nat.le_refl _)
  exact ⟨.ref s.heap.objs.size, _, I.laid (t' := s.toks) (o := SetV X.w s.heap.objs.size false L) (fun b o eo => k b o eo) (Nat.le_refl _) (setV_ok S fun e => by cases e), rfl, q _ L _ (New.mk0 hf) mem⟩
theorem call_sortedS (ew : X.w = w) (cm : X.calm = true) : CallR X (.builtin "sorted") (rSortS w) := by
  subst ew
  intro pins s σ H xs us Q I r h
  obtain ⟨a, d, L, rfl, hA, q⟩ := h
  obtain ⟨u, rfl, rx⟩ := vals1 r
  cases rx
  obtain ⟨⟨S, _⟩, _⟩ := I.hok a _ hA
  obtain ⟨_, _, t, _, _, T⟩ := id S
  refine sorted_set (I.ok.hd cm) S fun h' tk p vs n ns k hp ho hi pm le => ?_
  have e := up_small pm T.nd T.lt le
  subst e
  have l16 : (upF fun v => decide (v.toNat ∈ L)).length ≤ 16 := by rw [pm.length_eq, List.length_map]; exact T.len
  have hf : H p = none := I.hok.fresh hp
  refine ⟨.ref p, _, I.laid (t' := tk) (o := .lst ((upF fun v => decide (v.toNat ∈ L)).map V.int)) k hp ⟨?_, vs, n, ints_from hi, ho⟩, rfl, q p _ (New.mk0 hf)⟩
  rw [List.length_map, sizeLine_eq]
  omega
theorem call_sortedI (e : X.K = K) : CallR X (.builtin "sorted") (rSortI K) := by
  subst e
  intro pins s σ H xs us Q I r h
  obtain ⟨l, ns, rfl, hL, h64, q⟩ := h
  obtain ⟨u, rfl, rx⟩ := vals1 r
  cases rx
  obtain ⟨its, r', pl, hz⟩ := I.list hL
  have hlen := r'.length
  rw [List.length_map] at hlen
  refine sorted_ints (ns := ns) pl.isList (ints_of r') (by omega) fun out zs hi pm le => ?_
  obtain ⟨c, hc⟩ := sortedAll_at s.heap its out
  refine ⟨.ref (s.heap.objs.size + 1), _, I.laid (t' := s.toks) (o := .lst (zs.map V.int)) (fun b o eo => sortedAll_old eo) (Nat.le_succ _) ⟨?_, out.toList, c, ints_from hi, by simpa using hc⟩, rfl, q _ _ zs (New.mk0 (I.hok.fresh (Nat.le_succ _))) pm le⟩
  rw [List.length_map, pm.length_eq, sizeLine_eq]
  omega
end
end L2

namespace L2
open PySem PySem.Spec PySem.Calls PyProof.Rows
section
variable {X : Cx}
/-- the numbers of a walk, as values -/
theorem vals_range : ∀ (n : Nat) (acc : List Value), (∀ i : Nat, i < n → ∃ t, acc[i]? = some (Value.int ((i : Nat) : Int) t)) → acc.length = n → Vals ((List.range n).map fun i => V.int ((i : Nat) : Int)) acc
  | 0, acc, _, hl => by rw [List.eq_nil_of_length_eq_zero hl]; exact .nil
  | n + 1, acc, h, hl => by
    have hne : acc ≠ [] := fun z => by rw [z] at hl; cases hl
    have e := (List.dropLast_concat_getLast hne).symm
    have ld : acc.dropLast.length = n := by rw [List.length_dropLast]; omega
    rw [List.range_succ, List.map_append, e]
    refine Vals.append (vals_range n acc.dropLast (fun i hi => ?_) ld) ?_
    · obtain ⟨t, et⟩ := h i (by omega)
      rw [e, List.getElem?_append_left (by omega)] at et
      exact ⟨t, et⟩
    · obtain ⟨t, et⟩ := h n (by omega)
      rw [e, List.getElem?_append_right (by omega), ld] at et
      simp at et
      rw [et]
      exact .cons ⟨t, rfl⟩ .nil
theorem range_list {pins : List (Addr × Obj)} {σ : St} {H : Hp} {s : Shared} {Q : VK} {E : Value → Shared → Prop} {n : Nat} {t u v : Tok} {tk : Nat} (I : Inv X pins σ H s) (cm : X.calm = true) (hn : n ≤ 1000)
    (q : ∀ p H', New H p (.lst ((List.range n).map fun i => V.int ((i : Nat) : Int))) H' → Q (.ref p) H') :
    wpAny (model X.prog X.w) X.A (call (.type "list") [.ref s.heap.objs.size]) (EP X pins σ Q) E { s with heap := s.heap.push { cls := .type "range", data := .fields #[.int 0 t, .int n u, .int 1 v] }, toks := tk } := by
  have I2 : Inv X pins σ H { s with heap := s.heap.push { cls := .type "range", data := .fields #[.int 0 t, .int n u, .int 1 v] }, toks := tk } := I.kept fun b o e => Heap.get?_push_of_some _ e
  refine call_list_range (I2.ok.hd cm) (IsRange.new ..) (small_one (by omega) (by omega) (by omega) (by omega)) (n := n) (by rw [rangeSize_one]; split <;> omega) (by omega) fun h' tk' acc' c' hk hS hacc => ?_
  refine ⟨.ref _, _, I2.laid (t' := tk') hk (Nat.le_refl _) (show ObjOk X.prog X.w _ h' _ (.lst ((List.range n).map fun i => V.int ((i : Nat) : Int))) from ⟨?_, acc'.toList, c', ?_, ?_⟩), rfl, q _ _ (New.mk0 (I2.hok.fresh (Nat.le_refl _)))⟩
  · rw [List.length_map, List.length_range]; exact Nat.le_of_lt (small1000 hn)
  · refine vals_range n _ (fun i hi => ?_) ?_
    · have hlt : i < acc'.size := by have := hacc.1; omega
      obtain ⟨t, e⟩ := hacc.2 i acc'[i] (Array.getElem?_eq_getElem hlt)
      refine ⟨t, ?_⟩
      rw [Array.getElem?_toList, Array.getElem?_eq_getElem hlt, e]
      congr 2
      omega
    · rw [Array.length_toList]; exact hacc.1
  · simpa using hS
/-- list(range(n)) -/
def tListR (ta : TA) : TE := fun σ H Q => ta σ H fun vs H1 => ∃ n : Nat, vs = [.int (n : Int)] ∧ n ≤ 1000 ∧ ∀ p H', New H1 p (.lst ((List.range n).map fun i => V.int ((i : Nat) : Int))) H' → Q (.ref p) H'
theorem pe_listR {a : Expr} {ta : TA} {p p2 pos pos2 : Pos} (cm : X.calm = true) (hm : X.mg "list" = none) (hm2 : X.mg "range" = none) (ha : PA X [a] ta) (hg : Gl X "list" := by rfl) (hg2 : Gl X "range" := by rfl)
    (hs : starEach [a] X.env = [(false, eval a X.env)] := by rfl)
    (he : starEach [Expr.Call (.Name "range" p2) [a] [] pos2] X.env = [(false, eval (Expr.Call (.Name "range" p2) [a] [] pos2) X.env)] := by rfl) :
    PE X (.Call (.Name "list" p) [.Call (.Name "range" p2) [a] [] pos2] [] pos) (tListR ta) := by
  intro pins s σ H Q I h
  refine wpAny_Call_Name_kw (ld_blt I hg hm (show bootBuiltins "list" = some (.type "list") by decide +kernel) ?_)
  refine PyProof.Rows.callWith_type1 ?_ he rfl
  rw [he]
  refine Calls.spliced_cons ?_
  refine Call_ (ld_blt I hg2 hm2 boot_range (PyProof.Rows.callWith_type1 (thn (ha pos2 pins s σ H _ I h) fun us s1 ⟨vs, H1, I1, r1, q1⟩ => ?_) hs rfl))
  obtain ⟨n, e, hn, q⟩ := q1
  subst e
  cases r1 with
  | cons r rr =>
    cases rr
    obtain ⟨t, rfl⟩ := r
    refine call_range_1 ?_
    refine Calls.spliced_nil ?_
    exact range_list I1 cm hn q
end
end L2

namespace L2
open PySem PySem.Spec PyProof.Rows
section
variable {X : Cx}
/-- append to a longer list -/
def rAppW : V → List V → Hp → VK → Prop := fun x vs H Q => ∃ l xs y, x = .ref l ∧ vs = [y] ∧ H l = some (.lst xs) ∧ xs.length < 5000 ∧ ∀ H', Chg H l (.lst (xs ++ [y])) H' → Q .non H'
theorem mt_appendW : MtM X "list.append" rAppW := mt_append.weak fun x vs H Q ⟨l, xs, y, e1, e2, h, z, q⟩ => ⟨l, xs, y, e1, e2, h, Nat.lt_trans z (by decide), q _ Chg.mk0⟩
end
end L2

namespace L2
open PySem PySem.Spec PyProof.Rows
theorem us1 {A : Type} {us : List A} {P : List A → Prop} (h : us.length = 1) (f : ∀ a, P [a]) : P us := by
  match us, h with
  | [a], _ => exact f a
theorem us2 {A : Type} {us : List A} {P : List A → Prop} (h : us.length = 2) (f : ∀ a b, P [a, b]) : P us := by
  match us, h with
  | [a, b], _ => exact f a b
theorem us3 {A : Type} {us : List A} {P : List A → Prop} (h : us.length = 3) (f : ∀ a b c, P [a, b, c]) : P us := by
  match us, h with
  | [a, b, c], _ => exact f a b c
theorem us4 {A : Type} {us : List A} {P : List A → Prop} (h : us.length = 4) (f : ∀ a b c d, P [a, b, c, d]) : P us := by
  match us, h with
  | [a, b, c, d], _ => exact f a b c d
theorem dn_mk1 {K : PySem.W.Frag} {h : Heap} {mg : Str → Option Value} {x : Str} {st : Stmt} {ps : List Str} {f : Addr} {oc : Value} {od an : Option Addr} {osl : Array (Option Value)} {kV doc pm cdv ct : Value} (X : K.In h) (G : h.Ns mainGlobals mg)
    (a : PySem.W.nsIn K mainGlobals x = some (some (.ref f))) (l : K.lookup f = some ⟨oc, od, .func (PySem.W.fnOf x x (defArgs st) (defBody st) (defScope st) .none kV doc pm an cdv ct), osl⟩) (c : PySem.W.codeIn K cdv x = true) (k : PySem.W.keepIn K (.ref f) = true)
    (hp : ps.length = 1)
    (hb : ∀ (kV doc pm : Value) (an : Option Addr) (cdv ct : Value) (u0 : Value), bindArgs (PySem.W.fnOf x x (defArgs st) (defBody st) (defScope st) .none kV doc pm an cdv ct) ⟨[u0], []⟩ = pure (ps.zip [u0])) :
    Nonempty (Dn K mg x st ps) :=
  dn_mk X G a l c k fun kV doc pm an cdv ct us hl => us1 (P := fun us => bindArgs (PySem.W.fnOf x x (defArgs st) (defBody st) (defScope st) .none kV doc pm an cdv ct) ⟨us, []⟩ = pure (ps.zip us)) (hl.trans hp) fun u0 => hb kV doc pm an cdv ct u0
theorem dn_mk2 {K : PySem.W.Frag} {h : Heap} {mg : Str → Option Value} {x : Str} {st : Stmt} {ps : List Str} {f : Addr} {oc : Value} {od an : Option Addr} {osl : Array (Option Value)} {kV doc pm cdv ct : Value} (X : K.In h) (G : h.Ns mainGlobals mg)
    (a : PySem.W.nsIn K mainGlobals x = some (some (.ref f))) (l : K.lookup f = some ⟨oc, od, .func (PySem.W.fnOf x x (defArgs st) (defBody st) (defScope st) .none kV doc pm an cdv ct), osl⟩) (c : PySem.W.codeIn K cdv x = true) (k : PySem.W.keepIn K (.ref f) = true)
    (hp : ps.length = 2)
    (hb : ∀ (kV doc pm : Value) (an : Option Addr) (cdv ct : Value) (u0 u1 : Value), bindArgs (PySem.W.fnOf x x (defArgs st) (defBody st) (defScope st) .none kV doc pm an cdv ct) ⟨[u0, u1], []⟩ = pure (ps.zip [u0, u1])) :
    Nonempty (Dn K mg x st ps) :=
  dn_mk X G a l c k fun kV doc pm an cdv ct us hl => us2 (P := fun us => bindArgs (PySem.W.fnOf x x (defArgs st) (defBody st) (defScope st) .none kV doc pm an cdv ct) ⟨us, []⟩ = pure (ps.zip us)) (hl.trans hp) fun u0 u1 => hb kV doc pm an cdv ct u0 u1
theorem dn_mk3 {K : PySem.W.Frag} {h : Heap} {mg : Str → Option Value} {x : Str} {st : Stmt} {ps : List Str} {f : Addr} {oc : Value} {od an : Option Addr} {osl : Array (Option Value)} {kV doc pm cdv ct : Value} (X : K.In h) (G : h.Ns mainGlobals mg)
    (a : PySem.W.nsIn K mainGlobals x = some (some (.ref f))) (l : K.lookup f = some ⟨oc, od, .func (PySem.W.fnOf x x (defArgs st) (defBody st) (defScope st) .none kV doc pm an cdv ct), osl⟩) (c : PySem.W.codeIn K cdv x = true) (k : PySem.W.keepIn K (.ref f) = true)
    (hp : ps.length = 3)
    (hb : ∀ (kV doc pm : Value) (an : Option Addr) (cdv ct : Value) (u0 u1 u2 : Value), bindArgs (PySem.W.fnOf x x (defArgs st) (defBody st) (defScope st) .none kV doc pm an cdv ct) ⟨[u0, u1, u2], []⟩ = pure (ps.zip [u0, u1, u2])) :
    Nonempty (Dn K mg x st ps) :=
  dn_mk X G a l c k fun kV doc pm an cdv ct us hl => us3 (P := fun us => bindArgs (PySem.W.fnOf x x (defArgs st) (defBody st) (defScope st) .none kV doc pm an cdv ct) ⟨us, []⟩ = pure (ps.zip us)) (hl.trans hp) fun u0 u1 u2 => hb kV doc pm an cdv ct u0 u1 u2
theorem dn_mk4 {K : PySem.W.Frag} {h : Heap} {mg : Str → Option Value} {x : Str} {st : Stmt} {ps : List Str} {f : Addr} {oc : Value} {od an : Option Addr} {osl : Array (Option Value)} {kV doc pm cdv ct : Value} (X : K.In h) (G : h.Ns mainGlobals mg)
    (a : PySem.W.nsIn K mainGlobals x = some (some (.ref f))) (l : K.lookup f = some ⟨oc, od, .func (PySem.W.fnOf x x (defArgs st) (defBody st) (defScope st) .none kV doc pm an cdv ct), osl⟩) (c : PySem.W.codeIn K cdv x = true) (k : PySem.W.keepIn K (.ref f) = true)
    (hp : ps.length = 4)
    (hb : ∀ (kV doc pm : Value) (an : Option Addr) (cdv ct : Value) (u0 u1 u2 u3 : Value), bindArgs (PySem.W.fnOf x x (defArgs st) (defBody st) (defScope st) .none kV doc pm an cdv ct) ⟨[u0, u1, u2, u3], []⟩ = pure (ps.zip [u0, u1, u2, u3])) :
    Nonempty (Dn K mg x st ps) :=
  dn_mk X G a l c k fun kV doc pm an cdv ct us hl => us4 (P := fun us => bindArgs (PySem.W.fnOf x x (defArgs st) (defBody st) (defScope st) .none kV doc pm an cdv ct) ⟨us, []⟩ = pure (ps.zip us)) (hl.trans hp) fun u0 u1 u2 u3 => hb kV doc pm an cdv ct u0 u1 u2 u3
end L2

set_option maxHeartbeats 4100000
namespace Ls
open PySem PyProof.Rows PySem.Calls PySem.W PySem.SeqAt
open AutoSeq1 (wpAny_loadPart')
open MeetsSeq MeetsSeq2 MeetsSeq3
section
variable {prog : Program} {w : World} {A : Around} {E : Value → Shared → Prop} {s : Shared}
end
end Ls

set_option maxHeartbeats 4100000
namespace Srt
open PySem PyProof.Rows PySem.Calls PySem.W
section
variable {prog : Program} {wo : World} {A : Around} {E : Value → Shared → Prop} {s : Shared}
end
end Srt
namespace L2
open PySem PySem.Spec PyProof.Rows Bg Srt
def LstV (K : PySem.W.Frag) (H : Hp) (v : V) (ns : List Int) : Prop := ∃ p, v = .ref p ∧ SqL K H p (ns.map V.int)
section
variable {X : Cx} {K : PySem.W.Frag}
/-! ### xs[::-1] -/
end
end L2

set_option maxHeartbeats 2000000
namespace Sm
open PySem PySem.Builtin.Frozenset
section
variable {prog : Program} {w : World} {A : Around} {E : Value → Shared → Prop} {s : Shared} {a b : Addr} {L L1 L2 : List Nat} {B : Bool}
end
end Sm

set_option maxHeartbeats 4100000
namespace L2
open PySem PySem.Spec PyProof.Rows Sm
def rLenS (w : World) : List V → Hp → VK → Prop := fun xs H Q => ∃ a d L, xs = [.ref a] ∧ H a = some (SetV w a d L) ∧ Q (.int ((L.length : Nat) : Int)) H
section
variable {X : Cx} {K : PySem.W.Frag} {w : World}
theorem call_lenS (ew : X.w = w) : CallR X (.builtin "len") (rLenS w) := by
  subst ew
  intro pins s σ H xs us Q I r h
  obtain ⟨a, d, L, rfl, hA, q⟩ := h
  obtain ⟨u, rfl, rx⟩ := vals1 r
  cases rx
  obtain ⟨⟨S, _⟩, _⟩ := I.hok a _ hA
  obtain ⟨es, ep, t, ho, hE, T⟩ := id S
  have l16 := T.len
  refine call_len_set ho ⟨rfl, rfl, rfl⟩ rfl (by rw [hE.len]; exact T.fits) (by rw [hE.len]; omega) ?_
  exact ⟨.int ((L.length : Nat) : Int), H, I.tok _, ⟨_, by rw [hE.len]⟩, q⟩
end
end L2

namespace L2
open PySem PySem.Spec PyProof.Rows Sm
/-- len(a set of small numbers): its numbers, each once -/
def rLenS2 (w : World) : List V → Hp → VK → Prop := fun xs H Q => ∃ a d L, xs = [.ref a] ∧ H a = some (SetV w a d L) ∧ (L.Nodup → Q (.int ((L.length : Nat) : Int)) H)
theorem call_lenS2 {X : Cx} {w : World} (ew : X.w = w) : CallR X (.builtin "len") (rLenS2 w) := by
  intro pins s σ H xs us Q I r h
  obtain ⟨a, d, L, rfl, hA, q⟩ := h
  obtain ⟨⟨S, _⟩, _⟩ := I.hok a _ hA
  obtain ⟨_, _, t, _, _, T⟩ := id S
  exact call_lenS ew pins s σ H _ us Q I r ⟨a, d, L, rfl, hA, q T.nd⟩
end L2


namespace K
open PySem L2 Lw Bg
def top (i : Nat) : Stmt := PySem.Challenge.pw_bagwood_k48_four_that_touch.main.body.getD i (.Pass ⟨0, 0, 0, 0⟩)
abbrev s_is_whole : Stmt := top 4
theorem sc_is_whole : FnScope ["thing"] ["thing"] (defScope s_is_whole) := ⟨rfl, rfl, rfl, by decide +kernel, rfl, by decide +kernel, by decide +kernel⟩
abbrev s_is_below : Stmt := top 5
theorem sc_is_below : FnScope ["n", "thing"] ["n", "thing"] (defScope s_is_below) := ⟨rfl, rfl, rfl, by decide +kernel, rfl, by decide +kernel, by decide +kernel⟩
def spWhole (K : PySem.W.Frag) : Sp := fun vs H Q _ => ∃ (x : V) (t : Value) (bi bb : Bool), vs = [x] ∧ TyOf K H x t ∧ PySem.W.kitOne K t (.type "int") = some bi ∧ PySem.W.kitOne K t (.type "bool") = some bb ∧ Q (.bl (bi && !bb)) H
def spBelow : Sp := fun vs H Q _ => ∃ (n : Int) (o : Option Int), vs = [.int n, upV o] ∧ Q (.bl (belowF n o)) H
section
variable {P : Program} {w : World} {K : PySem.W.Frag} {mg : Str → Option Value} {base : Heap}
set_option maxHeartbeats 4000000 in
theorem ok_is_whole (B : Bl mg) (d_is_whole : Dn K mg "is_whole" s_is_whole ["thing"]) : FnOk P w K mg base CX0 1 d_is_whole.f d_is_whole.fd ["thing"] (spWhole K) := by
  refine d_is_whole.F.ok sc_is_whole (fun vs H Q E h => ?_) (fun cdv A outer s H vs Q E hr h => ?_)
  · obtain ⟨x, t, bi, bb, rfl, _⟩ := h
    rfl
  obtain ⟨x, t, bi, bb, rfl, ty, h1, h2, q⟩ := h
  refine ⟨_, (pss_one (ps_ret (pe_and (pe_callB (call_isinstK (K := K) rfl) rfl B.isinstance (by decide +kernel) (pa_cons (pv 0) (pa_cons (pe_bltn (v := .ty "int") (u := .type "int") rfl B.int (by decide +kernel) rfl) pa_nil))) (pe_one (pe_not (pe_callB (call_isinstK (K := K) rfl) rfl B.isinstance (by decide +kernel) (pa_cons (pv 0) (pa_cons (pe_bltn (v := .ty "bool") (u := .type "bool") rfl B.bool (by decide +kernel) rfl) pa_nil)))))))), ?_⟩
  refine ⟨_, rfl, _, _, _, _, _, rfl, rfl, ty, h1, _, rfl, ?_⟩
  cases bi with
  | true =>
    refine iteT ?_
    exact ⟨_, rfl, _, _, _, _, _, rfl, rfl, ty, h2, _, rfl, q⟩
  | false => exact iteF q
set_option maxHeartbeats 4000000 in
theorem ok_is_below (B : Bl mg) (d_is_whole : Dn K mg "is_whole" s_is_whole ["thing"]) (d_is_below : Dn K mg "is_below" s_is_below ["n", "thing"]) : FnOk P w K mg base CX0 2 d_is_below.f d_is_below.fd ["n", "thing"] spBelow := by
  have G_is_whole : FnOk P w K mg base CX0 1 _ _ _ _ := ok_is_whole B d_is_whole
  refine d_is_below.F.ok sc_is_below (fun vs H Q E h => ?_) (fun cdv A outer s H vs Q E hr h => ?_)
  · obtain ⟨n, i, rfl, _⟩ := h
    rfl
  obtain ⟨n, o, rfl, q⟩ := h
  refine ⟨_, (pss_one (ps_ret (pe_and (pe_call G_is_whole hr rfl d_is_whole.m d_is_whole.F.kp d_is_whole.b .nil pass0 (pa_cons (pv 1) pa_nil)) (pe_one (pe_chain op_le op_lt pe_int (pv 1) (pv 0)))))), ?_⟩
  cases o with
  | none => exact ⟨_, rfl, _, _, _, _, rfl, TyOf.non, kit_non_int, kit_non_bool, _, rfl, iteF q⟩
  | some i =>
    refine ⟨_, rfl, _, _, _, _, rfl, TyOf.int i, kit_int_int, kit_int_bool, _, rfl, ?_⟩
    refine iteT ?_
    refine ⟨_, rfl, _, _, rfl, rfl, _, rfl, ?_⟩
    refine ite2 (fun c => ?_) (fun c => ?_)
    · have c' : 0 ≤ i := of_decide_eq_true c
      refine ⟨_, rfl, _, _, rfl, rfl, ?_⟩
      have e : belowF n (some i) = decide (i < n) := by unfold belowF; simp [c']
      rw [e] at q; exact q
    · have c' : ¬ 0 ≤ i := of_decide_eq_false (Bool.eq_false_iff.mpr c)
      have e : belowF n (some i) = false := by unfold belowF; simp [c']
      rw [e] at q; exact q
end

def lessF (xs ys : List Int) : List Int := xs.filter fun v => !decide (v ∈ ys)
def commonF (xs ys : List Int) : List Int := xs.filter fun v => decide (v ∈ ys)
def aroundF (ts : List (Int × Int)) (v : Int) : List Int :=
  (ts.filterMap fun t => if t.2 = v then some t.1 else none) ++ ts.filterMap fun t => if t.1 = v then some t.2 else none
def spLess (K : PySem.W.Frag) : Sp := fun vs H Q _ => ∃ (a b : Addr) (xs ys : List Int), vs = [.ref a, .ref b] ∧ SqL K H a (xs.map V.int) ∧ SqL K H b (ys.map V.int) ∧ xs.length ≤ 1000 ∧
  ∀ H0 p H', Same H H0 → New H0 p (.lst ((lessF xs ys).map V.int)) H' → Q (.ref p) H'
def spCommon (K : PySem.W.Frag) : Sp := fun vs H Q _ => ∃ (a b : Addr) (xs ys : List Int), vs = [.ref a, .ref b] ∧ SqL K H a (xs.map V.int) ∧ SqL K H b (ys.map V.int) ∧ xs.length ≤ 1000 ∧
  ∀ H0 p H', Same H H0 → New H0 p (.lst ((commonF xs ys).map V.int)) H' → Q (.ref p) H'
def spAround (K : PySem.W.Frag) : Sp := fun vs H Q _ => ∃ (g : V) (n : Int) (ts : List (Int × Int)) (v : Int), vs = [g, .int v] ∧ GraphV K H g n ts ∧ 0 ≤ v ∧ v < n ∧ ts.length ≤ 400 ∧
  ∀ H0 p H', Same H H0 → New H0 p (.lst ((aroundF ts v).map V.int)) H' → Q (.ref p) H'
theorem fm_ifI (xs : List Int) (c : Int → Bool) : (xs.map V.int).filterMap (fun x => match x with | .int v => if c v then some (.int v) else none | _ => none) = (xs.filter c).map V.int := by
  induction xs with
  | nil => rfl
  | cons x r ih =>
    rw [List.map_cons, List.filter_cons]
    cases e : c x with
    | true => rw [List.filterMap_cons_some (by simp only [e]; rfl), ih]; simp
    | false => rw [List.filterMap_cons_none (by simp only [e]; rfl), ih]; simp
theorem fm_range {α β : Type} (f : α → Option β) : ∀ ts : List α, (List.range ts.length).filterMap (fun j => (ts[j]?).bind f) = ts.filterMap f
  | [] => rfl
  | t :: r => by
    rw [List.length_cons, List.range_succ_eq_map]
    have ih := fm_range f r
    have e2 : (List.map Nat.succ (List.range r.length)).filterMap (fun j => ((t :: r)[j]?).bind f) = r.filterMap f := by
      rw [List.filterMap_map, ← ih]
      rfl
    cases e : f t with
    | none => rw [List.filterMap_cons_none (by simpa using e), List.filterMap_cons_none e, e2]
    | some b => rw [List.filterMap_cons_some (b := b) (by simpa using e), List.filterMap_cons_some e, e2]
theorem fm_mapI {α : Type} (f : α → Option Int) (g : α → Option V) (h : ∀ a, g a = (f a).map V.int) (ts : List α) : ts.filterMap g = (ts.filterMap f).map V.int := by
  rw [List.map_filterMap]
  congr 1
  exact funext h

abbrev s_less : Stmt := top 8
theorem sc_less : FnScope ["one", "other"] ["one", "other"] (defScope s_less) := ⟨rfl, rfl, rfl, by decide +kernel, rfl, by decide +kernel, by decide +kernel⟩
section
variable {P : Program} {w : World} {K : PySem.W.Frag} {mg : Str → Option Value} {base : Heap}
set_option maxHeartbeats 4000000 in
theorem ok_less (B : Bl mg) (d_less : Dn K mg "less" s_less ["one", "other"]) : FnOk P w K mg base CX0 1 d_less.f d_less.fd ["one", "other"] (spLess K) := by
  refine d_less.F.ok sc_less (fun vs H Q E h => ?_) (fun cdv A outer s H vs Q E hr h => ?_)
  · obtain ⟨a, b, xs, ys, rfl, _⟩ := h
    rfl
  obtain ⟨a, b, xs, ys, rfl, hA, hB, hz, q⟩ := h
  have hv : (A.deeper (PyProof.Rows.envOfC "less" (defScope s_less) s.heap.objs.size d_less.f cdv)).units + 65 < cLine := by have := hr.un; omega
  refine ⟨_, (pss_one (ps_ret (pe_lc ["v", "other"] [none, some 1]  (by kernel_rfl) rfl (pi_listK (K := K) rfl (pv 0)) (fun _ _ _ _ _ => (pg_name (i := 0) (show (["v", "other"] : List Str).Nodup by decide +kernel) rfl (Or.inl rfl))) (fun _ _ _ _ _ => (pts_one (pt_cmpR (op_notInDK (K := K) rfl hv) (pv 0) (pv 1) (by with_unfolding_all rfl)))) (fun _ _ _ _ _ => (pv 0))))), ?_⟩
  refine ⟨_, rfl, a, rfl, ⟨_, hA⟩, ?_⟩
  refine lc_fmN (fun x => match x with | .int v => if !decide (v ∈ ys) then some (.int v) else none | _ => none) hA (by rw [List.length_map]; exact hz) (fun x H1 N hx sm hN => ?_) (fun H1 p H1' sm hp => ?_)
  · obtain ⟨v, hv, rfl⟩ := List.mem_map.mp hx
    have hN' := hN H1 sm
    refine ⟨_, rfl, _, rfl, notInInts (sm.seq hB) ⟨_, rfl, ?_⟩⟩
    dsimp only at hN'
    cases c : decide (v ∈ ys) with
    | true => rw [c] at hN'; exact iteF hN'
    | false => rw [c] at hN'; exact iteT ⟨_, rfl, hN'⟩
  · rw [fm_ifI] at hp
    exact q _ _ _ sm hp
end

abbrev s_common : Stmt := top 6
theorem sc_common : FnScope ["one", "other"] ["one", "other"] (defScope s_common) := ⟨rfl, rfl, rfl, by decide +kernel, rfl, by decide +kernel, by decide +kernel⟩
section
variable {P : Program} {w : World} {K : PySem.W.Frag} {mg : Str → Option Value} {base : Heap}
set_option maxHeartbeats 4000000 in
theorem ok_common (B : Bl mg) (d_common : Dn K mg "common" s_common ["one", "other"]) : FnOk P w K mg base CX0 1 d_common.f d_common.fd ["one", "other"] (spCommon K) := by
  refine d_common.F.ok sc_common (fun vs H Q E h => ?_) (fun cdv A outer s H vs Q E hr h => ?_)
  · obtain ⟨a, b, xs, ys, rfl, _⟩ := h
    rfl
  obtain ⟨a, b, xs, ys, rfl, hA, hB, hz, q⟩ := h
  have hv : (A.deeper (PyProof.Rows.envOfC "common" (defScope s_common) s.heap.objs.size d_common.f cdv)).units + 65 < cLine := by have := hr.un; omega
  refine ⟨_, (pss_one (ps_ret (pe_lc ["v", "other"] [none, some 1]  (by kernel_rfl) rfl (pi_listK (K := K) rfl (pv 0)) (fun _ _ _ _ _ => (pg_name (i := 0) (show (["v", "other"] : List Str).Nodup by decide +kernel) rfl (Or.inl rfl))) (fun _ _ _ _ _ => (pts_one (pt_cmpR (op_inDK (K := K) rfl hv) (pv 0) (pv 1) (by with_unfolding_all rfl)))) (fun _ _ _ _ _ => (pv 0))))), ?_⟩
  refine ⟨_, rfl, a, rfl, ⟨_, hA⟩, ?_⟩
  refine lc_fmN (fun x => match x with | .int v => if decide (v ∈ ys) then some (.int v) else none | _ => none) hA (by rw [List.length_map]; exact hz) (fun x H1 N hx sm hN => ?_) (fun H1 p H1' sm hp => ?_)
  · obtain ⟨v, hv, rfl⟩ := List.mem_map.mp hx
    have hN' := hN H1 sm
    refine ⟨_, rfl, _, rfl, inInts (sm.seq hB) ⟨_, rfl, ?_⟩⟩
    dsimp only at hN'
    cases c : decide (v ∈ ys) with
    | true => rw [c] at hN'; exact iteT ⟨_, rfl, hN'⟩
    | false => rw [c] at hN'; exact iteF hN'
  · rw [fm_ifI] at hp
    exact q _ _ _ sm hp
end

abbrev s_joint : Stmt := top 7
theorem sc_joint : FnScope ["one", "other"] ["one", "other"] (defScope s_joint) := ⟨rfl, rfl, rfl, by decide +kernel, rfl, by decide +kernel, by decide +kernel⟩
theorem upF_congr {p q : Int → Bool} (h : ∀ v, 0 ≤ v → v < 16 → p v = q v) : upF p = upF q := by
  unfold upF
  refine List.filter_congr fun v hv => ?_
  obtain ⟨i, hi, rfl⟩ := List.mem_map.mp hv
  have := List.mem_range.mp hi
  exact h _ (by omega) (by omega)
def jointF (xs ys : List Int) : List Int := upF fun v => decide (v ∈ xs ∨ v ∈ ys)
def spJoint (K : PySem.W.Frag) : Sp := fun vs H Q _ => ∃ (a b : Addr) (xs ys : List Int), vs = [.ref a, .ref b] ∧ SqL K H a (xs.map V.int) ∧ SqL K H b (ys.map V.int) ∧ Small xs ∧ Small ys ∧
  ∀ H0 p H', Same H H0 → New H0 p (.lst ((jointF xs ys).map V.int)) H' → Q (.ref p) H'
section
variable {P : Program} {w : World} {K : PySem.W.Frag} {mg : Str → Option Value} {base : Heap}
set_option maxHeartbeats 4000000 in
theorem ok_joint (B : Bl mg) (d_joint : Dn K mg "joint" s_joint ["one", "other"]) : FnOk P w K mg base CX0 1 d_joint.f d_joint.fd ["one", "other"] (spJoint K) := by
  refine d_joint.F.ok sc_joint (fun vs H Q E h => ?_) (fun cdv A outer s H vs Q E hr h => ?_)
  · obtain ⟨a, b, xs, ys, rfl, _⟩ := h
    rfl
  obtain ⟨a, b, xs, ys, rfl, hA, hB, sA, sB, q⟩ := h
  refine ⟨_, (pss_one (ps_ret (pe_callB (call_sortedS (w := w) rfl rfl) rfl B.sorted (by decide +kernel) (pa_cons (pe_op (op_orS (w := w) rfl) (pe_callTy (call_setS (K := K) (w := w) rfl rfl rfl) rfl B.set (by decide +kernel) (pa_cons (pv 0) pa_nil)) (pe_callTy (call_setS (K := K) (w := w) rfl rfl rfl) rfl B.set (by decide +kernel) (pa_cons (pv 1) pa_nil))) pa_nil)))), ?_⟩
  refine ⟨_, rfl, a, xs, rfl, hA, sA, fun p1 L1 H1 n1 m1 => ?_⟩
  refine ⟨_, rfl, b, ys, rfl, n1.same.seq hB, sB, fun p2 L2 H2 n2 m2 => ?_⟩
  refine ⟨p1, p2, L1, L2, rfl, rfl, n2.ne n1.here, n2.same _ _ n1.here, n2.here, fun p3 L H3 n3 m3 => ?_⟩
  refine ⟨p3, false, L, rfl, n3.here, fun p4 H4 n4 => ?_⟩
  have e : (upF fun v => decide (v.toNat ∈ L)) = jointF xs ys := upF_congr fun v h0 h1 => by
    have ev : ((v.toNat : Nat) : Int) = v := by omega
    rw [decide_eq_decide, m3 v.toNat, m1 v.toNat, m2 v.toNat, ev]
  rw [e] at n4
  exact q H3 p4 H4 (n1.same.trans (n2.same.trans n3.same)) n4
end

abbrev s_around : Stmt := top 10
theorem sc_around : FnScope ["graph", "v", "lesser", "greater"] ["graph", "v"] (defScope s_around) := ⟨rfl, rfl, rfl, by decide +kernel, rfl, by decide +kernel, by decide +kernel⟩
section
variable {P : Program} {w : World} {K : PySem.W.Frag} {mg : Str → Option Value} {base : Heap}
set_option maxHeartbeats 4000000 in
theorem ok_around (B : Bl mg) (d_is_whole : Dn K mg "is_whole" s_is_whole ["thing"]) (d_is_below : Dn K mg "is_below" s_is_below ["n", "thing"]) (d_around : Dn K mg "around" s_around ["graph", "v"]) : FnOk P w K mg base CX0 3 d_around.f d_around.fd ["graph", "v"] (spAround K) := by
  have G_is_below : FnOk P w K mg base CX0 2 _ _ _ _ := ok_is_below B d_is_whole d_is_below
  refine d_around.F.ok sc_around (fun vs H Q E h => ?_) (fun cdv A outer s H vs Q E hr h => ?_)
  · obtain ⟨g, n, ts, v, rfl, _⟩ := h
    rfl
  obtain ⟨g, n, ts, v, rfl, hG, v0, v1, hz, q⟩ := h
  obtain ⟨pg, ta, rfl, hP, hT⟩ := hG
  obtain ⟨ys, hy, hq, hzt⟩ := id hT
  have hlt : ys.length = ts.length := Paired.length hq
  refine ⟨_, (pss_cons (ps_if (pt_not (pt_truthK (K := K) rfl (pe_call G_is_below hr rfl d_is_below.m d_is_below.F.kp d_is_below.b .nil pass0 (pa_cons (pe_ix (ix_tupK (K := K) rfl) (pv 0) pe_int (fun _ _ => rfl)) (pa_cons (pv 1) pa_nil))) (fun _ => rfl)))
      (pss_one ps_never)
      pss_nil)
      (pss_cons (ps_setLC (i := 2) ["a", "b", "v"] [none, none, some 1] sc_around.nd rfl rfl (by kernel_rfl) rfl (pi_listK (K := K) rfl (pe_ix (ix_tupK (K := K) rfl) (pv 0) pe_int (fun _ _ => rfl))) (fun _ _ _ _ _ => (pg_tupK (K := K) (n := 2) rfl rfl (pgs_cons (pg_name (i := 0) (show (["a", "b", "v"] : List Str).Nodup by decide +kernel) rfl (Or.inl rfl)) (pgs_cons (pg_name (i := 1) (show (["a", "b", "v"] : List Str).Nodup by decide +kernel) rfl (Or.inl rfl)) pgs_nil)))) (fun _ _ _ _ _ => (pts_one (pt_cmpR op_eq (pv 1) (pv 2) (nomark _)))) (fun _ _ _ _ _ => (pv 0)) (by rfl))
      (pss_cons (ps_setLC (i := 3) ["a", "b", "v"] [none, none, some 1] sc_around.nd rfl rfl (by kernel_rfl) rfl (pi_listK (K := K) rfl (pe_ix (ix_tupK (K := K) rfl) (pv 0) pe_int (fun _ _ => rfl))) (fun _ _ _ _ _ => (pg_tupK (K := K) (n := 2) rfl rfl (pgs_cons (pg_name (i := 0) (show (["a", "b", "v"] : List Str).Nodup by decide +kernel) rfl (Or.inl rfl)) (pgs_cons (pg_name (i := 1) (show (["a", "b", "v"] : List Str).Nodup by decide +kernel) rfl (Or.inl rfl)) pgs_nil)))) (fun _ _ _ _ _ => (pts_one (pt_cmpR op_eq (pv 0) (pv 2) (nomark _)))) (fun _ _ _ _ _ => (pv 1)) (by rfl))
      (pss_one (ps_ret (pe_op op_catN (pv 2) (pv 3))))))), ?_⟩
  have hb : belowF n (some v) = true := by unfold belowF; simp [v0, v1]
  refine ⟨_, rfl, pg, _, _, _, rfl, rfl, hP, rfl, _, rfl, n, some v, rfl, _, rfl, ?_⟩
  rw [hb]
  refine iteF ?_
  refine ⟨_, rfl, pg, _, _, _, rfl, rfl, hP, rfl, ta, rfl, ⟨_, hy⟩, ?_⟩
  refine lc_ixN (fun j => (ts[j]?).bind fun t => if t.2 = v then some (V.int t.1) else none) hy (by omega) (fun j x H3 N hj s3 hN => ?_) (fun H3 p1 H4 s3 nw => ?_)
  · obtain ⟨t, ht, ⟨pt, rfl, hTt⟩⟩ := paired_get hq hj
    have hN' := hN H3 s3
    rw [ht] at hN'
    refine ⟨pt, _, rfl, s3.tupq hTt, rfl, _, _, rfl, _, _, rfl, rfl, _, rfl, _, rfl, rfl, _, rfl, ?_⟩
    refine ite2 (fun c => ?_) (fun c => ?_)
    · have c' : V.int t.2 = V.int v := of_decide_eq_true c
      have c2 : t.2 = v := by injection c'
      dsimp only [Option.bind] at hN'
      rw [if_pos c2] at hN'
      exact ⟨_, rfl, hN'⟩
    · have c' : ¬ V.int t.2 = V.int v := of_decide_eq_false (Bool.eq_false_iff.mpr c)
      have c2 : ¬ t.2 = v := fun z => c' (by rw [z])
      dsimp only [Option.bind] at hN'
      rw [if_neg c2] at hN'
      exact hN'
  rw [hlt, fm_range, fm_mapI (fun t => if t.2 = v then some t.1 else none) _ (fun t => by split <;> rfl)] at nw
  have s4 := s3.trans nw.same
  refine ⟨_, rfl, pg, _, _, _, rfl, rfl, s4.tupq hP, rfl, ta, rfl, ⟨_, s4.seq hy⟩, ?_⟩
  refine lc_ixN (fun j => (ts[j]?).bind fun t => if t.1 = v then some (V.int t.2) else none) (s4.seq hy) (by omega) (fun j x H5 N hj s5 hN => ?_) (fun H5 p2 H6 s5 nw2 => ?_)
  · obtain ⟨t, ht, ⟨pt, rfl, hTt⟩⟩ := paired_get hq hj
    have hN' := hN H5 s5
    rw [ht] at hN'
    refine ⟨pt, _, rfl, (s4.trans s5).tupq hTt, rfl, _, _, rfl, _, _, rfl, rfl, _, rfl, _, rfl, rfl, _, rfl, ?_⟩
    refine ite2 (fun c => ?_) (fun c => ?_)
    · have c' : V.int t.1 = V.int v := of_decide_eq_true c
      have c2 : t.1 = v := by injection c'
      dsimp only [Option.bind] at hN'
      rw [if_pos c2] at hN'
      exact ⟨_, rfl, hN'⟩
    · have c' : ¬ V.int t.1 = V.int v := of_decide_eq_false (Bool.eq_false_iff.mpr c)
      have c2 : ¬ t.1 = v := fun z => c' (by rw [z])
      dsimp only [Option.bind] at hN'
      rw [if_neg c2] at hN'
      exact hN'
  rw [hlt, fm_range, fm_mapI (fun t => if t.1 = v then some t.2 else none) _ (fun t => by split <;> rfl)] at nw2
  refine ⟨_, rfl, _, rfl, p1, p2, _, _, rfl, rfl, (s5.trans nw2.same) _ _ nw.here, nw2.here, ?_, fun p3 H7 nw3 => ?_⟩
  · rw [List.length_map, List.length_map]
    have h1 := List.length_filterMap_le (fun t : Int × Int => if t.2 = v then some t.1 else none) ts
    have h2 := List.length_filterMap_le (fun t : Int × Int => if t.1 = v then some t.2 else none) ts
    omega
  · rw [← List.map_append] at nw3
    exact q _ _ _ (s4.trans (s5.trans nw2.same)) nw3
end

abbrev s_rim : Stmt := top 11
theorem sc_rim : FnScope ["graph", "places", "tied", "v"] ["graph", "places"] (defScope s_rim) := ⟨rfl, rfl, rfl, by decide +kernel, rfl, by decide +kernel, by decide +kernel⟩
abbrev s_touch : Stmt := top 12
theorem sc_touch : FnScope ["graph", "one", "other"] ["graph", "one", "other"] (defScope s_touch) := ⟨rfl, rfl, rfl, by decide +kernel, rfl, by decide +kernel, by decide +kernel⟩
theorem tied_mem {ts : List (Int × Int)} {u v : Int} : u ∈ aroundF ts v ↔ (u, v) ∈ ts ∨ (v, u) ∈ ts := by
  unfold aroundF
  rw [List.mem_append, List.mem_filterMap, List.mem_filterMap]
  constructor
  · rintro (⟨t, ht, e⟩ | ⟨t, ht, e⟩)
    · split at e
      · rename_i c
        injection e with e
        subst e; subst c
        exact .inl ht
      · cases e
    · split at e
      · rename_i c
        injection e with e
        subst e; subst c
        exact .inr ht
      · cases e
  · rintro (h | h)
    · exact .inl ⟨_, h, by simp⟩
    · exact .inr ⟨_, h, by simp⟩
def nearF (ts : List (Int × Int)) (ps : List Int) (u : Int) : Bool := ps.any fun v => decide (u ∈ aroundF ts v)
def rimF (ts : List (Int × Int)) (ps : List Int) : List Int := lessF (upF (nearF ts ps)) ps
def touchF (ts : List (Int × Int)) (xs ys : List Int) : Bool := !(commonF xs ys).isEmpty || !(commonF (rimF ts xs) ys).isEmpty
theorem upF_small (p : Int → Bool) : Small (upF p) := fun n hn => by
  obtain ⟨a, b, _⟩ := mem_upF.mp hn
  exact ⟨a, b⟩
theorem upF_len (p : Int → Bool) : (upF p).length ≤ 16 := by
  unfold upF
  refine Nat.le_trans (List.length_filter_le _ _) ?_
  simp
theorem around_small {ts : List (Int × Int)} {v : Int} (h : ∀ t ∈ ts, 0 ≤ t.1 ∧ t.1 < 16 ∧ 0 ≤ t.2 ∧ t.2 < 16) : Small (aroundF ts v) := fun u hu => by
  rcases tied_mem.mp hu with c | c
  · have := h _ c; exact ⟨this.1, this.2.1⟩
  · have := h _ c; exact this.2.2
def spRim (K : PySem.W.Frag) : Sp := fun vs H Q _ => ∃ (g : V) (n : Int) (ts : List (Int × Int)) (b : Addr) (ps : List Int), vs = [g, .ref b] ∧ GraphV K H g n ts ∧ n ≤ 16 ∧ ts.length ≤ 400 ∧ (∀ t ∈ ts, 0 ≤ t.1 ∧ t.1 < 16 ∧ 0 ≤ t.2 ∧ t.2 < 16) ∧ SqL K H b (ps.map V.int) ∧ (∀ v ∈ ps, 0 ≤ v ∧ v < n) ∧
  ∀ H0 p H', Same H H0 → New H0 p (.lst ((rimF ts ps).map V.int)) H' → Q (.ref p) H'
def spTouch (K : PySem.W.Frag) : Sp := fun vs H Q _ => ∃ (g : V) (n : Int) (ts : List (Int × Int)) (a b : Addr) (xs ys : List Int), vs = [g, .ref a, .ref b] ∧ GraphV K H g n ts ∧ n ≤ 16 ∧ ts.length ≤ 400 ∧ (∀ t ∈ ts, 0 ≤ t.1 ∧ t.1 < 16 ∧ 0 ≤ t.2 ∧ t.2 < 16) ∧ SqL K H a (xs.map V.int) ∧ (∀ v ∈ xs, 0 ≤ v ∧ v < n) ∧ xs.length ≤ 1000 ∧ SqL K H b (ys.map V.int) ∧
  ∀ H', Same H H' → Q (.bl (touchF ts xs ys)) H'
section
variable {P : Program} {w : World} {K : PySem.W.Frag} {mg : Str → Option Value} {base : Heap}
set_option maxHeartbeats 4000000 in
theorem ok_rim (B : Bl mg) (d_is_whole : Dn K mg "is_whole" s_is_whole ["thing"]) (d_is_below : Dn K mg "is_below" s_is_below ["n", "thing"]) (d_less : Dn K mg "less" s_less ["one", "other"]) (d_joint : Dn K mg "joint" s_joint ["one", "other"]) (d_around : Dn K mg "around" s_around ["graph", "v"]) (d_rim : Dn K mg "rim" s_rim ["graph", "places"]) : FnOk P w K mg base CX0 4 d_rim.f d_rim.fd ["graph", "places"] (spRim K) := by
  have G_joint : FnOk P w K mg base CX0 3 _ _ _ _ := (ok_joint B d_joint).mono (by decide)
  have G_less : FnOk P w K mg base CX0 3 _ _ _ _ := (ok_less B d_less).mono (by decide)
  have G_around : FnOk P w K mg base CX0 3 _ _ _ _ := ok_around B d_is_whole d_is_below d_around
  refine d_rim.F.ok sc_rim (fun vs H Q E h => ?_) (fun cdv A outer s H vs Q E hr h => ?_)
  · obtain ⟨g, n, ts, b, ps, rfl, _⟩ := h
    rfl
  obtain ⟨g, n, ts, b, ps, rfl, hG, hn, hz, ht, hB, hin, q⟩ := h
  refine ⟨_, (pss_cons (ps_set (i := 2) sc_rim.nd rfl (Or.inl rfl) (pe_lstN pa_nil))
      (pss_cons (ps_for PassesOwn.never rfl (pi_listK (K := K) rfl (pv 1)) (pg_name (i := 3) sc_rim.nd rfl (Or.inl rfl))
      (pss_one (ps_set (i := 2) sc_rim.nd rfl (Or.inl rfl) (pe_call G_joint hr rfl d_joint.m d_joint.F.kp d_joint.b .nil pass0 (pa_cons (pv 2) (pa_cons (pe_call G_around hr rfl d_around.m d_around.F.kp d_around.b .nil pass0 (pa_cons (pv 0) (pa_cons (pv 3) pa_nil))) pa_nil))))))
      (pss_one (ps_ret (pe_call G_less hr rfl d_less.m d_less.F.kp d_less.b .nil pass0 (pa_cons (pv 2) (pa_cons (pv 1) pa_nil))))))), ?_⟩
  refine ⟨(by show 0 ≤ 1000; decide), fun p0 H0 n0 => ?_⟩
  refine ⟨_, rfl, b, rfl, ⟨_, n0.same.seq hB⟩, ?_⟩
  refine for_list (xs := ps.map V.int) (fun i σ H' => ∃ (p : Addr) (pl : Option V), σ = [some g, some (.ref b), some (.ref p), pl] ∧ Same H H' ∧ H' p = some (.lst ((upF (nearF ts (ps.take i))).map V.int))) ⟨p0, none, rfl, n0.same, ?_⟩ (fun i σ H' _ ⟨p, pl, _, s, _⟩ => s.seq hB) ?_ ?_
  · rw [n0.here, List.take_zero]
    have e : upF (nearF ts []) = [] := by
      unfold upF nearF
      simp
    rw [e]
    rfl
  · rintro i x σ H' hx ⟨p, pl, rfl, s, hp⟩
    rw [List.getElem?_map] at hx
    obtain ⟨v, hv, rfl⟩ := Option.map_eq_some_iff.mp hx
    have vm : v ∈ ps := List.mem_of_getElem? hv
    have vi := hin v vm
    have et : ps.take (i + 1) = ps.take i ++ [v] := by rw [List.take_succ, hv]; rfl
    refine ⟨_, rfl, _, rfl, _, rfl, g, n, ts, v, rfl, hG.same s, vi.1, vi.2, hz, fun H1 p1 H2 s1 n1 => ?_⟩
    have s2 : Same H' H2 := s1.trans n1.same
    refine ⟨p, p1, _, _, rfl, SqL.of (s2 _ _ hp), SqL.of n1.here, upF_small _, around_small ht, fun H3 p2 H4 s3 n3 => ?_⟩
    refine ⟨p2, _, rfl, s.trans (s2.trans (s3.trans n3.same)), ?_⟩
    rw [n3.here, et]
    have e : jointF (upF (nearF ts (ps.take i))) (aroundF ts v) = upF (nearF ts (ps.take i ++ [v])) := upF_congr fun u h0 h1 => by
      unfold nearF
      rw [List.any_append, Bool.eq_iff_iff, decide_eq_true_iff, Bool.or_eq_true, mem_upF]
      simp [h0, h1]
    rw [e]
  · rintro σ H' ⟨p, pl, rfl, s, hp⟩
    rw [List.length_map, List.take_length] at hp
    refine ⟨_, rfl, _, rfl, p, b, _, ps, rfl, SqL.of hp, s.seq hB, Nat.le_trans (upF_len _) (by decide), fun H1 p1 H2 s1 n1 => ?_⟩
    exact q H1 p1 H2 (s.trans s1) n1
set_option maxHeartbeats 4000000 in
theorem ok_touch (B : Bl mg) (d_is_whole : Dn K mg "is_whole" s_is_whole ["thing"]) (d_is_below : Dn K mg "is_below" s_is_below ["n", "thing"]) (d_common : Dn K mg "common" s_common ["one", "other"]) (d_less : Dn K mg "less" s_less ["one", "other"]) (d_joint : Dn K mg "joint" s_joint ["one", "other"]) (d_around : Dn K mg "around" s_around ["graph", "v"]) (d_rim : Dn K mg "rim" s_rim ["graph", "places"]) (d_touch : Dn K mg "touch" s_touch ["graph", "one", "other"]) : FnOk P w K mg base CX0 5 d_touch.f d_touch.fd ["graph", "one", "other"] (spTouch K) := by
  have G_common : FnOk P w K mg base CX0 4 _ _ _ _ := (ok_common B d_common).mono (by decide)
  have G_rim : FnOk P w K mg base CX0 4 _ _ _ _ := ok_rim B d_is_whole d_is_below d_less d_joint d_around d_rim
  refine d_touch.F.ok sc_touch (fun vs H Q E h => ?_) (fun cdv A outer s H vs Q E hr h => ?_)
  · obtain ⟨g, n, ts, a, b, xs, ys, rfl, _⟩ := h
    rfl
  obtain ⟨g, n, ts, a, b, xs, ys, rfl, hG, hn, hz, ht, hA, hin, hl, hB, q⟩ := h
  refine ⟨_, (pss_one (ps_ret (pe_callTy (call_boolL (K := K) rfl) rfl B.bool (by decide +kernel) (pa_cons (pe_orL (K := K) rfl (pe_call G_common hr rfl d_common.m d_common.F.kp d_common.b .nil pass0 (pa_cons (pv 1) (pa_cons (pv 2) pa_nil))) (pe_one (pe_call G_common hr rfl d_common.m d_common.F.kp d_common.b .nil pass0 (pa_cons (pe_call G_rim hr rfl d_rim.m d_rim.F.kp d_rim.b .nil pass0 (pa_cons (pv 0) (pa_cons (pv 1) pa_nil))) (pa_cons (pv 2) pa_nil))))) pa_nil)))), ?_⟩
  refine ⟨_, rfl, _, rfl, a, b, xs, ys, rfl, hA, hB, hl, fun H1 p1 H2 s1 n1 => ?_⟩
  have s2 : Same H H2 := s1.trans n1.same
  refine ⟨!((commonF xs ys).map V.int).isEmpty, .inl ⟨_, SqL.of n1.here, rfl⟩, ?_⟩
  have e1 : ((commonF xs ys).map V.int).isEmpty = (commonF xs ys).isEmpty := List.isEmpty_map
  refine ite2 (fun c => ?_) (fun c => ?_)
  · refine ⟨p1, _, rfl, SqL.of n1.here, ?_⟩
    rw [c]
    have e : touchF ts xs ys = true := by unfold touchF; rw [← e1, c]; rfl
    have := q H2 s2
    rw [e] at this
    exact this
  · refine ⟨_, rfl, _, rfl, g, n, ts, a, xs, rfl, hG.same s2, hn, hz, ht, s2.seq hA, hin, fun H3 p3 H4 s3 n3 => ?_⟩
    have s4 : Same H H4 := s2.trans (s3.trans n3.same)
    refine ⟨_, rfl, p3, b, _, ys, rfl, SqL.of n3.here, s4.seq hB, ?_, fun H5 p5 H6 s5 n5 => ?_⟩
    · unfold rimF lessF
      exact Nat.le_trans (List.length_filter_le _ _) (Nat.le_trans (upF_len _) (by decide))
    · refine ⟨p5, _, rfl, SqL.of n5.here, ?_⟩
      have e : touchF ts xs ys = !((commonF (rimF ts xs) ys).map V.int).isEmpty := by unfold touchF; rw [← e1, Bool.eq_false_iff.mpr c, List.isEmpty_map]; rfl
      have := q H6 (s4.trans (s5.trans n5.same))
      rw [e] at this
      exact this
end

end K


namespace K
open PySem L2 Lw Bg
abbrev natV (l : List Nat) : List V := l.map fun (x : Nat) => V.int (x : Int)
theorem nodup_le : ∀ {m : Nat} {l : List Nat}, l.Nodup → (∀ x ∈ l, x < m) → l.length ≤ m
  | 0, l, _, lt => by
    cases l with
    | nil => exact Nat.le_refl _
    | cons x r => exact absurd (lt x List.mem_cons_self) (Nat.not_lt_zero _)
  | m + 1, l, nd, lt => by
    have ih := nodup_le (m := m) (nd.erase m) fun x hx => by
      obtain ⟨h1, h2⟩ := nd.mem_erase_iff.mp hx
      have := lt x h2
      omega
    rw [List.length_erase] at ih
    split at ih <;> omega
theorem natV_ints (l : List Nat) : natV l = (l.map fun (x : Nat) => (x : Int)).map V.int := by
  unfold natV
  rw [List.map_map]
  rfl
theorem natV_at {l : List Nat} {j : Nat} (h : j < l.length) : atI (natV l) (j : Int) = some (.int ((l.getD j 0 : Nat) : Int)) := atI_nat (by
  unfold natV
  rw [List.getElem?_map, List.getElem?_eq_getElem h, List.getD_eq_getElem?_getD, List.getElem?_eq_getElem h]; rfl)

abbrev s_places_of : Stmt := top 14
theorem sc_places_of : FnScope ["mask"] ["mask"] (defScope s_places_of) := ⟨rfl, rfl, rfl, by decide +kernel, rfl, by decide +kernel, by decide +kernel⟩
abbrev s_first_bags : Stmt := top 16
theorem sc_first_bags : FnScope ["graph", "bags", "a", "b"] ["graph"] (defScope s_first_bags) := ⟨rfl, rfl, rfl, by decide +kernel, rfl, by decide +kernel, by decide +kernel⟩
abbrev s_taken_out : Stmt := top 17
theorem sc_taken_out : FnScope ["bags", "v", "bit", "left"] ["bags", "v"] (defScope s_taken_out) := ⟨rfl, rfl, rfl, by decide +kernel, rfl, by decide +kernel, by decide +kernel⟩
def spPlacesOf : Sp := fun vs H Q _ => ∃ (m : Nat), vs = [.int (m : Int)] ∧ m < 2 ^ 10 ∧ ∀ H0 p H', Same H H0 → New H0 p (.lst (natV (placesF m))) H' → Q (.ref p) H'
def spFirst (K : PySem.W.Frag) : Sp := fun vs H Q _ => ∃ (g : V) (n : Nat) (ts : List (Int × Int)), vs = [g] ∧ GraphV K H g n ts ∧ (∀ t ∈ ts, 0 ≤ t.1 ∧ t.1 < t.2 ∧ t.2 < (n : Int)) ∧ n ≤ 10 ∧
  ∀ p ms H', Same H H' → H p = none → H' p = some (.lst (natV ms)) → BagsM n ms (tiedR n ts) → Q (.ref p) H'
def spTakenM (K : PySem.W.Frag) : Sp := fun vs H Q _ => ∃ (a : Addr) (n : Nat) (ms : List Nat) (R : Nat → Nat → Bool) (v : Nat), vs = [.ref a, .int (v : Int)] ∧ SqL K H a (natV ms) ∧ BagsM n ms R ∧ v < n ∧
  ∀ p H', Same H H' → H p = none → H' p = some (.lst (natV (takeM v ms))) → Q (.ref p) H'
theorem shl1 (v : Nat) : ((1 : Int) * 2 ^ ((v : Nat) : Int).toNat) = ((2 ^ v : Nat) : Int) := by
  rw [Int.toNat_natCast, Int.one_mul]
  exact (Int.natCast_pow 2 v).symm
theorem first_one (n : Nat) (hn : n ≤ 10) : BagsM n ((List.range n).map fun v => 2 ^ v) (tiedR n []) := by
  refine ⟨by simp, hn, fun m hm => ?_, fun v hv u => ?_, fun v u h => ?_⟩
  · obtain ⟨v, hv, rfl⟩ := List.mem_map.mp hm
    have := List.mem_range.mp hv
    exact Nat.pow_lt_pow_right (by decide) (by omega)
  · rw [List.getD_eq_getElem?_getD, List.getElem?_map, List.getElem?_range hv]
    simp only [Option.map_some, Option.getD_some]
    rw [Nat.testBit_two_pow]
    unfold tiedR
    by_cases c : v = u
    · subst c; simp [hv]
    · rw [decide_eq_false c]
      have : ¬ u = v := fun z => c z.symm
      simp [this]
  · unfold tiedR at h
    rw [Bool.and_eq_true] at h
    exact of_decide_eq_true h.1
/-- a tie more -/
theorem first_tie {n : Nat} {ms : List Nat} {ts : List (Int × Int)} {a b : Nat} (B : BagsM n ms (tiedR n ts)) (ha : a < n) (hb : b < n) (ab : a ≠ b) :
    BagsM n ((ms.set a (ms.getD a 0 ||| 2 ^ b)).set b ((ms.set a (ms.getD a 0 ||| 2 ^ b)).getD b 0 ||| 2 ^ a)) (tiedR n (ts ++ [((a : Int), (b : Int))])) := by
  have la : a < ms.length := by rw [B.len]; exact ha
  have lb : b < ms.length := by rw [B.len]; exact hb
  have gb : (ms.set a (ms.getD a 0 ||| 2 ^ b)).getD b 0 = ms.getD b 0 := by
    rw [List.getD_eq_getElem?_getD, List.getElem?_set_ne ab, ← List.getD_eq_getElem?_getD]
  rw [gb]
  have far : ∀ v u, tiedR n (ts ++ [((a : Int), (b : Int))]) v u = true → v < n ∧ u < n := fun v u h => by
    unfold tiedR at h
    rw [Bool.and_eq_true] at h
    exact of_decide_eq_true h.1
  have bit : ∀ v < n, ∀ u, (((ms.set a (ms.getD a 0 ||| 2 ^ b)).set b (ms.getD b 0 ||| 2 ^ a)).getD v 0).testBit u = tiedR n (ts ++ [((a : Int), (b : Int))]) v u := fun v hv u => by
    have old := B.bit v hv u
    unfold tiedR at old ⊢
    by_cases cb : v = b
    · subst cb
      rw [List.getD_eq_getElem?_getD, List.getElem?_set_self (by rw [List.length_set]; exact lb)]
      simp only [Option.getD_some]
      rw [Nat.testBit_or, old, Nat.testBit_two_pow]
      by_cases cu : u < n
      · by_cases c : a = u
        · subst c; simp [hv, cu]
        · have c1 : ¬ u = a := fun z => c z.symm
          have c2 : ¬ ((u : Int) = (a : Int)) := by omega
          have c3 : ¬ ((v : Int) = (a : Int) ∧ (u : Int) = (v : Int)) := by omega
          have c4 : ¬ ((v : Int) = (a : Int)) := by omega
          simp [hv, cu, c, c2, c4]
      · have : ¬ a = u := by omega
        simp [cu, this]
    · rw [List.getD_eq_getElem?_getD, List.getElem?_set_ne (Ne.symm cb)]
      by_cases ca : v = a
      · subst ca
        rw [List.getElem?_set_self la]
        simp only [Option.getD_some]
        rw [Nat.testBit_or, old, Nat.testBit_two_pow]
        by_cases cu : u < n
        · by_cases c : b = u
          · subst c; simp [hv, cu]
          · have c2 : ¬ ((u : Int) = (b : Int)) := by omega
            have c4 : ¬ ((v : Int) = (b : Int)) := by omega
            simp [hv, cu, c, c2, c4]
        · have : ¬ b = u := by omega
          simp [cu, this]
      · rw [List.getElem?_set_ne (Ne.symm ca), ← List.getD_eq_getElem?_getD, old]
        have c1 : ¬ ((v : Int) = (a : Int)) := by omega
        have c2 : ¬ ((v : Int) = (b : Int)) := by omega
        simp [c1, c2]
  refine ⟨by rw [List.length_set, List.length_set]; exact B.len, B.n10, fun m hm => ?_, bit, far⟩
  obtain ⟨j, hj, ej⟩ := List.getElem_of_mem hm
  have jn : j < n := by
    rw [List.length_set, List.length_set, B.len] at hj
    exact hj
  have e : ((ms.set a (ms.getD a 0 ||| 2 ^ b)).set b (ms.getD b 0 ||| 2 ^ a)).getD j 0 = m := by rw [List.getD_eq_getElem?_getD, List.getElem?_eq_getElem hj, ej]; rfl
  refine lt_of_bits fun u hu => ?_
  rw [← e, bit j jn] at hu
  have := far j u hu
  have := B.n10
  omega
theorem natV_set (l : List Nat) (i x : Nat) : (natV l).set i (.int (x : Int)) = natV (l.set i x) := by
  unfold natV
  rw [List.map_set]
section
variable {P : Program} {w : World} {K : PySem.W.Frag} {mg : Str → Option Value} {base : Heap}
set_option maxHeartbeats 4000000 in
theorem ok_places_of (B : Bl mg) (d_places_of : Dn K mg "places_of" s_places_of ["mask"]) : FnOk P w K mg base CX0 1 d_places_of.f d_places_of.fd ["mask"] spPlacesOf := by
  refine d_places_of.F.ok sc_places_of (fun vs H Q E h => ?_) (fun cdv A outer s H vs Q E hr h => ?_)
  · obtain ⟨m, rfl, _⟩ := h
    rfl
  obtain ⟨m, rfl, hm, q⟩ := h
  refine ⟨_, (pss_one (ps_ret (pe_lc ["v", "mask"] [none, some 0]  (by kernel_rfl) rfl (pi_range1 rfl B.range (pa_cons (pe_bm0K (K := K) rfl PySem.F.plainAttrs_int PySem.F.slot_int_bit_length PySem.F.type_int_bit_length mt_bits (pv 0)) pa_nil)) (fun _ _ _ _ _ => (pg_name (i := 0) (show (["v", "mask"] : List Str).Nodup by decide +kernel) rfl (Or.inl rfl))) (fun _ _ _ _ _ => (pts_one (pt_truthK (K := K) rfl (pe_op op_and (pv 1) (pe_op op_shl pe_int (pv 0))) (fun _ => rfl)))) (fun _ _ _ _ _ => (pv 0))))), ?_⟩
  have hb := bits_le hm
  refine ⟨_, rfl, rfl, m, rfl, rfl, _, rfl, by omega, by omega, ?_⟩
  rw [Int.toNat_natCast]
  refine lc_fmRN (lo := 0) (n := Builtin.Int.intBits (m : Int)) (fun j => if m.testBit j = true then some (.int ((j : Nat) : Int)) else none) (by omega) (fun j H7 N hj s7 hN => ?_) (fun H7 pd H8 s7 n8 => ?_)
  · have hN' := hN H7 s7
    have ej : (0 + (j : Int)) = ((j : Nat) : Int) := by omega
    rw [ej]
    refine ⟨_, rfl, _, rfl, _, _, rfl, rfl, ⟨by omega, by omega, by decide⟩, _, _, rfl, rfl, _, rfl, ?_⟩
    dsimp only
    rw [shl1, and_nat]
    cases c : m.testBit j with
    | true =>
      rw [if_pos c] at hN'
      have : m &&& 2 ^ j ≠ 0 := fun z => by rw [(and_bit m j).mp z] at c; cases c
      rw [show (((m &&& 2 ^ j : Nat) : Int) != 0) = true by simpa using this]
      exact iteT ⟨_, rfl, hN'⟩
    | false =>
      rw [if_neg (by rw [c]; decide)] at hN'
      rw [(and_bit m j).mpr c]
      exact iteF hN'
  · have e : (List.range (Builtin.Int.intBits (m : Int))).filterMap (fun j => if m.testBit j = true then some (V.int ((j : Nat) : Int)) else none) = natV (placesF m) := by
      rw [← places_bits hm]
      unfold natV
      rw [← List.filterMap_eq_filter, List.map_filterMap]
      congr 1
      funext j
      by_cases c : m.testBit j = true
      · rw [if_pos c]; simp [Option.guard, c]
      · rw [if_neg c]; simp [Option.guard, c]
    rw [e] at n8
    exact q _ _ _ s7 n8
set_option maxHeartbeats 4000000 in
theorem ok_first_bags (B : Bl mg) (d_first_bags : Dn K mg "first_bags" s_first_bags ["graph"]) : FnOk P w K mg base CX0 1 d_first_bags.f d_first_bags.fd ["graph"] (spFirst K) := by
  refine d_first_bags.F.ok sc_first_bags (fun vs H Q E h => ?_) (fun cdv A outer s H vs Q E hr h => ?_)
  · obtain ⟨g, n, ts, rfl, _⟩ := h
    rfl
  obtain ⟨g, n, ts, rfl, hG, okt, n10, q⟩ := h
  obtain ⟨pg, ta, rfl, hP, hT⟩ := hG
  obtain ⟨ys, hy, hq, hzt⟩ := id hT
  have hlt : ys.length = ts.length := Paired.length hq
  refine ⟨_, (pss_cons (ps_setLC (i := 1) ["v"] [none] sc_first_bags.nd rfl rfl (by kernel_rfl) rfl (pi_range1 rfl B.range (pa_cons (pe_ix (ix_tupK (K := K) rfl) (pv 0) pe_int (fun _ _ => rfl)) pa_nil)) (fun _ _ _ _ _ => (pg_name (i := 0) (show (["v"] : List Str).Nodup by decide +kernel) rfl (Or.inl rfl))) (fun _ _ _ _ _ => pts_nil) (fun _ _ _ _ _ => (pe_op op_shl pe_int (pv 0))) (by rfl))
      (pss_cons (ps_for PassesOwn.never rfl (pi_listK (K := K) rfl (pe_ix (ix_tupK (K := K) rfl) (pv 0) pe_int (fun _ _ => rfl))) (pg_tupK (K := K) (n := 2) rfl rfl (pgs_cons (pg_name (i := 2) sc_first_bags.nd rfl (Or.inl rfl)) (pgs_cons (pg_name (i := 3) sc_first_bags.nd rfl (Or.inl rfl)) pgs_nil)))
      (pss_cons (ps_asg (pe_op op_or (pe_ix (ix_listK (K := K) rfl) (pv 1) (pv 2) (fun _ _ => rfl)) (pe_op op_shl pe_int (pv 3))) (pg_sub (pv 1) (pv 2) set_listN))
      (pss_one (ps_asg (pe_op op_or (pe_ix (ix_listK (K := K) rfl) (pv 1) (pv 3) (fun _ _ => rfl)) (pe_op op_shl pe_int (pv 2))) (pg_sub (pv 1) (pv 3) set_listN)))))
      (pss_one (ps_ret (pv 1))))), ?_⟩
  refine ⟨_, rfl, pg, _, _, _, rfl, rfl, hP, rfl, _, rfl, by omega, by omega, ?_⟩
  rw [Int.toNat_natCast]
  refine lc_fmRN (lo := 0) (n := n) (fun j => some (.int ((2 ^ j : Nat) : Int))) (by omega) (fun j H7 N hj s7 hN => ?_) (fun H7 pb H8 s7 n8 => ?_)
  · have ej : (0 + (j : Int)) = ((j : Nat) : Int) := by omega
    rw [ej]
    refine ⟨_, rfl, _, _, rfl, rfl, ⟨by omega, by omega, by decide⟩, ?_⟩
    dsimp only
    rw [shl1]
    exact hN H7 s7
  have e8 : (List.range n).filterMap (fun (j : Nat) => some (V.int ((2 ^ j : Nat) : Int))) = natV ((List.range n).map fun v => 2 ^ v) := by
    unfold natV
    rw [List.map_map]
    exact fm_some fun _ _ => rfl
  rw [e8] at n8
  have s8 : Same H H8 := s7.trans n8.same
  refine ⟨_, rfl, pg, _, _, _, rfl, rfl, s8.tupq hP, rfl, ta, rfl, ⟨_, s8.seq hy⟩, ?_⟩
  have fb : H pb = none := s7.free n8.fresh
  refine for_list (xs := ys) (fun i σ H' => ∃ (aa bb : Option V) (ms : List Nat), σ = [some (.ref pg), some (.ref pb), aa, bb] ∧ Same H H' ∧ H' pb = some (.lst (natV ms)) ∧ BagsM n ms (tiedR n (ts.take i))) ⟨none, none, _, rfl, s8, n8.here, by rw [List.take_zero]; exact first_one n n10⟩ (fun i σ H' _ ⟨_, _, _, _, s, _⟩ => s.seq hy) ?_ ?_
  · rintro i x σ H4 hx ⟨aa, bb, ms, rfl, s4, hb4, BM⟩
    obtain ⟨t, ht, ⟨pt, rfl, hTt⟩⟩ := paired_get hq hx
    have tok := okt t (List.mem_of_getElem? ht)
    obtain ⟨a, ea⟩ : ∃ a : Nat, t.1 = (a : Int) := ⟨t.1.toNat, by omega⟩
    obtain ⟨b, eb⟩ : ∃ b : Nat, t.2 = (b : Int) := ⟨t.2.toNat, by omega⟩
    rw [ea, eb] at hTt
    have an : a < n := by omega
    have bn : b < n := by omega
    have la : a < ms.length := by rw [BM.len]; exact an
    have lb : b < ms.length := by rw [BM.len]; exact bn
    refine ⟨pt, _, rfl, s4.tupq hTt, rfl, _, _, rfl, _, _, rfl, rfl, ?_⟩
    refine ⟨_, rfl, _, rfl, pb, _, _, _, rfl, rfl, SqL.of hb4, natV_at la, _, rfl, _, _, rfl, rfl, ⟨by omega, by omega, by decide⟩, _, _, rfl, rfl, ?_⟩
    dsimp only
    rw [shl1, or_nat]
    refine ⟨_, rfl, _, rfl, pb, _, _, a, rfl, rfl, hb4, ixN_nat (by rw [List.length_map]; exact la), fun H5 c5 => ?_⟩
    rw [natV_set] at c5
    have s5 : Same H H5 := s4.chg fb c5
    have lb' : b < (ms.set a (ms.getD a 0 ||| 2 ^ b)).length := by rw [List.length_set]; exact lb
    refine ⟨_, rfl, _, rfl, pb, _, _, _, rfl, rfl, SqL.of c5.here, natV_at lb', _, rfl, _, _, rfl, rfl, ⟨by omega, by omega, by decide⟩, _, _, rfl, rfl, ?_⟩
    dsimp only
    rw [shl1, or_nat]
    refine ⟨_, rfl, _, rfl, pb, _, _, b, rfl, rfl, c5.here, ixN_nat (by rw [List.length_map]; exact lb'), fun H6 c6 => ?_⟩
    rw [natV_set] at c6
    refine ⟨_, _, _, rfl, s5.chg fb c6, c6.here, ?_⟩
    have et : ts.take (i + 1) = ts.take i ++ [((a : Int), (b : Int))] := by
      rw [List.take_succ, ht]
      simp [← ea, ← eb]
    rw [et]
    exact first_tie BM an bn (by omega)
  · rintro σ H4 ⟨aa, bb, ms, rfl, s4, hb4, BM⟩
    rw [hlt, List.take_length] at BM
    exact ⟨_, rfl, q pb ms H4 s4 fb hb4 BM⟩
set_option maxHeartbeats 4000000 in
theorem ok_taken_out (B : Bl mg) (d_taken_out : Dn K mg "taken_out" s_taken_out ["bags", "v"]) : FnOk P w K mg base CX0 1 d_taken_out.f d_taken_out.fd ["bags", "v"] (spTakenM K) := by
  refine d_taken_out.F.ok sc_taken_out (fun vs H Q E h => ?_) (fun cdv A outer s H vs Q E hr h => ?_)
  · obtain ⟨a, n, ms, R, v, rfl, _⟩ := h
    rfl
  obtain ⟨a, n, ms, R, v, rfl, hA, BM, hv, q⟩ := h
  have lv : v < ms.length := by rw [BM.len]; exact hv
  have n10 := BM.n10
  refine ⟨_, (pss_cons (ps_set (i := 2) sc_taken_out.nd rfl (Or.inr rfl) (pe_op op_shl pe_int (pv 1)))
      (pss_cons (ps_setLC (i := 3) ["bag", "bit", "bags", "v"] [none, some 2, some 0, some 1] sc_taken_out.nd rfl rfl (by kernel_rfl) rfl (pi_listK (K := K) rfl (pv 0)) (fun _ _ _ _ _ => (pg_name (i := 0) (show (["bag", "bit", "bags", "v"] : List Str).Nodup by decide +kernel) rfl (Or.inl rfl))) (fun _ _ _ _ _ => pts_nil) (fun _ _ _ _ _ => (pe_ifExp (pt_truthK (K := K) rfl (pe_op op_and (pv 0) (pv 1)) (fun _ => rfl)) (pe_op op_sub (pe_op op_or (pv 0) (pe_ix (ix_listK (K := K) rfl) (pv 2) (pv 3) (fun _ _ => rfl))) (pv 1)) (pv 0))) (by rfl))
      (pss_cons (ps_asg pe_int (pg_sub (pv 3) (pv 1) set_listN))
      (pss_one (ps_ret (pv 3)))))), ?_⟩
  refine ⟨_, rfl, _, _, rfl, rfl, ⟨by omega, by omega, by decide⟩, ?_⟩
  dsimp only
  rw [shl1]
  refine ⟨_, rfl, a, rfl, ⟨_, hA⟩, ?_⟩
  refine lc_fmN (fun x => match x with | .int z => some (.int ((if z.toNat &&& 2 ^ v = 0 then z.toNat else (z.toNat ||| ms.getD v 0) - 2 ^ v : Nat) : Int)) | _ => none) hA (by rw [List.length_map, BM.len]; omega) (fun x H1 N hx s1 hN => ?_) (fun H1 p H2 s1 n2 => ?_)
  · obtain ⟨m, hm, rfl⟩ := List.mem_map.mp hx
    have hN' := hN H1 s1
    dsimp only at hN'
    rw [Int.toNat_natCast] at hN'
    refine ⟨_, rfl, _, rfl, _, _, rfl, rfl, _, rfl, ?_⟩
    rw [and_nat]
    by_cases c : m &&& 2 ^ v = 0
    · rw [if_pos c] at hN'
      rw [c]
      exact iteF ⟨_, rfl, hN'⟩
    · rw [if_neg c] at hN'
      rw [show (((m &&& 2 ^ v : Nat) : Int) != 0) = true by simpa using c]
      refine iteT ⟨_, rfl, _, rfl, _, rfl, a, _, _, _, rfl, rfl, s1.seq hA, natV_at lv, _, _, rfl, rfl, _, rfl, _, _, rfl, rfl, ?_⟩
      rw [or_nat]
      have tb : (m ||| ms.getD v 0).testBit v = true := by
        rw [Nat.testBit_or]
        have : m.testBit v = true := by
          cases e : m.testBit v with
          | true => rfl
          | false => exact absurd ((and_bit m v).mpr e) c
        rw [this]; rfl
      have ge := Nat.ge_two_pow_of_testBit tb
      have e : (((m ||| ms.getD v 0 : Nat) : Int) - ((2 ^ v : Nat) : Int)) = (((m ||| ms.getD v 0) - 2 ^ v : Nat) : Int) := by omega
      dsimp only
      rw [e]
      exact hN'
  have ez : (natV ms).filterMap (fun x => match x with | .int z => some (V.int ((if z.toNat &&& 2 ^ v = 0 then z.toNat else (z.toNat ||| ms.getD v 0) - 2 ^ v : Nat) : Int)) | _ => none) = natV (ms.map fun m => if m &&& 2 ^ v = 0 then m else (m ||| ms.getD v 0) - 2 ^ v) := by
    unfold natV
    rw [List.filterMap_map, List.map_map]
    refine fm_some fun m _ => ?_
    simp only [Function.comp_apply, Int.toNat_natCast]
  rw [ez] at n2
  have lz : v < (ms.map fun m => if m &&& 2 ^ v = 0 then m else (m ||| ms.getD v 0) - 2 ^ v).length := by rw [List.length_map]; exact lv
  refine ⟨_, rfl, _, rfl, p, _, _, v, rfl, rfl, n2.here, ixN_nat (by rw [List.length_map]; exact lz), fun H3 c3 => ?_⟩
  have c3' := c3.here
  rw [show (V.int 0) = V.int ((0 : Nat) : Int) from rfl, natV_set] at c3'
  exact ⟨_, rfl, q p H3 ((s1.trans n2.same).chg (s1.free n2.fresh) c3) (s1.free n2.fresh) c3'⟩
end

abbrev s_mask_sizes : Stmt := top 15
theorem sc_mask_sizes : FnScope ["n", "sizes", "mask"] ["n"] (defScope s_mask_sizes) := ⟨rfl, rfl, rfl, by decide +kernel, rfl, by decide +kernel, by decide +kernel⟩
def popF (m : Nat) : Nat := (placesF m).length
theorem popF_zero : popF 0 = 0 := by decide
theorem popF_half {m : Nat} (h : m < 2 ^ 10) : popF m = popF (m / 2) + m % 2 := by
  have c : ∀ k : Nat, popF k = (List.range 10).countP k.testBit := fun k => by
    unfold popF placesF
    rw [List.countP_eq_length_filter]
  rw [c m, c (m / 2)]
  have e1 : (List.range 10).countP m.testBit = (if m.testBit 0 = true then 1 else 0) + (List.range 9).countP (m / 2).testBit := by
    rw [show List.range 10 = 0 :: (List.range 9).map Nat.succ from by decide, List.countP_cons, List.countP_map]
    rw [Nat.add_comm]
    congr 1
  have e2 : (List.range 10).countP (m / 2).testBit = (List.range 9).countP (m / 2).testBit := by
    rw [show List.range 10 = List.range 9 ++ [9] from by decide, List.countP_append]
    have z : (m / 2).testBit 9 = false := Nat.testBit_lt_two_pow (by omega)
    simp [z]
  rw [e1, e2, Nat.testBit_zero]
  by_cases d : m % 2 = 1
  · rw [decide_eq_true d, if_pos rfl, d]; omega
  · rw [decide_eq_false d, if_neg Bool.false_ne_true]; omega
def sizesV (k : Nat) : List V := (List.range k).map fun m => V.int ((popF m : Nat) : Int)
theorem sizesV_at {k m : Nat} (h : m < k) : atI (sizesV k) (m : Int) = some (.int ((popF m : Nat) : Int)) := atI_nat (by
  unfold sizesV
  rw [List.getElem?_map, List.getElem?_range h]; rfl)
theorem sizesV_len (k : Nat) : (sizesV k).length = k := by unfold sizesV; simp
def spSizes : Sp := fun vs H Q _ => ∃ (n : Nat), vs = [.int n] ∧ n ≤ 10 ∧ ∀ p H', New H p (.lst (sizesV (2 ^ n))) H' → Q (.ref p) H'
section
variable {P : Program} {w : World} {K : PySem.W.Frag} {mg : Str → Option Value} {base : Heap}
set_option maxHeartbeats 4000000 in
theorem ok_mask_sizes (B : Bl mg) (d_mask_sizes : Dn K mg "mask_sizes" s_mask_sizes ["n"]) : FnOk P w K mg base CX0 1 d_mask_sizes.f d_mask_sizes.fd ["n"] spSizes := by
  refine d_mask_sizes.F.ok sc_mask_sizes (fun vs H Q E h => ?_) (fun cdv A outer s H vs Q E hr h => ?_)
  · obtain ⟨n, rfl, _⟩ := h
    rfl
  obtain ⟨n, rfl, n10, q⟩ := h
  have p10 : 2 ^ n ≤ 2 ^ 10 := Nat.pow_le_pow_right (by decide) n10
  have p0 : 0 < 2 ^ n := Nat.pow_pos (by decide)
  refine ⟨_, (pss_cons (ps_set (i := 1) sc_mask_sizes.nd rfl (Or.inl rfl) (pe_lstN (pa_cons pe_int pa_nil)))
      (pss_cons (ps_for PassesOwn.never rfl (pi_range2 rfl B.range (pa_cons pe_int (pa_cons (pe_op op_shl pe_int (pv 0)) pa_nil))) (pg_name (i := 2) sc_mask_sizes.nd rfl (Or.inl rfl))
      (pss_one (ps_expr (pe_bmK (K := K) rfl PySem.F.plainAttrs_list PySem.F.slot_list_append PySem.F.type_list_append mt_appendW (pv 1) (pa_cons (pe_op op_add (pe_ix (ix_listK (K := K) rfl) (pv 1) (pe_op op_shr (pv 2) pe_int) (fun _ _ => rfl)) (pe_op op_mod (pv 2) pe_int)) pa_nil)))))
      (pss_one (ps_ret (pv 1))))), ?_⟩
  refine ⟨(by show 1 ≤ 1000; decide), fun p H1 n1 => ?_⟩
  have e1 : [V.int 0] = sizesV 1 := by
    unfold sizesV
    show _ = [V.int ((popF 0 : Nat) : Int)]
    rw [popF_zero]; rfl
  rw [e1] at n1
  have sh := shl1 n
  obtain ⟨N, hN⟩ : ∃ N, N = 2 ^ n - 1 := ⟨_, rfl⟩
  refine ⟨_, rfl, _, _, rfl, rfl, ⟨by omega, by omega, by decide⟩, _, _, rfl, ⟨by decide, by decide, by rw [sh]; omega, by rw [sh]; omega⟩, ?_⟩
  rw [show ((1 : Int) * 2 ^ ((n : Nat) : Int).toNat - 1).toNat = N by rw [sh]; omega]
  refine for_range (lo := 1) (n := N) (fun i σ H' => ∃ m : Option V, σ = [some (.int n), some (.ref p), m] ∧ New H p (.lst (sizesV (i + 1))) H') ⟨none, rfl, n1⟩ ?_ ?_
  · rintro i σ H2 hi ⟨m, rfl, n2⟩
    have ei : (1 : Int) + (i : Int) = ((i + 1 : Nat) : Int) := by omega
    rw [ei]
    have eh : ((i + 1 : Nat) : Int) / 2 ^ (1 : Int).toNat = (((i + 1) / 2 : Nat) : Int) := by
      rw [show (1 : Int).toNat = 1 from rfl]
      omega
    have em : ((popF ((i + 1) / 2) : Nat) : Int) + ((i + 1 : Nat) : Int) % 2 = ((popF (i + 1) : Nat) : Int) := by
      rw [popF_half (m := i + 1) (by omega)]
      omega
    refine ⟨_, rfl, .inl ⟨rfl, _, SqL.of n2.here⟩, _, rfl, _, rfl, _, _, rfl, rfl, (show (0 : Int) ≤ 1 by decide), p, _, _, V.int ((popF ((i + 1) / 2) : Nat) : Int), rfl, rfl, SqL.of n2.here, (by rw [eh]; exact sizesV_at (by omega)), _, rfl, _, _, rfl, rfl, (show (0 : Int) < _ by decide), _, _, rfl, rfl, ?_⟩
    dsimp only
    rw [em]
    refine ⟨p, _, _, rfl, rfl, n2.here, by rw [sizesV_len]; omega, fun H3 c3 => ?_⟩
    refine ⟨_, rfl, n2.fresh, ?_, fun b hb => (c3.rest b hb).trans (n2.rest b hb)⟩
    rw [c3.here]
    unfold sizesV
    rw [List.range_succ (n := i + 1), List.map_append]
    rfl
  · rintro σ H2 ⟨m, rfl, n2⟩
    rw [show N + 1 = 2 ^ n by omega] at n2
    exact ⟨_, rfl, q p H2 n2⟩
end

end K


namespace K
open PySem L2 Lw Bg

def runR (n : Nat) (ts : List (Int × Int)) (os : List Nat) : Nat → Nat → Bool := os.foldl (fun R v => takeR v R) (tiedR n ts)
theorem runR_snoc (n : Nat) (ts : List (Int × Int)) (os : List Nat) (v : Nat) : runR n ts (os ++ [v]) = takeR v (runR n ts os) := by
  unfold runR
  rw [List.foldl_append]
  rfl
def laterF (n : Nat) (R : Nat → Nat → Bool) (v : Nat) : List Nat := (List.range n).filter fun u => R v u && !decide (u = v)
def lateF (n : Nat) (ts : List (Int × Int)) (os : List Nat) (j : Nat) : List Nat := laterF n (runR n ts (os.take j)) (os.getD j 0)
theorem less_nat (l : List Nat) (v : Nat) : lessF (l.map fun (x : Nat) => (x : Int)) [(v : Int)] = (l.filter fun u => !decide (u = v)).map fun (x : Nat) => (x : Int) := by
  unfold lessF
  induction l with
  | nil => rfl
  | cons a r ih =>
    rw [List.map_cons, List.filter_cons, List.filter_cons, ih]
    by_cases c : a = v
    · subst c; simp
    · have : ¬ ((a : Int) = (v : Int)) := by omega
      simp [c, this]

def tieT (ts : List (Int × Int)) (x y : Nat) : Bool := decide (((x : Int), (y : Int)) ∈ ts) || decide (((y : Int), (x : Int)) ∈ ts)

/-- a way from x to u through places of S alone -/
inductive PathT (ts : List (Int × Int)) (S : List Nat) (x : Nat) : Nat → Prop
  | one {u : Nat} (h : tieT ts x u = true) : PathT ts S x u
  | step {a u : Nat} (p : PathT ts S x a) (m : a ∈ S) (h : tieT ts a u = true) : PathT ts S x u
theorem PathT.mono {ts : List (Int × Int)} {S S' : List Nat} {x u : Nat} (h : PathT ts S x u) (s : ∀ a ∈ S, a ∈ S') : PathT ts S' x u := by
  induction h with
  | one h => exact .one h
  | step p m h ih => exact .step ih (s _ m) h
theorem PathT.glue {ts : List (Int × Int)} {S : List Nat} {x w u : Nat} (hw : w ∈ S) (a : PathT ts S x w) (b : PathT ts S w u) : PathT ts S x u := by
  induction b with
  | one h => exact .step a hw h
  | step p m h ih => exact .step ih m h
theorem PathT.split {ts : List (Int × Int)} {S : List Nat} {x w u : Nat} (h : PathT ts (S ++ [w]) x u) : PathT ts S x u ∨ (PathT ts S x w ∧ PathT ts S w u) := by
  induction h with
  | one h => exact .inl (.one h)
  | @step a u p m h ih =>
    rcases List.mem_append.mp m with m | m
    · rcases ih with ih | ⟨i1, i2⟩
      · exact .inl (.step ih m h)
      · exact .inr ⟨i1, .step i2 m h⟩
    · have e := List.mem_singleton.mp m
      subst e
      rcases ih with ih | ⟨i1, _⟩
      · exact .inr ⟨ih, .one h⟩
      · exact .inr ⟨i1, .one h⟩
/-- what is left is tied just where a way leads through what is gone -/
structure RunP (n : Nat) (ts : List (Int × Int)) (S : List Nat) : Prop where
  path : ∀ x u, x < n → u < n → x ∉ S → u ∉ S → (runR n ts S x u = true ↔ x = u ∨ PathT ts S x u)
  gone : ∀ x u, x < n → x ∉ S → u ∈ S → runR n ts S x u = false
theorem run_path {n : Nat} {ts : List (Int × Int)} : ∀ (k : Nat) (S : List Nat), S.length = k → S.Nodup → (∀ a ∈ S, a < n) → RunP n ts S
  | 0, S, hl, _, _ => by
    have e : S = [] := List.eq_nil_of_length_eq_zero hl
    subst e
    refine ⟨fun x u hx hu _ _ => ?_, fun x u _ _ h => absurd h List.not_mem_nil⟩
    show tiedR n ts x u = true ↔ _
    unfold tiedR
    rw [decide_eq_true (show x < n ∧ u < n from ⟨hx, hu⟩), Bool.true_and, Bool.or_assoc, Bool.or_eq_true, decide_eq_true_iff]
    constructor
    · rintro (h | h)
      · exact .inl h.symm
      · exact .inr (.one h)
    · rintro (h | h)
      · exact .inl h.symm
      · cases h with
        | one h => exact .inr h
        | step p m h => exact absurd m List.not_mem_nil
  | k + 1, S, hl, nd, hn => by
    have hne : S ≠ [] := fun z => by rw [z] at hl; cases hl
    obtain ⟨S', w, rfl⟩ : ∃ S' w, S = S' ++ [w] := ⟨S.dropLast, S.getLast hne, (List.dropLast_concat_getLast hne).symm⟩
    obtain ⟨nd', _, dis⟩ := List.nodup_append.mp nd
    have wS : w ∉ S' := fun h => dis w h w (List.mem_singleton.mpr rfl) rfl
    have wn : w < n := hn w (List.mem_append_right _ (List.mem_singleton.mpr rfl))
    have ih := run_path (ts := ts) k S' (by rw [List.length_append] at hl; exact Nat.succ.inj hl) nd' fun a ha => hn a (List.mem_append_left _ ha)
    have out : ∀ {x}, x ∉ S' ++ [w] → x ∉ S' ∧ x ≠ w := fun {x} h => ⟨fun z => h (List.mem_append_left _ z), fun z => h (List.mem_append_right _ (List.mem_singleton.mpr z))⟩
    refine ⟨fun x u hx hu h1 h2 => ?_, fun x u hx h1 h2 => ?_⟩
    · obtain ⟨g1, n1⟩ := out h1
      obtain ⟨g2, n2⟩ := out h2
      rw [runR_snoc]
      have q1 := ih.path x u hx hu g1 g2
      have q2 := ih.path x w hx wn g1 wS
      have q3 := ih.path w u wn hu wS g2
      have big : ∀ a ∈ S', a ∈ S' ++ [w] := fun a ha => List.mem_append_left _ ha
      have wm : w ∈ S' ++ [w] := List.mem_append_right _ (List.mem_singleton.mpr rfl)
      unfold takeR
      rw [if_neg n1]
      constructor
      · intro h
        split at h
        · rename_i c
          rw [Bool.and_eq_true, Bool.or_eq_true] at h
          rcases h.1 with z | z
          · exact (q1.mp z).imp_right fun p => p.mono big
          · have p1 := (q2.mp c).resolve_left n1
            have p2 := (q3.mp z).resolve_left fun y => n2 y.symm
            exact .inr (PathT.glue wm (p1.mono big) (p2.mono big))
        · exact (q1.mp h).imp_right fun p => p.mono big
      · intro h
        have main : runR n ts S' x u = true ∨ (runR n ts S' x w = true ∧ runR n ts S' w u = true) := by
          rcases h with h | h
          · exact .inl (q1.mpr (.inl h))
          · rcases h.split with p | ⟨p1, p2⟩
            · exact .inl (q1.mpr (.inr p))
            · exact .inr ⟨q2.mpr (.inr p1), q3.mpr (.inr p2)⟩
        rcases main with m | ⟨m1, m2⟩
        · rw [m]
          split
          · rw [decide_eq_false n2]; rfl
          · rfl
        · rw [if_pos m1, m2, decide_eq_false n2]; simp
    · obtain ⟨g1, n1⟩ := out h1
      rw [runR_snoc]
      unfold takeR
      rw [if_neg n1]
      rcases List.mem_append.mp h2 with h2 | h2
      · rw [ih.gone x u hx g1 h2, ih.gone w u wn wS h2]
        split <;> rfl
      · have e := List.mem_singleton.mp h2
        subst e
        split
        · simp
        · rename_i c; simpa using c
theorem run_ok {n : Nat} {ts : List (Int × Int)} {S : List Nat} (nd : S.Nodup) (hn : ∀ a ∈ S, a < n) : RunP n ts S := run_path S.length S rfl nd hn

theorem fm_natif (p : Nat → Bool) : ∀ l : List Nat, l.filterMap (fun u => if p u = true then some (V.int ((u : Nat) : Int)) else none) = natV (l.filter p)
  | [] => rfl
  | a :: r => by
    have ih := fm_natif p r
    rw [List.filter_cons]
    by_cases c : p a = true
    · rw [if_pos c, List.filterMap_cons_some (by rw [if_pos c]), ih]; rfl
    · rw [if_neg c, List.filterMap_cons_none (by rw [if_neg c]), ih]
theorem fm_congr' {α β : Type} {f g : α → Option β} : ∀ {l : List α}, (∀ a ∈ l, f a = g a) → l.filterMap f = l.filterMap g
  | [], _ => rfl
  | a :: r, h => by
    have ih := fm_congr' (f := f) (g := g) (l := r) fun x hx => h x (List.mem_cons_of_mem _ hx)
    rw [List.filterMap_cons, List.filterMap_cons, h a List.mem_cons_self, ih]

abbrev s_folds : Stmt := top 19
theorem sc_folds : FnScope ["graph", "bags", "sizes", "steps", "v"] ["graph"] (defScope s_folds) := ⟨rfl, rfl, rfl, by decide +kernel, rfl, by decide +kernel, by decide +kernel⟩
abbrev s_first_to_fold : Stmt := top 20
theorem sc_first_to_fold : FnScope ["bags", "sizes", "v", "bag"] ["bags", "sizes"] (defScope s_first_to_fold) := ⟨rfl, rfl, rfl, by decide +kernel, rfl, by decide +kernel, by decide +kernel⟩
def foldable (ms : List Nat) (v : Nat) : Bool := decide (ms.getD v 0 ≠ 0) && decide (popF (ms.getD v 0) ≤ 3)
def FoldR (n : Nat) (ms : List Nat) (x : V) : Prop := (∃ v : Nat, v < n ∧ x = .int (v : Int) ∧ foldable ms v = true ∧ ∀ u < v, foldable ms u = false) ∨ (x = .non ∧ ∀ u < n, foldable ms u = false)
theorem one_out {v : Nat} : ∀ {l : List Nat}, l.Nodup → v ∈ l → (l.filter fun u => !decide (u = v)).length + 1 = l.length
  | [], _, h => absurd h List.not_mem_nil
  | a :: r, nd, h => by
    obtain ⟨n1, n2⟩ := List.nodup_cons.mp nd
    rw [List.filter_cons]
    by_cases c : a = v
    · subst c
      have e : r.filter (fun u => !decide (u = a)) = r := List.filter_eq_self.mpr fun x hx => by
        have : x ≠ a := fun z => n1 (by rw [← z]; exact hx)
        simpa using this
      rw [decide_eq_true rfl, if_neg (by decide), e]; rfl
    · have hr : v ∈ r := (List.mem_cons.mp h).resolve_left fun z => c z.symm
      have ih := one_out n2 hr
      rw [decide_eq_false c, if_pos (show (!false) = true from rfl)]
      show (r.filter _).length + 1 + 1 = r.length + 1
      omega
theorem pop_later {n : Nat} {ms : List Nat} {R : Nat → Nat → Bool} {v : Nat} (b : BagsM n ms R) (hv : v < n) (hR : R v v = true) : popF (ms.getD v 0) = (laterF n R v).length + 1 := by
  unfold popF
  rw [bags_places b hv]
  have h := one_out (v := v) (l := (List.range n).filter fun u => R v u) (List.nodup_range.sublist List.filter_sublist) (List.mem_filter.mpr ⟨List.mem_range.mpr hv, hR⟩)
  rw [List.filter_filter] at h
  have e : (List.range n).filter (fun u => !decide (u = v) && R v u) = laterF n R v := by
    unfold laterF
    exact List.filter_congr fun u _ => Bool.and_comm _ _
  rw [e] at h
  exact h.symm
theorem run_dead {n : Nat} {ts : List (Int × Int)} : ∀ (k : Nat) (S : List Nat), S.length = k → ∀ x ∈ S, ∀ u, runR n ts S x u = false
  | 0, S, hl, x, hx, _ => by rw [List.eq_nil_of_length_eq_zero hl] at hx; exact absurd hx List.not_mem_nil
  | k + 1, S, hl, x, hx, u => by
    have hne : S ≠ [] := fun z => by rw [z] at hl; cases hl
    obtain ⟨S', w, rfl⟩ : ∃ S' w, S = S' ++ [w] := ⟨S.dropLast, S.getLast hne, (List.dropLast_concat_getLast hne).symm⟩
    rw [runR_snoc]
    unfold takeR
    by_cases c : x = w
    · rw [if_pos c]
    · have hx' : x ∈ S' := by
        rcases List.mem_append.mp hx with h | h
        · exact h
        · exact absurd (List.mem_singleton.mp h) c
      have ih := run_dead (n := n) (ts := ts) k S' (by rw [List.length_append] at hl; exact Nat.succ.inj hl) x hx'
      rw [if_neg c, ih w, if_neg Bool.false_ne_true]
      exact ih u
theorem live {n : Nat} {ts : List (Int × Int)} {S ms : List Nat} (b : BagsM n ms (runR n ts S)) (nd : S.Nodup) (hS : ∀ x ∈ S, x < n) {v : Nat} (hv : v < n) : ms.getD v 0 ≠ 0 ↔ v ∉ S := by
  constructor
  · intro h hm
    refine h (Nat.eq_of_testBit_eq fun i => ?_)
    rw [b.bit v hv i, run_dead S.length S rfl v hm i, Nat.zero_testBit]
  · intro h z
    have := b.bit v hv v
    rw [z, Nat.zero_testBit, ((run_ok nd hS).path v v hv hv h h).mpr (.inl rfl)] at this
    cases this
theorem late_app {n : Nat} {ts : List (Int × Int)} {S T : List Nat} {j : Nat} (h : j < S.length) : lateF n ts (S ++ T) j = lateF n ts S j := by
  unfold lateF
  rw [List.take_append_of_le_length (by omega), List.getD_eq_getElem?_getD, List.getElem?_append_left h, ← List.getD_eq_getElem?_getD]
theorem late_last {n : Nat} {ts : List (Int × Int)} {S : List Nat} {v : Nat} : lateF n ts (S ++ [v]) S.length = laterF n (runR n ts S) v := by
  unfold lateF
  rw [List.take_left', List.getD_eq_getElem?_getD, List.getElem?_append_right (Nat.le_refl _), Nat.sub_self]
  · rfl
  · rfl
/-- the steps as they lie -/
structure StepL (H : Hp) (ps qs : List Addr) (n : Nat) (ts : List (Int × Int)) (S : List Nat) : Prop where
  lp : ps.length = S.length
  lq : qs.length = S.length
  tup : ∀ (j : Nat) p, ps[j]? = some p → ∀ v q, S[j]? = some v → qs[j]? = some q → H p = some (.tup [.int (v : Int), .ref q]) ∧ H q = some (.lst (natV (lateF n ts S j)))
theorem StepL.mono {H H' : Hp} {ps qs : List Addr} {n : Nat} {ts : List (Int × Int)} {S : List Nat} (st : StepL H ps qs n ts S) (k : ∀ b u, H b = some u → (∃ j : Nat, ps[j]? = some b ∨ qs[j]? = some b) → H' b = some u) : StepL H' ps qs n ts S :=
  ⟨st.lp, st.lq, fun j p hp v q hv hq => ⟨k _ _ (st.tup j p hp v q hv hq).1 ⟨j, .inl hp⟩, k _ _ (st.tup j p hp v q hv hq).2 ⟨j, .inr hq⟩⟩⟩
theorem StepL.snoc {H : Hp} {ps qs : List Addr} {n : Nat} {ts : List (Int × Int)} {S : List Nat} {p q : Addr} {v : Nat} (st : StepL H ps qs n ts S) (h1 : H p = some (.tup [.int (v : Int), .ref q])) (h2 : H q = some (.lst (natV (laterF n (runR n ts S) v)))) : StepL H (ps ++ [p]) (qs ++ [q]) n ts (S ++ [v]) := by
  have lp := st.lp
  have lq := st.lq
  refine ⟨by rw [List.length_append, List.length_append, st.lp]; rfl, by rw [List.length_append, List.length_append, st.lq]; rfl, fun j p' hp w q' hw hq => ?_⟩
  by_cases c : j < S.length
  · rw [List.getElem?_append_left (by omega)] at hp hw hq
    rw [late_app c]
    exact st.tup j p' hp w q' hw hq
  · rw [List.getElem?_append_right (by omega)] at hp hw hq
    cases z : j - S.length with
    | zero =>
      rw [lp, z] at hp
      rw [z] at hw
      rw [lq, z] at hq
      simp at hp hw hq
      have : j = S.length := by omega
      subst this
      rw [late_last, ← hp, ← hw, ← hq]
      exact ⟨h1, h2⟩
    | succ k => rw [z] at hw; simp at hw
def leftF (n : Nat) (S : List Nat) : List Nat := (List.range n).filter fun u => !decide (u ∈ S)
/-- the places folded, each the least that may be -/
structure FoldRun (n : Nat) (ts : List (Int × Int)) (S : List Nat) : Prop where
  nd : S.Nodup
  lt : ∀ x ∈ S, x < n
  few : ∀ j < S.length, (lateF n ts S j).length ≤ 2
  least : ∀ (j v : Nat), S[j]? = some v → ∀ u < v, u ∉ S.take j → 3 ≤ (laterF n (runR n ts (S.take j)) u).length
def spFirstFold (K : PySem.W.Frag) : Sp := fun vs H Q _ => ∃ (a z : Addr) (n : Nat) (ms : List Nat) (R : Nat → Nat → Bool), vs = [.ref a, .ref z] ∧ SqL K H a (natV ms) ∧ BagsM n ms R ∧ SqL K H z (sizesV (2 ^ n)) ∧ ∀ x H', Same H H' → FoldR n ms x → Q x H'
def spFolds (K : PySem.W.Frag) : Sp := fun vs H Q _ => ∃ (g : V) (n : Nat) (ts : List (Int × Int)), vs = [g] ∧ GraphV K H g n ts ∧ (∀ t ∈ ts, 0 ≤ t.1 ∧ t.1 < t.2 ∧ t.2 < (n : Int)) ∧ n ≤ 10 ∧
  ∀ p pst pl ps qs S H', Same H H' → H' p = some (.tup [.ref pst, .ref pl]) → H' pst = some (.lst (ps.map V.ref)) → StepL H' ps qs n ts S → H' pl = some (.lst (natV (leftF n S))) → FoldRun n ts S → (∀ v < n, v ∉ S → 3 ≤ (laterF n (runR n ts S) v).length) → (∀ q ∈ qs, H q = none) → H pl = none → Q (.ref p) H'
theorem bag_lt {n : Nat} {ms : List Nat} {R : Nat → Nat → Bool} (b : BagsM n ms R) {v : Nat} (hv : v < n) : ms.getD v 0 < 2 ^ n := lt_of_bits fun u hu => by
  rw [b.bit v hv u] at hu
  exact (b.far v u hu).2
section
variable {P : Program} {w : World} {K : PySem.W.Frag} {mg : Str → Option Value} {base : Heap}
set_option maxHeartbeats 4000000 in
theorem ok_first_to_fold (B : Bl mg) (d_first_to_fold : Dn K mg "first_to_fold" s_first_to_fold ["bags", "sizes"]) : FnOk P w K mg base CX0 1 d_first_to_fold.f d_first_to_fold.fd ["bags", "sizes"] (spFirstFold K) := by
  refine d_first_to_fold.F.ok sc_first_to_fold (fun vs H Q E h => ?_) (fun cdv A outer s H vs Q E hr h => ?_)
  · obtain ⟨a, z, n, ms, R, rfl, _⟩ := h
    rfl
  obtain ⟨a, z, n, ms, R, rfl, hA, BM, hZ, q⟩ := h
  have lm := BM.len
  refine ⟨_, (pss_cons (ps_for PassesOwn.never rfl (pi_enum (K := K) rfl rfl B.enumerate (pa_cons (pv 0) pa_nil)) (pg_tupK (K := K) (n := 2) rfl rfl (pgs_cons (pg_name (i := 2) sc_first_to_fold.nd rfl (Or.inl rfl)) (pgs_cons (pg_name (i := 3) sc_first_to_fold.nd rfl (Or.inl rfl)) pgs_nil)))
      (pss_one (ps_if (PW.pt (pw_and (pt_truthK (K := K) rfl (pv 3) (fun _ => rfl)) (pw_and1 (pt_cmpR op_le (pe_ix (ix_listK (K := K) rfl) (pv 1) (pv 3) (fun _ _ => rfl)) pe_int (nomark _)))))
      (pss_one (ps_ret (pv 2)))
      pss_nil)))
      (pss_one (ps_ret pe_non))), ?_⟩
  refine ⟨_, rfl, a, rfl, ⟨_, hA⟩, ?_⟩
  refine for_enum (xs := natV ms) (fun i σ H' => ∃ (vv bb : Option V), σ = [some (.ref a), some (.ref z), vv, bb] ∧ Same H H' ∧ ∀ u < i, foldable ms u = false) ⟨none, none, rfl, Same.refl _, fun u h => absurd h (Nat.not_lt_zero _)⟩ (fun i σ H' _ ⟨_, _, _, s, _⟩ => s.seq hA) ?_ ?_
  · rintro i x σ H1 p H2 hx ⟨vv, bb, rfl, s1, no⟩ n2
    rw [List.getElem?_map] at hx
    obtain ⟨m, hm, rfl⟩ := Option.map_eq_some_iff.mp hx
    have il : i < ms.length := (List.getElem?_eq_some_iff.mp hm).1
    have em : ms.getD i 0 = m := by rw [List.getD_eq_getElem?_getD, hm]; rfl
    have ml : m < 2 ^ n := by rw [← em]; exact bag_lt BM (by omega)
    have s2 := s1.trans n2.same
    refine ⟨p, _, rfl, SqT.of n2.here, rfl, _, _, rfl, _, _, rfl, rfl, ?_⟩
    have next : foldable ms i = false → ∀ u < i + 1, foldable ms u = false := fun f u hu => by
      by_cases c : u = i
      · rw [c]; exact f
      · exact no u (by omega)
    refine ⟨_, rfl, _, rfl, ?_⟩
    by_cases c : m = 0
    · rw [show (((m : Nat) : Int) != 0) = false by rw [c]; rfl]
      exact iteF ⟨_, _, rfl, s2, next (by unfold foldable; rw [em, c]; rfl)⟩
    · rw [show (((m : Nat) : Int) != 0) = true by simpa using c]
      refine iteT ?_
      refine ⟨_, rfl, _, rfl, z, _, _, _, rfl, rfl, s2.seq hZ, sizesV_at ml, _, _, rfl, rfl, _, rfl, ?_⟩
      refine ite2 (fun d => ?_) (fun d => ?_)
      · have d' : ((popF m : Nat) : Int) ≤ 3 := of_decide_eq_true d
        exact ⟨_, rfl, q _ H2 s2 (.inl ⟨i, by omega, rfl, by unfold foldable; rw [em, decide_eq_true c, decide_eq_true (show popF m ≤ 3 by omega)]; rfl, no⟩)⟩
      · have d' : ¬ ((popF m : Nat) : Int) ≤ 3 := of_decide_eq_false (Bool.eq_false_iff.mpr d)
        exact ⟨_, _, rfl, s2, next (by unfold foldable; rw [em, decide_eq_false (show ¬ popF m ≤ 3 by omega), Bool.and_false])⟩
  · rintro σ H1 ⟨vv, bb, rfl, s1, no⟩
    rw [List.length_map, lm] at no
    exact q _ H1 s1 (.inr ⟨rfl, no⟩)
set_option maxHeartbeats 8000000 in
theorem ok_folds (B : Bl mg) (d_less : Dn K mg "less" s_less ["one", "other"]) (d_places_of : Dn K mg "places_of" s_places_of ["mask"]) (d_mask_sizes : Dn K mg "mask_sizes" s_mask_sizes ["n"]) (d_first_bags : Dn K mg "first_bags" s_first_bags ["graph"]) (d_taken_out : Dn K mg "taken_out" s_taken_out ["bags", "v"]) (d_folds : Dn K mg "folds" s_folds ["graph"]) (d_first_to_fold : Dn K mg "first_to_fold" s_first_to_fold ["bags", "sizes"]) : FnOk P w K mg base CX0 3 d_folds.f d_folds.fd ["graph"] (spFolds K) := by
  have G_first_bags : FnOk P w K mg base CX0 2 _ _ _ _ := (ok_first_bags B d_first_bags).mono (by decide)
  have G_mask_sizes : FnOk P w K mg base CX0 2 _ _ _ _ := (ok_mask_sizes B d_mask_sizes).mono (by decide)
  have G_taken_out : FnOk P w K mg base CX0 2 _ _ _ _ := (ok_taken_out B d_taken_out).mono (by decide)
  have G_places_of : FnOk P w K mg base CX0 2 _ _ _ _ := (ok_places_of B d_places_of).mono (by decide)
  have G_less : FnOk P w K mg base CX0 2 _ _ _ _ := (ok_less B d_less).mono (by decide)
  have G_first_to_fold : FnOk P w K mg base CX0 2 _ _ _ _ := (ok_first_to_fold B d_first_to_fold).mono (by decide)
  refine d_folds.F.ok sc_folds (fun vs H Q E h => ?_) (fun cdv A outer s H vs Q E hr h => ?_)
  · obtain ⟨g, n, ts, rfl, _⟩ := h
    rfl
  obtain ⟨g, n, ts, rfl, hG, okt, n10, q⟩ := h
  obtain ⟨pg, ta, rfl, hP, hT⟩ := id hG
  refine ⟨_, (pss_cons (ps_set (i := 1) sc_folds.nd rfl (Or.inl rfl) (pe_call G_first_bags hr rfl d_first_bags.m d_first_bags.F.kp d_first_bags.b .nil pass0 (pa_cons (pv 0) pa_nil)))
      (pss_cons (ps_set (i := 2) sc_folds.nd rfl (Or.inl rfl) (pe_call G_mask_sizes hr rfl d_mask_sizes.m d_mask_sizes.F.kp d_mask_sizes.b .nil pass0 (pa_cons (pe_ix (ix_tupK (K := K) rfl) (pv 0) pe_int (fun _ _ => rfl)) pa_nil)))
      (pss_cons (ps_set (i := 3) sc_folds.nd rfl (Or.inl rfl) (pe_lstN pa_nil))
      (pss_cons (ps_set (i := 4) sc_folds.nd rfl (Or.inl rfl) (pe_call G_first_to_fold hr rfl d_first_to_fold.m d_first_to_fold.F.kp d_first_to_fold.b .nil pass0 (pa_cons (pv 1) (pa_cons (pv 2) pa_nil))))
      (pss_cons (ps_while PassesOwn.never (pt_cmpR op_notN (pv 4) pe_non (nomark _))
      (pss_cons (ps_expr (pe_bmK (K := K) rfl PySem.F.plainAttrs_list PySem.F.slot_list_append PySem.F.type_list_append mt_appendN (pv 3) (pa_cons (pe_tupN (pa_cons (pv 4) (pa_cons (pe_call G_less hr rfl d_less.m d_less.F.kp d_less.b .nil pass0 (pa_cons (pe_call G_places_of hr rfl d_places_of.m d_places_of.F.kp d_places_of.b .nil pass0 (pa_cons (pe_ix (ix_listK (K := K) rfl) (pv 1) (pv 4) (fun _ _ => rfl)) pa_nil)) (pa_cons (pe_lstN (pa_cons (pv 4) pa_nil)) pa_nil))) pa_nil))) pa_nil)))
      (pss_cons (ps_set (i := 1) sc_folds.nd rfl (Or.inl rfl) (pe_call G_taken_out hr rfl d_taken_out.m d_taken_out.F.kp d_taken_out.b .nil pass0 (pa_cons (pv 1) (pa_cons (pv 4) pa_nil))))
      (pss_one (ps_set (i := 4) sc_folds.nd rfl (Or.inl rfl) (pe_call G_first_to_fold hr rfl d_first_to_fold.m d_first_to_fold.F.kp d_first_to_fold.b .nil pass0 (pa_cons (pv 1) (pa_cons (pv 2) pa_nil))))))))
      (pss_one (ps_ret (pe_tupN (pa_cons (pv 3) (pa_cons (pe_lc ["u", "bag"] [none, none]  (by kernel_rfl) rfl (pi_enum (K := K) rfl rfl B.enumerate (pa_cons (pv 1) pa_nil)) (fun _ _ _ _ _ => (pg_tupK (K := K) (n := 2) rfl rfl (pgs_cons (pg_name (i := 0) (show (["u", "bag"] : List Str).Nodup by decide +kernel) rfl (Or.inl rfl)) (pgs_cons (pg_name (i := 1) (show (["u", "bag"] : List Str).Nodup by decide +kernel) rfl (Or.inl rfl)) pgs_nil)))) (fun _ _ _ _ _ => (pts_one (pt_truthK (K := K) rfl (pv 1) (fun _ => rfl)))) (fun _ _ _ _ _ => (pv 0))) pa_nil)))))))))), ?_⟩
  refine ⟨_, rfl, .ref pg, n, ts, rfl, hG, okt, n10, fun pb ms H2 s2 f2 hb2 BM => ?_⟩
  refine ⟨_, rfl, pg, _, _, _, rfl, rfl, s2.tupq hP, rfl, n, rfl, n10, fun pz H3 n3 => ?_⟩
  refine ⟨(by show 0 ≤ 1000; decide), fun pst H4 n4 => ?_⟩
  have s4 : Same H H4 := s2.trans (n3.same.trans n4.same)
  have hz4 : H4 pz = some (.lst (sizesV (2 ^ n))) := n4.same _ _ n3.here
  have hb4 : H4 pb = some (.lst (natV ms)) := n4.same _ _ (n3.same _ _ hb2)
  have fst : H pst = none := (s2.trans n3.same).free n4.fresh
  have nzs : pz ≠ pst := n4.ne n3.here
  refine ⟨_, rfl, _, rfl, pb, pz, n, ms, _, rfl, SqL.of hb4, BM, SqL.of hz4, fun x0 H5 s5 fr5 => ?_⟩
  refine ⟨fun m σ H' => ∃ (pb : Addr) (x : V) (S ms : List Nat) (ps qs : List Addr), m = n - S.length ∧ σ = [some (.ref pg), some (.ref pb), some (.ref pz), some (.ref pst), some x] ∧ Same H H' ∧ H' pb = some (.lst (natV ms)) ∧ pb ≠ pst ∧ BagsM n ms (runR n ts S) ∧ FoldRun n ts S ∧ FoldR n ms x ∧
      H' pz = some (.lst (sizesV (2 ^ n))) ∧ H' pst = some (.lst (ps.map V.ref)) ∧ StepL H' ps qs n ts S ∧ (∀ p ∈ ps, p ≠ pst) ∧ ∀ p ∈ qs, p ≠ pst ∧ H p = Option.none,
    ⟨_, pb, x0, [], ms, [], [], rfl, rfl, s4.trans s5, s5 _ _ hb4, n4.ne (n3.same _ _ hb2), BM, ⟨.nil, fun x h => absurd h List.not_mem_nil, fun j h => absurd h (Nat.not_lt_zero _), fun j v e => by simp at e⟩, fr5, s5 _ _ hz4, s5 _ _ n4.here, ⟨rfl, rfl, fun j p e => by simp at e⟩, fun p h => absurd h List.not_mem_nil, fun p h => absurd h List.not_mem_nil⟩, ?_⟩
  rintro m σ H6 ⟨pb, x, S, ms, ps, qs, rfl, rfl, s6, hb6, nbs, BM, FR, fr, hz6, hst6, st, pps, pqs⟩
  have nd := FR.nd
  have hS := FR.lt
  have few := FR.few
  refine ⟨_, rfl, rfl, _, rfl, ?_⟩
  rcases fr with ⟨v, vn, rfl, fv, leastv⟩ | ⟨rfl, nofold⟩
  · refine iteT ?_
    unfold foldable at fv
    rw [Bool.and_eq_true, decide_eq_true_iff, decide_eq_true_iff] at fv
    have vS : v ∉ S := (live BM nd hS vn).mp fv.1
    have hR : runR n ts S v v = true := ((run_ok nd hS).path v v vn vn vS vS).mpr (.inl rfl)
    have pl := pop_later BM vn hR
    have BM0 := BM
    have nd' : (S ++ [v]).Nodup := List.nodup_append.mpr ⟨nd, List.nodup_cons.mpr ⟨List.not_mem_nil, .nil⟩, fun a ha b hb z => vS (by rw [← List.mem_singleton.mp hb, ← z]; exact ha)⟩
    have hS' : ∀ x ∈ S ++ [v], x < n := fun x hx => by
      rcases List.mem_append.mp hx with h | h
      · exact hS x h
      · rw [List.mem_singleton.mp h]; exact vn
    have ln' := nodup_le nd' hS'
    rw [List.length_append] at ln'
    have ln'' : S.length + 1 ≤ n := ln'
    refine ⟨fun σ' H' => ∃ (pb : Addr) (x : V) (ms : List Nat) (ps qs : List Addr), σ' = [some (.ref pg), some (.ref pb), some (.ref pz), some (.ref pst), some x] ∧ Same H H' ∧ H' pb = some (.lst (natV ms)) ∧ pb ≠ pst ∧ BagsM n ms (runR n ts (S ++ [v])) ∧ FoldR n ms x ∧
      H' pz = some (.lst (sizesV (2 ^ n))) ∧ H' pst = some (.lst (ps.map V.ref)) ∧ StepL H' ps qs n ts (S ++ [v]) ∧ (∀ p ∈ ps, p ≠ pst) ∧ ∀ p ∈ qs, p ≠ pst ∧ H p = Option.none, ?_, ?_⟩
    · rintro σ' H' ⟨pb, x, ms, ps, qs, rfl, h1, h2, h3, h4, h5, h6, h7, h8, h9, h10⟩
      refine ⟨n - (S ++ [v]).length, by rw [List.length_append]; show n - (S.length + 1) < n - S.length; omega, pb, x, S ++ [v], ms, ps, qs, rfl, rfl, h1, h2, h3, h4, ⟨nd', hS', fun j hj => ?_, fun j w hw u hu hg => ?_⟩, h5, h6, h7, h8, h9, h10⟩
      · by_cases c : j < S.length
        · rw [late_app c]; exact few j c
        · rw [List.length_append] at hj
          have : j = S.length := by
            have : j < S.length + 1 := hj
            omega
          rw [this, late_last]
          omega
      · by_cases c : j < S.length
        · rw [List.take_append_of_le_length (by omega)] at hg ⊢
          rw [List.getElem?_append_left c] at hw
          exact FR.least j w hw u hu hg
        · have hj2 := (List.getElem?_eq_some_iff.mp hw).1
          rw [List.length_append] at hj2
          have ej : j = S.length := by
            have : j < S.length + 1 := hj2
            omega
          subst ej
          rw [List.take_left' rfl] at hg ⊢
          rw [List.getElem?_append_right (Nat.le_refl _), Nat.sub_self] at hw
          simp at hw
          subst hw
          have un : u < n := by omega
          have hRu : runR n ts S u u = true := ((run_ok nd hS).path u u un un hg hg).mpr (.inl rfl)
          have plu := pop_later BM0 un hRu
          have nf := leastv u hu
          unfold foldable at nf
          rw [decide_eq_true ((live BM0 nd hS un).mpr hg), Bool.true_and] at nf
          have := of_decide_eq_false nf
          omega
    have lv : v < ms.length := by rw [BM.len]; exact vn
    refine ⟨_, rfl, .inl ⟨rfl, _, SqL.of hst6⟩, _, rfl, _, rfl, _, rfl, pb, _, _, _, rfl, rfl, SqL.of hb6, natV_at lv, _, rfl, BM.mlt vn, fun H7 pp H8 s7 n8 => ?_⟩
    refine ⟨_, rfl, (by show 1 ≤ 1000; decide), fun p9 H9 n9 => ?_⟩
    have hpp : SqL K H9 pp ((placesF (ms.getD v 0)).map (fun (x : Nat) => (x : Int)) |>.map V.int) := by rw [← natV_ints]; exact SqL.of (n9.same _ _ n8.here)
    have hz : (placesF (ms.getD v 0)).length ≤ 10 := by
      unfold placesF
      refine Nat.le_trans (List.length_filter_le _ _) ?_
      simp
    refine ⟨pp, p9, _, [(v : Int)], rfl, hpp, SqL.of n9.here, by rw [List.length_map]; omega, fun H10 pq H11 s10 n11 => ?_⟩
    rw [less_nat, bags_places BM vn, List.filter_filter, ← natV_ints] at n11
    have el : (List.range n).filter (fun u => !decide (u = v) && runR n ts S v u) = laterF n (runR n ts S) v := by
      unfold laterF
      exact List.filter_congr fun u _ => Bool.and_comm _ _
    rw [el] at n11
    refine ⟨(by show 2 ≤ 1000; decide), fun pt H12 n12 => ?_⟩
    have s612 : Same H6 H12 := s7.trans (n8.same.trans (n9.same.trans (s10.trans (n11.same.trans n12.same))))
    have hst12 := s612 _ _ hst6
    have lps := st.lp
    refine ⟨pst, _, _, rfl, rfl, hst12, by rw [List.length_map]; omega, fun H13 c13 => ?_⟩
    have keep : ∀ b u, b ≠ pst → H6 b = some u → H13 b = some u := fun b u hb e => (c13.rest b hb).trans (s612 _ _ e)
    have s13 : Same H H13 := (s6.trans s612).chg fst c13
    have npq : pq ≠ pst := (n11.ne (s10 _ _ (n9.same _ _ (n8.same _ _ (s7 _ _ hst6))))).symm
    have npt : pt ≠ pst := (n12.ne (n11.same _ _ (s10 _ _ (n9.same _ _ (n8.same _ _ (s7 _ _ hst6)))))).symm
    refine ⟨_, rfl, _, rfl, pb, n, ms, _, v, rfl, SqL.of (keep _ _ nbs hb6), BM, vn, fun pb2 H14 s14 f14 hb14 => ?_⟩
    have BM2 : BagsM n (takeM v ms) (runR n ts (S ++ [v])) := by rw [runR_snoc]; exact take_ok BM vn
    have hz14 := s14 _ _ (keep _ _ nzs hz6)
    refine ⟨_, rfl, _, rfl, pb2, pz, n, takeM v ms, _, rfl, SqL.of hb14, BM2, SqL.of hz14, fun x1 H15 s15 fr15 => ?_⟩
    have s1315 := s14.trans s15
    refine ⟨pb2, x1, takeM v ms, ps ++ [pt], qs ++ [pq], rfl, s13.trans s1315, s15 _ _ hb14, fun z => ?_, BM2, fr15, s15 _ _ hz14, ?_, ?_, fun p hp => ?_, fun p hp => ?_⟩
    · rw [z, c13.here] at f14; cases f14
    · rw [s1315 _ _ c13.here, List.map_append]; rfl
    · refine StepL.snoc (st.mono fun b u e hj => ?_) (s1315 _ _ ((c13.rest pt npt).trans n12.here)) (s1315 _ _ ((c13.rest pq npq).trans (n12.same _ _ n11.here)))
      refine s1315 _ _ (keep b u ?_ e)
      obtain ⟨j, hj | hj⟩ := hj
      · exact pps b (List.mem_of_getElem? hj)
      · exact (pqs b (List.mem_of_getElem? hj)).1
    · rcases List.mem_append.mp hp with h | h
      · exact pps p h
      · rw [List.mem_singleton.mp h]; exact npt
    · rcases List.mem_append.mp hp with h | h
      · exact pqs p h
      · rw [List.mem_singleton.mp h]; exact ⟨npq, (s6.trans (s7.trans (n8.same.trans (n9.same.trans s10)))).free n11.fresh⟩
  · refine iteF ?_
    refine ⟨_, rfl, _, rfl, pb, rfl, ⟨_, SqL.of hb6⟩, ?_⟩
    refine lc_enum (fun i x => if decide (x ≠ .int 0) = true then some (.int ((i : Nat) : Int)) else none) (SqL.of hb6) (by rw [List.length_map, BM.len]; omega) (fun i x H7 p H8 N hx s7 n8 hN => ?_) (fun H7 pl H8 s7 n8 => ?_)
    · rw [List.getElem?_map] at hx
      obtain ⟨y, hy, rfl⟩ := Option.map_eq_some_iff.mp hx
      have hN' := hN H8 (s7.trans n8.same)
      refine ⟨p, _, rfl, SqT.of n8.here, rfl, _, _, rfl, _, _, rfl, rfl, ?_⟩
      refine ⟨_, rfl, _, rfl, ?_⟩
      by_cases c : y = 0
      · rw [show decide (V.int ((y : Nat) : Int) ≠ .int 0) = false by rw [c]; decide] at hN'
        rw [show (((y : Nat) : Int) != 0) = false by rw [c]; rfl]
        exact iteF hN'
      · rw [show decide (V.int ((y : Nat) : Int) ≠ .int 0) = true from decide_eq_true fun z => c (by have := V.int.inj z; omega)] at hN'
        rw [show (((y : Nat) : Int) != 0) = true by simpa using c]
        exact iteT ⟨_, rfl, hN'⟩
    · have e8 : (List.range (natV ms).length).filterMap (fun i => ((natV ms)[i]?).bind ((fun (i : Nat) (x : V) => if decide (x ≠ .int 0) = true then some (V.int ((i : Nat) : Int)) else none) i)) = natV (leftF n S) := by
        rw [List.length_map, BM.len]
        unfold leftF
        rw [← fm_natif]
        refine fm_congr' fun i hi => ?_
        have hin := List.mem_range.mp hi
        have hl : i < ms.length := by rw [BM.len]; exact hin
        rw [List.getElem?_map, List.getElem?_eq_getElem hl]
        show (if decide (V.int ((ms[i] : Nat) : Int) ≠ .int 0) = true then some (V.int ((i : Nat) : Int)) else none) = _
        have eg : ms.getD i 0 = ms[i] := by rw [List.getD_eq_getElem?_getD, List.getElem?_eq_getElem hl]; rfl
        have lv := live BM nd hS hin
        rw [eg] at lv
        have ed : decide (V.int ((ms[i] : Nat) : Int) ≠ .int 0) = !decide (i ∈ S) := by
          rw [Bool.eq_iff_iff, decide_eq_true_iff]
          constructor
          · intro h
            have : i ∉ S := lv.mp fun z => h (by rw [z]; rfl)
            simpa using this
          · intro h z
            have h1 : i ∉ S := by simpa using h
            exact lv.mpr h1 (by have := V.int.inj z; omega)
        rw [ed]
      rw [e8] at n8
      refine ⟨(by show 2 ≤ 1000; decide), fun p9 H9 n9 => ?_⟩
      have s69 : Same H6 H9 := s7.trans (n8.same.trans n9.same)
      refine q p9 pst pl ps qs S H9 (s6.trans s69) n9.here (s69 _ _ hst6) (st.mono fun b u e _ => s69 _ _ e) (n9.same _ _ n8.here) FR (fun v vn vS => ?_) (fun p hp => (pqs p hp).2) ((s6.trans s7).free n8.fresh)
      have hR : runR n ts S v v = true := ((run_ok nd hS).path v v vn vn vS vS).mpr (.inl rfl)
      have pl := pop_later BM vn hR
      have nf := nofold v vn
      unfold foldable at nf
      rw [decide_eq_true ((live BM nd hS vn).mpr vS), Bool.true_and] at nf
      have := of_decide_eq_false nf
      omega
end

end K

namespace K
open PySem L2 Lw Bg
theorem nd_map {α β : Type} {l : List α} {f : α → β} (nd : l.Nodup) (inj : ∀ x y, x ∈ l → y ∈ l → f x = f y → x = y) : (l.map f).Nodup := by
  induction l with
  | nil => exact .nil
  | cons a r ih =>
    obtain ⟨n1, n2⟩ := List.nodup_cons.mp nd
    refine List.nodup_cons.mpr ⟨fun z => ?_, ih n2 fun x y hx hy => inj x y (List.mem_cons_of_mem _ hx) (List.mem_cons_of_mem _ hy)⟩
    obtain ⟨b, hb, e⟩ := List.mem_map.mp z
    have := inj b a (List.mem_cons_of_mem _ hb) List.mem_cons_self e
    exact n1 (this ▸ hb)
theorem pigN {α : Type} [DecidableEq α] {l U : List α} (nd : l.Nodup) (h : ∀ x ∈ l, x ∈ U) : l.length ≤ U.length := by
  induction l generalizing U with
  | nil => exact Nat.zero_le _
  | cons a r ih =>
    obtain ⟨n1, n2⟩ := List.nodup_cons.mp nd
    have am := h a List.mem_cons_self
    have := ih (U := U.erase a) n2 fun x hx => (List.mem_erase_of_ne (fun e => n1 (by rw [← e]; exact hx))).mpr (h x (List.mem_cons_of_mem _ hx))
    rw [List.length_erase_of_mem am] at this
    have := List.length_pos_of_mem am
    rw [List.length_cons]; omega
theorem len_wo {α : Type} [DecidableEq α] {l : List α} {v : α} (nd : l.Nodup) : l.length ≤ (l.filter fun x => !decide (x = v)).length + 1 := by
  have := pigN (l := l) (U := v :: l.filter fun x => !decide (x = v)) nd fun x hx => by
    by_cases c : x = v
    · rw [c]; exact List.mem_cons_self
    · exact List.mem_cons_of_mem _ (List.mem_filter.mpr ⟨hx, by simp [c]⟩)
  rwa [List.length_cons] at this

section
variable {α β : Type} [DecidableEq α] [DecidableEq β]
/-- at most two of the set are tied with it -/
def Few (V : α → Prop) (R : α → α → Prop) (v : α) : Prop := ∀ U : List α, U.Nodup → (∀ u ∈ U, V u ∧ u ≠ v ∧ R v u) → U.length ≤ 2
def Wo (V : α → Prop) (v : α) : α → Prop := fun x => V x ∧ x ≠ v
def El (R : α → α → Prop) (v : α) : α → α → Prop := fun x y => R x y ∨ (R x v ∧ R v y)
/-- b made one with a -/
def Mg (R : α → α → Prop) (a b : α) : α → α → Prop := fun x y => R x y ∨ (x = a ∧ R b y) ∨ (y = a ∧ R x b)
inductive Fo : (α → Prop) → (α → α → Prop) → Prop
  | nil {V : α → Prop} {R : α → α → Prop} : (∀ x, ¬ V x) → Fo V R
  | step {V : α → Prop} {R : α → α → Prop} (v : α) : V v → Few V R v → Fo (Wo V v) (El R v) → Fo V R
theorem Fo.map {V : α → Prop} {R : α → α → Prop} (h : Fo V R) : ∀ {V' : β → Prop} {R' : β → β → Prop} (f : β → α), (∀ x, V' x → V (f x)) → (∀ x y, V' x → V' y → f x = f y → x = y) → (∀ x y, V' x → V' y → x ≠ y → R' x y → R (f x) (f y)) → Fo V' R' := by
  induction h with
  | nil e => exact fun f hv _ _ => .nil fun x hx => e _ (hv x hx)
  | @step V R v hv few _ ih =>
    intro V' R' f fV inj fR
    by_cases c : ∃ x, V' x ∧ f x = v
    · obtain ⟨x0, hx0, e0⟩ := c
      refine .step x0 hx0 (fun U nd hU => ?_) (ih f (fun x hx => ⟨fV x hx.1, fun z => hx.2 (inj x x0 hx.1 hx0 (z.trans e0.symm))⟩) (fun x y hx hy => inj x y hx.1 hy.1) fun x y hx hy ne h => ?_)
      · have := few (U.map f) (nd_map nd fun a b ha hb => inj a b (hU a ha).1 (hU b hb).1) fun u hu => by
          obtain ⟨w, hw, rfl⟩ := List.mem_map.mp hu
          obtain ⟨w1, w2, w3⟩ := hU w hw
          exact ⟨fV w w1, fun z => w2 (inj w x0 w1 hx0 (z.trans e0.symm)), e0 ▸ fR x0 w hx0 w1 (Ne.symm w2) w3⟩
        rwa [List.length_map] at this
      · rcases h with h | ⟨h1, h2⟩
        · exact .inl (fR x y hx.1 hy.1 ne h)
        · exact .inr ⟨e0 ▸ fR x x0 hx.1 hx0 hx.2 h1, e0 ▸ fR x0 y hx0 hy.1 (Ne.symm hy.2) h2⟩
    · refine ih f (fun x hx => ⟨fV x hx, fun z => c ⟨x, hx, z⟩⟩) inj fun x y hx hy ne h => .inl (fR x y hx hy ne h)
theorem Fo.sub {V V' : α → Prop} {R R' : α → α → Prop} (h : Fo V R) (hV : ∀ x, V' x → V x) (hR : ∀ x y, V' x → V' y → x ≠ y → R' x y → R x y) : Fo V' R' :=
  h.map id hV (fun _ _ _ _ e => e) hR
theorem Fo.merge {V : α → Prop} {R : α → α → Prop} (h : Fo V R) : ∀ {a b : α}, (∀ x y, R x y → R y x) → V a → V b → a ≠ b → R a b → Fo (Wo V b) (Mg R a b) := by
  induction h with
  | nil e => exact fun _ ha => absurd ha (e _)
  | @step V R v hv few hF ih =>
    intro a b sym ha hb ne hab
    by_cases vb : v = b
    · subst vb
      refine hF.sub (fun x hx => hx) fun x y hx hy nxy h => ?_
      rcases h with h | ⟨rfl, h⟩ | ⟨rfl, h⟩
      · exact .inl h
      · exact .inr ⟨hab, h⟩
      · exact .inr ⟨h, sym _ _ hab⟩
    by_cases va : v = a
    · subst va
      refine hF.map (fun x => if x = v then b else x) (fun x hx => ?_) (fun x y hx hy e => ?_) fun x y hx hy nxy h => ?_
      · skip
        split
        · exact ⟨hb, Ne.symm ne⟩
        · rename_i c
          exact ⟨hx.1, c⟩
      · skip
        split at e <;> split at e
        · rename_i c d; rw [c, d]
        · exact absurd e.symm hy.2
        · exact absurd e hx.2
        · exact e
      · skip
        by_cases c : x = v
        · rw [if_pos c]
          have ny : y ≠ v := fun z => nxy (c.trans z.symm)
          rw [if_neg ny]
          rcases h with h | ⟨_, h⟩ | ⟨h, _⟩
          · rw [c] at h
            exact .inr ⟨sym _ _ hab, h⟩
          · exact .inl h
          · exact absurd h ny
        · rw [if_neg c]
          by_cases d : y = v
          · rw [if_pos d]
            rcases h with h | ⟨h, _⟩ | ⟨_, h⟩
            · rw [d] at h
              exact .inr ⟨h, hab⟩
            · exact absurd h c
            · exact .inl h
          · rw [if_neg d]
            rcases h with h | ⟨h, _⟩ | ⟨h, _⟩
            · exact .inl h
            · exact absurd h c
            · exact absurd h d
    · have symE : ∀ x y, El R v x y → El R v y x := fun x y h => by
        rcases h with h | ⟨h1, h2⟩
        · exact .inl (sym _ _ h)
        · exact .inr ⟨sym _ _ h2, sym _ _ h1⟩
      have F1 := ih symE ⟨ha, Ne.symm va⟩ ⟨hb, Ne.symm vb⟩ ne (.inl hab)
      refine .step v ⟨hv, vb⟩ (fun U nd hU => ?_) (F1.sub (fun x hx => ⟨⟨hx.1.1, hx.2⟩, hx.1.2⟩) fun x y hx hy nxy h => ?_)
      · by_cases c : R v a
        · refine few U nd fun u hu => ?_
          obtain ⟨⟨u1, u2⟩, u3, u4⟩ := hU u hu
          refine ⟨u1, u3, ?_⟩
          rcases u4 with h | ⟨h, _⟩ | ⟨h, _⟩
          · exact h
          · exact absurd h va
          · rw [h]; exact c
        · have := few (U.map fun x => if x = a then b else x) (nd_map nd fun x y hx hy e => ?_) fun u hu => ?_
          · rwa [List.length_map] at this
          · obtain ⟨⟨_, x2⟩, _, _⟩ := hU x hx
            obtain ⟨⟨_, y2⟩, _, _⟩ := hU y hy
            split at e <;> split at e
            · rename_i c d; rw [c, d]
            · exact absurd e.symm y2
            · exact absurd e x2
            · exact e
          · obtain ⟨x, hx, rfl⟩ := List.mem_map.mp hu
            obtain ⟨⟨x1, x2⟩, x3, x4⟩ := hU x hx
            split
            · rename_i d
              refine ⟨hb, Ne.symm vb, ?_⟩
              rcases x4 with h | ⟨h, _⟩ | ⟨_, h⟩
              · rw [d] at h; exact absurd h c
              · exact absurd h va
              · exact h
            · rename_i d
              refine ⟨x1, x3, ?_⟩
              rcases x4 with h | ⟨h, _⟩ | ⟨h, _⟩
              · exact h
              · exact absurd h va
              · exact absurd h d
      · rcases h with h | ⟨h1, h2⟩
        · rcases h with h | ⟨e, h⟩ | ⟨e, h⟩
          · exact .inl (.inl h)
          · exact .inr (.inl ⟨e, .inl h⟩)
          · exact .inr (.inr ⟨e, .inl h⟩)
        · have h1' : R x v ∨ (x = a ∧ R b v) := by
            rcases h1 with h | h | ⟨h, _⟩
            · exact .inl h
            · exact .inr h
            · exact absurd h va
          have h2' : R v y ∨ (y = a ∧ R v b) := by
            rcases h2 with h | ⟨h, _⟩ | h
            · exact .inl h
            · exact absurd h va
            · exact .inr h
          rcases h1' with h1 | ⟨ex, h1⟩
          · rcases h2' with h2 | ⟨ey, h2⟩
            · exact .inl (.inr ⟨h1, h2⟩)
            · exact .inr (.inr ⟨ey, .inr ⟨h1, h2⟩⟩)
          · rcases h2' with h2 | ⟨ey, h2⟩
            · exact .inr (.inl ⟨ex, .inr ⟨h1, h2⟩⟩)
            · exact absurd (ex.trans ey.symm) nxy
/-- a place with few can go first -/
theorem Fo.out {V : α → Prop} {R : α → α → Prop} {v : α} (h : Fo V R) (sym : ∀ x y, R x y → R y x) (hv : V v) (few : Few V R v) : Fo (Wo V v) (El R v) := by
  by_cases c : ∃ a, V a ∧ a ≠ v ∧ R v a
  · obtain ⟨a, ha, na, hR⟩ := c
    refine (h.merge sym ha hv na (sym _ _ hR)).sub (fun x hx => hx) fun x y hx hy nxy e => ?_
    rcases e with e | ⟨e1, e2⟩
    · exact .inl e
    by_cases xa : x = a
    · exact .inr (.inl ⟨xa, e2⟩)
    by_cases ya : y = a
    · exact .inr (.inr ⟨ya, e1⟩)
    have := few [a, x, y] (by simp [Ne.symm xa, Ne.symm ya, nxy]) fun u hu => by
      rcases List.mem_cons.mp hu with rfl | hu
      · exact ⟨ha, na, hR⟩
      rcases List.mem_cons.mp hu with rfl | hu
      · exact ⟨hx.1, hx.2, sym _ _ e1⟩
      · rw [List.mem_singleton.mp hu]; exact ⟨hy.1, hy.2, e2⟩
    exact absurd this (by simp)
  · refine h.sub (fun x hx => hx.1) fun x y hx hy nxy e => ?_
    rcases e with e | ⟨e1, e2⟩
    · exact e
    · exact absurd ⟨y, hy.1, hy.2, e2⟩ c
theorem Fo.some_few {V : α → Prop} {R : α → α → Prop} (h : Fo V R) {x : α} (hx : V x) : ∃ v, V v ∧ Few V R v := by
  cases h with
  | nil e => exact absurd hx (e x)
  | step v hv few _ => exact ⟨v, hv, few⟩
/-- of four places or more two that are not tied have few -/
theorem Fo.two {V : α → Prop} {R : α → α → Prop} (h : Fo V R) : (∀ x y, R x y → R y x) → (∃ L : List α, L.Nodup ∧ L.length = 4 ∧ ∀ x ∈ L, V x) → ∃ x y, V x ∧ V y ∧ x ≠ y ∧ ¬ R x y ∧ Few V R x ∧ Few V R y := by
  induction h with
  | nil e =>
    rintro _ ⟨L, _, l, hL⟩
    match L, l with
    | a :: _, _ => exact absurd (hL a List.mem_cons_self) (e a)
  | @step V R v hv few hF ih =>
    intro sym hL
    have symE : ∀ x y, El R v x y → El R v y x := fun x y h => by
      rcases h with h | ⟨h1, h2⟩
      · exact .inl (sym _ _ h)
      · exact .inr ⟨sym _ _ h2, sym _ _ h1⟩
    by_cases c : ∃ L : List α, L.Nodup ∧ L.length = 4 ∧ ∀ x ∈ L, Wo V v x
    · obtain ⟨x, y, hx, hy, nxy, nR, fx, fy⟩ := ih symE c
      have one : ∀ z, Wo V v z → ¬ R v z → Few (Wo V v) (El R v) z → ∃ x y, V x ∧ V y ∧ x ≠ y ∧ ¬ R x y ∧ Few V R x ∧ Few V R y := fun z hz nz fz => by
        refine ⟨v, z, hv, hz.1, Ne.symm hz.2, nz, few, fun U nd hU => fz U nd fun u hu => ?_⟩
        obtain ⟨u1, u2, u3⟩ := hU u hu
        exact ⟨⟨u1, fun e => nz (sym _ _ (e ▸ u3))⟩, u2, .inl u3⟩
      by_cases d : R v x
      · by_cases e : R v y
        · exact absurd (.inr ⟨sym _ _ d, e⟩) nR
        · exact one y hy e fy
      · exact one x hx d fx
    · obtain ⟨L, nd, l, hL⟩ := hL
      have l3 : 3 ≤ (L.filter fun x => !decide (x = v)).length := by
        have : L.length ≤ (L.filter fun x => !decide (x = v)).length + 1 := len_wo nd
        omega
      obtain ⟨p, hp, np⟩ : ∃ p, Wo V v p ∧ ¬ R v p := by
        refine Classical.byContradiction fun no => ?_
        have := few (L.filter fun x => !decide (x = v)) (nd.sublist List.filter_sublist) fun u hu => by
          rw [List.mem_filter] at hu
          have uv : u ≠ v := by simpa using hu.2
          refine ⟨hL u hu.1, uv, Classical.byContradiction fun nu => no ⟨u, ⟨hL u hu.1, uv⟩, nu⟩⟩
        omega
      refine ⟨v, p, hv, hp.1, Ne.symm hp.2, np, few, fun U ndU hU => ?_⟩
      refine Classical.byContradiction fun big => c ⟨p :: U.take 3, ?_, ?_, fun x hx => ?_⟩
      · refine List.nodup_cons.mpr ⟨fun z => (hU p (List.mem_of_mem_take z)).2.1 rfl, ndU.sublist (List.take_sublist _ _)⟩
      · rw [List.length_cons, List.length_take]; omega
      · rcases List.mem_cons.mp hx with rfl | hx
        · exact hp
        · obtain ⟨u1, u2, u3⟩ := hU x (List.mem_of_mem_take hx)
          exact ⟨u1, fun e => np (sym _ _ (e ▸ u3))⟩
/-- what cannot be made less is four that are all tied -/
theorem four_left {V : α → Prop} {R : α → α → Prop} (sym : ∀ x y, R x y → R y x) (hF : ¬ Fo V R) (del : ∀ v, V v → Fo (Wo V v) R) (con : ∀ a b, V a → V b → a ≠ b → R a b → Fo (Wo V b) (Mg R a b)) {L : List α} (nd : L.Nodup) (mem : ∀ x, x ∈ L ↔ V x) : L.length = 4 ∧ ∀ x ∈ L, ∀ y ∈ L, x ≠ y → R x y := by
  have nofew : ∀ v, V v → ¬ Few V R v := fun v hv few => by
    refine hF (.step v hv few ?_)
    by_cases c : ∃ a, V a ∧ a ≠ v ∧ R v a
    · obtain ⟨a, ha, na, hR⟩ := c
      refine (con a v ha hv na (sym _ _ hR)).sub (fun x hx => hx) fun x y hx hy nxy e => ?_
      rcases e with e | ⟨e1, e2⟩
      · exact .inl e
      by_cases xa : x = a
      · exact .inr (.inl ⟨xa, e2⟩)
      by_cases ya : y = a
      · exact .inr (.inr ⟨ya, e1⟩)
      have := few [a, x, y] (by simp [Ne.symm xa, Ne.symm ya, nxy]) fun u hu => by
        rcases List.mem_cons.mp hu with rfl | hu
        · exact ⟨ha, na, hR⟩
        rcases List.mem_cons.mp hu with rfl | hu
        · exact ⟨hx.1, hx.2, sym _ _ e1⟩
        · rw [List.mem_singleton.mp hu]; exact ⟨hy.1, hy.2, e2⟩
      exact absurd this (by simp)
    · refine (del v hv).sub (fun x hx => hx) fun x y hx hy nxy e => ?_
      rcases e with e | ⟨e1, e2⟩
      · exact e
      · exact absurd ⟨y, hy.1, hy.2, e2⟩ c
  have three : ∀ v, V v → ∃ U : List α, U.Nodup ∧ U.length = 3 ∧ ∀ u ∈ U, V u ∧ u ≠ v ∧ R v u := fun v hv => by
    refine Classical.byContradiction fun no => nofew v hv fun U ndU hU => ?_
    refine Classical.byContradiction fun big => no ⟨U.take 3, ndU.sublist (List.take_sublist _ _), by rw [List.length_take]; omega, fun u hu => hU u (List.mem_of_mem_take hu)⟩
  have no5 : ¬ 5 ≤ L.length := fun l5 => by
    have T : ∀ u v, V u → V v → u ≠ v → R u v → ∃ x y, V x ∧ V y ∧ x ≠ y ∧ x ≠ u ∧ x ≠ v ∧ y ≠ u ∧ y ≠ v ∧ ¬ R x y ∧ R x u ∧ R x v ∧ R y u ∧ R y v ∧ (∀ U : List α, U.Nodup → (∀ w ∈ U, V w ∧ w ≠ x ∧ R x w) → U.length ≤ 3) := fun u v hu hv nuv hR => by
      have F := con u v hu hv nuv hR
      have symM : ∀ x y, Mg R u v x y → Mg R u v y x := fun x y h => by
        rcases h with h | ⟨e, h⟩ | ⟨e, h⟩
        · exact .inl (sym _ _ h)
        · exact .inr (.inr ⟨e, sym _ _ h⟩)
        · exact .inr (.inl ⟨e, sym _ _ h⟩)
      obtain ⟨x, y, hx, hy, nxy, nR, fx, fy⟩ := F.two symM ⟨(L.filter fun x => !decide (x = v)).take 4, (nd.sublist List.filter_sublist).sublist (List.take_sublist _ _), by
        have : L.length ≤ (L.filter fun x => !decide (x = v)).length + 1 := len_wo nd
        rw [List.length_take]; omega, fun z hz => by
        have := List.mem_filter.mp (List.mem_of_mem_take hz)
        exact ⟨(mem z).mp this.1, by simpa using this.2⟩⟩
      have notu : ∀ p q, Wo V v p → Wo V v q → p ≠ q → ¬ Mg R u v p q → Few (Wo V v) (Mg R u v) q → p ≠ u := fun p q hp hq npq nM fq e => by
        subst e
        refine nofew q hq.1 fun U ndU hU => fq U ndU fun w hw => ?_
        obtain ⟨w1, w2, w3⟩ := hU w hw
        exact ⟨⟨w1, fun z => nM (.inr (.inl ⟨rfl, sym _ _ (z ▸ w3)⟩))⟩, w2, .inl w3⟩
      have xu := notu x y hx hy nxy nR fy
      have yu := notu y x hy hx (Ne.symm nxy) (fun h => nR (symM _ _ h)) fx
      have both : ∀ p, Wo V v p → p ≠ u → Few (Wo V v) (Mg R u v) p → R p u ∧ R p v ∧ ∀ U : List α, U.Nodup → (∀ w ∈ U, V w ∧ w ≠ p ∧ R p w) → U.length ≤ 3 := fun p hp pu fp => by
        obtain ⟨U, ndU, lU, hU⟩ := three p hp.1
        have hv : v ∈ U := Classical.byContradiction fun c => by
          have := fp U ndU fun w hw => ⟨⟨(hU w hw).1, fun z => c (z ▸ hw)⟩, (hU w hw).2.1, .inl (hU w hw).2.2⟩
          omega
        have hRv := (hU v hv).2.2
        have hu' : u ∈ U := Classical.byContradiction fun c => by
          have := fp (U.map fun w => if w = v then u else w) (nd_map ndU fun a b ha hb e => by
            split at e <;> split at e
            · rename_i c1 c2; rw [c1, c2]
            · exact absurd (e ▸ hb) c
            · exact absurd (e ▸ ha) c
            · exact e) fun w hw => by
            obtain ⟨z, hz, rfl⟩ := List.mem_map.mp hw
            split
            · exact ⟨⟨hu, nuv⟩, Ne.symm pu, .inr (.inr ⟨rfl, hRv⟩)⟩
            · rename_i zc
              exact ⟨⟨(hU z hz).1, zc⟩, (hU z hz).2.1, .inl (hU z hz).2.2⟩
          rw [List.length_map] at this
          omega
        refine ⟨(hU u hu').2.2, hRv, fun W ndW hW => ?_⟩
        have := fp (W.filter fun w => !decide (w = v)) (ndW.sublist List.filter_sublist) fun w hw => by
          rw [List.mem_filter] at hw
          exact ⟨⟨(hW w hw.1).1, by simpa using hw.2⟩, (hW w hw.1).2.1, .inl (hW w hw.1).2.2⟩
        have l2 : W.length ≤ (W.filter fun x => !decide (x = v)).length + 1 := len_wo ndW
        omega
      obtain ⟨a1, a2, a3⟩ := both x hx xu fx
      obtain ⟨b1, b2, b3⟩ := both y hy yu fy
      exact ⟨x, y, hx.1, hy.1, nxy, xu, hx.2, yu, hy.2, fun h => nR (.inl h), a1, a2, b1, b2, a3⟩
    obtain ⟨v0, hv0⟩ : ∃ v, V v := by
      match L, l5 with
      | a :: _, _ => exact ⟨a, (mem a).mp List.mem_cons_self⟩
    obtain ⟨U0, nd0, l0, hU0⟩ := three v0 hv0
    obtain ⟨u0, hu0⟩ : ∃ u, u ∈ U0 := by
      match U0, l0 with
      | a :: _, _ => exact ⟨a, List.mem_cons_self⟩
    obtain ⟨u01, u02, u03⟩ := hU0 u0 hu0
    obtain ⟨x, y, hx, hy, nxy, xu, xv, yu, yv, nR, Rxu, Rxv, Ryu, Ryv, D⟩ := T u0 v0 u01 hv0 u02 (sym _ _ u03)
    obtain ⟨U, ndU, lU, hU⟩ := three x hx
    obtain ⟨z, hz, zu, zv⟩ : ∃ z ∈ U, z ≠ u0 ∧ z ≠ v0 := by
      refine Classical.byContradiction fun no => ?_
      have sub : ∀ w ∈ U, w ∈ [u0, v0] := fun w hw => Classical.byContradiction fun c => no ⟨w, hw, fun e => c (by rw [e]; exact List.mem_cons_self), fun e => c (by rw [e]; simp)⟩
      have := pigN ndU sub
      rw [lU] at this
      exact absurd this (by simp)
    obtain ⟨hz1, hz2, hz3⟩ := hU z hz
    have only : ∀ w, V w → w ≠ x → R x w → w = u0 ∨ w = v0 ∨ w = z := fun w w1 w2 w3 => by
      refine Classical.byContradiction fun c => ?_
      have c1 : w ≠ u0 := fun e => c (.inl e)
      have c2 : w ≠ v0 := fun e => c (.inr (.inl e))
      have c3 : w ≠ z := fun e => c (.inr (.inr e))
      have := D [w, z, u0, v0] (by simp [c1, c2, c3, zu, zv, u02]) fun q hq => by
        rcases List.mem_cons.mp hq with rfl | hq
        · exact ⟨w1, w2, w3⟩
        rcases List.mem_cons.mp hq with rfl | hq
        · exact ⟨hz1, hz2, hz3⟩
        rcases List.mem_cons.mp hq with rfl | hq
        · exact ⟨u01, Ne.symm xu, Rxu⟩
        · rw [List.mem_singleton.mp hq]; exact ⟨hv0, Ne.symm xv, Rxv⟩
      exact absurd this (by simp)
    obtain ⟨p, q, hp, hq, npq, px, pu, qx, qu, nRpq, Rpx, Rpu, Rqx, Rqu, _⟩ := T x u0 hx u01 xu Rxu
    have Rzu : R z u0 := by
      rcases only p hp px (sym _ _ Rpx) with e | e | e
      · exact absurd e pu
      · rcases only q hq qx (sym _ _ Rqx) with f | f | f
        · exact absurd f qu
        · exact absurd (e.trans f.symm) npq
        · exact f ▸ Rqu
      · exact e ▸ Rpu
    obtain ⟨p, q, hp, hq, npq, px, pu, qx, qu, nRpq, Rpx, Rpu, Rqx, Rqu, _⟩ := T x v0 hx hv0 xv Rxv
    rcases only p hp px (sym _ _ Rpx) with e | e | e
    · rcases only q hq qx (sym _ _ Rqx) with f | f | f
      · exact npq (e.trans f.symm)
      · exact qu f
      · rw [e, f] at nRpq; exact nRpq (sym _ _ Rzu)
    · exact pu e
    · rcases only q hq qx (sym _ _ Rqx) with f | f | f
      · rw [e, f] at nRpq; exact nRpq Rzu
      · exact qu f
      · exact npq (e.trans f.symm)
  have pos : ∃ v, V v := Classical.byContradiction fun no => hF (.nil fun x hx => no ⟨x, hx⟩)
  have l4 : 4 ≤ L.length := by
    obtain ⟨v, hv⟩ := pos
    obtain ⟨U, ndU, lU, hU⟩ := three v hv
    have := pigN (l := v :: U) (U := L) (List.nodup_cons.mpr ⟨fun z => (hU v z).2.1 rfl, ndU⟩) fun w hw => by
      rcases List.mem_cons.mp hw with rfl | hw
      · exact (mem _).mpr hv
      · exact (mem _).mpr (hU w hw).1
    rw [List.length_cons] at this
    omega
  refine ⟨by omega, fun x hx y hy nxy => Classical.byContradiction fun c => ?_⟩
  obtain ⟨U, ndU, lU, hU⟩ := three x ((mem x).mp hx)
  have := pigN (l := x :: y :: U) (U := L) (List.nodup_cons.mpr ⟨fun z => ?_, List.nodup_cons.mpr ⟨fun z => c (hU y z).2.2, ndU⟩⟩) fun w hw => by
    rcases List.mem_cons.mp hw with rfl | hw
    · exact hx
    rcases List.mem_cons.mp hw with rfl | hw
    · exact hy
    · exact (mem _).mpr (hU w hw).1
  · rw [List.length_cons, List.length_cons] at this
    omega
  · rcases List.mem_cons.mp z with z | z
    · exact nxy z
    · exact (hU x z).2.1 rfl
end

theorem upF_asc (p : Int → Bool) : (upF p).Pairwise (· < ·) := by
  unfold upF
  refine List.Pairwise.filter _ ?_
  rw [List.pairwise_map]
  exact List.pairwise_lt_range.imp fun h => by omega

/-- folding, as it is found and as it is -/
theorem run_symm {n : Nat} {ts : List (Int × Int)} : ∀ (k : Nat) (S : List Nat), S.length = k → ∀ x y, runR n ts S x y = true → runR n ts S y x = true
  | 0, S, hl, x, y, h => by
    rw [List.eq_nil_of_length_eq_zero hl] at h ⊢
    have h' : tiedR n ts x y = true := h
    show tiedR n ts y x = true
    unfold tiedR at h' ⊢
    rw [Bool.and_eq_true, decide_eq_true_iff, Bool.or_eq_true, Bool.or_eq_true, decide_eq_true_iff, decide_eq_true_iff, decide_eq_true_iff] at h' ⊢
    obtain ⟨⟨a, b⟩, h⟩ := h'
    refine ⟨⟨b, a⟩, ?_⟩
    rcases h with (h | h) | h
    · exact .inl (.inl h.symm)
    · exact .inr h
    · exact .inl (.inr h)
  | k + 1, S, hl, x, y, h => by
    have hne : S ≠ [] := fun z => by rw [z] at hl; cases hl
    obtain ⟨S', w, rfl⟩ : ∃ S' w, S = S' ++ [w] := ⟨S.dropLast, S.getLast hne, (List.dropLast_concat_getLast hne).symm⟩
    have ih := run_symm (n := n) (ts := ts) k S' (by rw [List.length_append] at hl; exact Nat.succ.inj hl)
    rw [runR_snoc] at h ⊢
    generalize runR n ts S' = R at ih h ⊢
    have sy : ∀ a b, R a b = R b a := fun a b => by
      rw [Bool.eq_iff_iff]
      exact ⟨ih a b, ih b a⟩
    unfold takeR at h ⊢
    by_cases xw : x = w
    · rw [if_pos xw] at h; cases h
    by_cases yw : y = w
    · rw [if_neg xw, yw] at h
      by_cases c : R x w = true
      · rw [if_pos c] at h; simp at h
      · rw [if_neg c] at h; exact absurd h c
    rw [if_neg xw] at h
    rw [if_neg yw]
    rw [sy y w, sy y x, sy w x]
    by_cases c : R x w = true
    · rw [if_pos c, Bool.and_eq_true, Bool.or_eq_true] at h
      by_cases d : R w y = true
      · rw [if_pos d, Bool.and_eq_true, Bool.or_eq_true]
        exact ⟨.inr c, by simpa using xw⟩
      · rw [if_neg d]
        rcases h.1 with h | h
        · exact h
        · exact absurd h d
    · rw [if_neg c] at h
      by_cases d : R w y = true
      · rw [if_pos d, Bool.and_eq_true, Bool.or_eq_true]
        exact ⟨.inl h, by simpa using xw⟩
      · rw [if_neg d]; exact h
def RnP (n : Nat) (ts : List (Int × Int)) (S : List Nat) : Nat → Nat → Prop := fun x y => runR n ts S x y = true
def LeftP (n : Nat) (S : List Nat) : Nat → Prop := fun x => x < n ∧ x ∉ S
theorem few_later {n : Nat} {ts : List (Int × Int)} {S : List Nat} {v : Nat} (l : (laterF n (runR n ts S) v).length ≤ 2) : Few (LeftP n S) (RnP n ts S) v := fun U nd hU => by
  refine Nat.le_trans (pigN nd fun u hu => ?_) l
  obtain ⟨⟨u1, _⟩, u2, u3⟩ := hU u hu
  unfold laterF
  refine List.mem_filter.mpr ⟨List.mem_range.mpr u1, ?_⟩
  rw [Bool.and_eq_true]
  exact ⟨u3, by simpa using u2⟩
theorem later_few {n : Nat} {ts : List (Int × Int)} {S : List Nat} {v : Nat} (few : Few (LeftP n S) (RnP n ts S) v) : (laterF n (runR n ts S) v).length ≤ 2 := by
  refine few _ (List.nodup_range.sublist List.filter_sublist) fun u hu => ?_
  unfold laterF at hu
  rw [List.mem_filter, List.mem_range, Bool.and_eq_true] at hu
  obtain ⟨un, hr, hv⟩ := hu
  refine ⟨⟨un, fun z => ?_⟩, by simpa using hv, hr⟩
  have := run_symm S.length S rfl v u hr
  rw [run_dead S.length S rfl u z] at this
  cases this
theorem fo_snoc {n : Nat} {ts : List (Int × Int)} {S : List Nat} {v : Nat} (vn : v < n) (vS : v ∉ S) (l : (laterF n (runR n ts S) v).length ≤ 2) : Fo (LeftP n S) (RnP n ts S) ↔ Fo (LeftP n (S ++ [v])) (RnP n ts (S ++ [v])) := by
  have few := few_later l
  have e1 : ∀ x y, x ≠ v → y ≠ v → (RnP n ts (S ++ [v]) x y ↔ El (RnP n ts S) v x y) := fun x y xv yv => by
    unfold RnP El
    rw [runR_snoc]
    unfold takeR
    rw [if_neg xv]
    by_cases c : runR n ts S x v = true
    · rw [if_pos c, Bool.and_eq_true, Bool.or_eq_true]
      constructor
      · rintro ⟨h | h, _⟩
        · exact .inl h
        · exact .inr ⟨c, h⟩
      · rintro (h | ⟨_, h⟩)
        · exact ⟨.inl h, by simpa using yv⟩
        · exact ⟨.inr h, by simpa using yv⟩
    · rw [if_neg c]
      exact ⟨fun h => .inl h, fun h => h.resolve_right fun z => c z.1⟩
  have e2 : ∀ x, LeftP n (S ++ [v]) x ↔ Wo (LeftP n S) v x := fun x => by
    unfold LeftP Wo
    rw [List.mem_append, List.mem_singleton]
    constructor
    · rintro ⟨a, b⟩
      exact ⟨⟨a, fun z => b (.inl z)⟩, fun z => b (.inr z)⟩
    · rintro ⟨⟨a, b⟩, c⟩
      exact ⟨a, fun z => z.elim b c⟩
  constructor
  · intro h
    refine (h.out (fun x y => run_symm S.length S rfl x y) ⟨vn, vS⟩ few).sub (fun x hx => (e2 x).mp hx) fun x y hx hy _ r => ?_
    exact (e1 x y ((e2 x).mp hx).2 ((e2 y).mp hy).2).mp r
  · intro h
    refine .step v ⟨vn, vS⟩ few (h.sub (fun x hx => (e2 x).mpr hx) fun x y hx hy _ r => ?_)
    exact (e1 x y hx.2 hy.2).mpr r
theorem fo_run {n : Nat} {ts : List (Int × Int)} {S : List Nat} (R : FoldRun n ts S) : ∀ j, j ≤ S.length → (Fo (LeftP n []) (RnP n ts []) ↔ Fo (LeftP n (S.take j)) (RnP n ts (S.take j)))
  | 0, _ => Iff.rfl
  | j + 1, jl => by
    have hv : S[j]? = some (S[j]'(by omega)) := List.getElem?_eq_getElem (by omega)
    have et : S.take (j + 1) = S.take j ++ [S[j]'(by omega)] := by rw [List.take_succ, hv]; rfl
    have nd := R.nd
    have ns : S[j]'(by omega) ∉ S.take j := fun z => by
      have h2 : (S.take (j + 1)).Nodup := nd.sublist (List.take_sublist _ _)
      rw [et] at h2
      exact (List.nodup_append.mp h2).2.2 _ z _ List.mem_cons_self rfl
    have few := R.few j (by omega)
    unfold lateF at few
    rw [List.getD_eq_getElem?_getD, hv] at few
    rw [fo_run R j (by omega), et]
    exact fo_snoc (R.lt _ (List.getElem_mem _)) ns few
theorem fo_left {n : Nat} {ts : List (Int × Int)} {S : List Nat} (R : FoldRun n ts S) (st : ∀ v < n, v ∉ S → 3 ≤ (laterF n (runR n ts S) v).length) : leftF n S = [] ↔ Fo (LeftP n []) (RnP n ts []) := by
  rw [fo_run R S.length (Nat.le_refl _), List.take_length]
  constructor
  · intro h
    refine .nil fun x hx => ?_
    have : x ∈ leftF n S := by
      unfold leftF
      exact List.mem_filter.mpr ⟨List.mem_range.mpr hx.1, by simpa using hx.2⟩
    rw [h] at this
    exact absurd this List.not_mem_nil
  · intro h
    refine List.eq_nil_iff_forall_not_mem.mpr fun x hx => ?_
    unfold leftF at hx
    rw [List.mem_filter, List.mem_range] at hx
    have hx' : LeftP n S x := ⟨hx.1, by simpa using hx.2⟩
    obtain ⟨v, hv, few⟩ := h.some_few hx'
    have := later_few few
    have := st v hv.1 hv.2
    omega
/-- a tie, either way -/
def Adj (ts : List (Int × Int)) (a b : Int) : Prop := (a, b) ∈ ts ∨ (b, a) ∈ ts
theorem Adj.symm {ts : List (Int × Int)} {a b : Int} (h : Adj ts a b) : Adj ts b a := Or.symm h
def TR (ts : List (Int × Int)) (p q : List Int) : Prop := ∃ a ∈ p, ∃ b ∈ q, a = b ∨ Adj ts a b
theorem TR.symm {ts : List (Int × Int)} {p q : List Int} (h : TR ts p q) : TR ts q p := by
  obtain ⟨a, ha, b, hb, h⟩ := h
  exact ⟨b, hb, a, ha, h.elim (fun e => .inl e.symm) fun e => .inr e.symm⟩
theorem TR.mono {ts : List (Int × Int)} {p q p' q' : List Int} (h : TR ts p q) (hp : ∀ v ∈ p, v ∈ p') (hq : ∀ v ∈ q, v ∈ q') : TR ts p' q' := by
  obtain ⟨a, ha, b, hb, h⟩ := h
  exact ⟨a, hp a ha, b, hq b hb, h⟩
def Jn (ts : List (Int × Int)) (p : List Int) : Prop := ∀ A : Int → Prop, (∃ a ∈ p, A a) → (∀ a b, a ∈ p → b ∈ p → Adj ts a b → A a → A b) → ∀ b ∈ p, A b
theorem Jn.one {ts : List (Int × Int)} (v : Int) : Jn ts [v] := fun A h _ b hb => by
  obtain ⟨a, ha, h⟩ := h
  rw [List.mem_singleton.mp hb, ← List.mem_singleton.mp ha]
  exact h
theorem Jn.both {ts : List (Int × Int)} {p q j : List Int} (hp : Jn ts p) (hq : Jn ts q) (t : TR ts p q) (m : ∀ v, v ∈ j ↔ v ∈ p ∨ v ∈ q) : Jn ts j := fun A h cl b hb => by
  have cp : ∀ a b, a ∈ p → b ∈ p → Adj ts a b → A a → A b := fun a b ha hb => cl a b ((m a).mpr (.inl ha)) ((m b).mpr (.inl hb))
  have cq : ∀ a b, a ∈ q → b ∈ q → Adj ts a b → A a → A b := fun a b ha hb => cl a b ((m a).mpr (.inr ha)) ((m b).mpr (.inr hb))
  obtain ⟨x, hx, y, hy, e⟩ := t
  have xy : A x ↔ A y := by
    rcases e with e | e
    · rw [e]
    · exact ⟨cl x y ((m x).mpr (.inl hx)) ((m y).mpr (.inr hy)) e, cl y x ((m y).mpr (.inr hy)) ((m x).mpr (.inl hx)) e.symm⟩
  have all : (∀ b ∈ p, A b) ∧ ∀ b ∈ q, A b := by
    obtain ⟨a, ha, hA⟩ := h
    rcases (m a).mp ha with ha | ha
    · have h1 := hp A ⟨a, ha, hA⟩ cp
      exact ⟨h1, hq A ⟨y, hy, xy.mp (h1 x hx)⟩ cq⟩
    · have h1 := hq A ⟨a, ha, hA⟩ cq
      exact ⟨hp A ⟨x, hx, xy.mpr (h1 y hy)⟩ cp, h1⟩
  rcases (m b).mp hb with hb | hb
  · exact all.1 b hb
  · exact all.2 b hb
abbrev Ones (V : List Int → Prop) (p q j : List Int) : List Int → Prop := fun r => (V r ∧ r ≠ p ∧ r ≠ q) ∨ r = j
theorem Fo.join {ts : List (Int × Int)} {V : List Int → Prop} (h : Fo V (TR ts)) {p q j : List Int} (hp : V p) (hq : V q) (ne : p ≠ q) (t : TR ts p q) (m : ∀ v ∈ j, v ∈ p ∨ v ∈ q) : Fo (Ones V p q j) (TR ts) := by
  have sp : ∀ {r}, TR ts j r → TR ts p r ∨ TR ts q r := fun {r} ⟨a, ha, b, hb, e⟩ => (m a ha).elim (fun z => .inl ⟨a, z, b, hb, e⟩) fun z => .inr ⟨a, z, b, hb, e⟩
  refine (h.merge (a := p) (b := q) (fun _ _ z => z.symm) hp hq ne t).map (fun r => if r = j then p else r) (fun x hx => ?_) (fun x y hx hy e => ?_) fun x y hx hy nxy e => ?_
  · by_cases c : x = j
    · rw [if_pos c]; exact ⟨hp, ne⟩
    · rw [if_neg c]
      have := hx.resolve_right c
      exact ⟨this.1, this.2.2⟩
  · by_cases c : x = j
    · by_cases d : y = j
      · rw [c, d]
      · rw [if_pos c, if_neg d] at e
        exact absurd e.symm (hy.resolve_right d).2.1
    · by_cases d : y = j
      · rw [if_neg c, if_pos d] at e
        exact absurd e (hx.resolve_right c).2.1
      · rwa [if_neg c, if_neg d] at e
  · by_cases c : x = j
    · have d : y ≠ j := fun d => nxy (c.trans d.symm)
      rw [if_pos c, if_neg d]
      rw [c] at e
      rcases sp e with e | e
      · exact .inl e
      · exact .inr (.inl ⟨rfl, e⟩)
    · rw [if_neg c]
      by_cases d : y = j
      · rw [if_pos d]
        rw [d] at e
        rcases sp e.symm with e | e
        · exact .inl e.symm
        · exact .inr (.inr ⟨rfl, e.symm⟩)
      · rw [if_neg d]
        exact .inl e
theorem Fo.apart {ts : List (Int × Int)} {V : List Int → Prop} {p q j : List Int} (h : Fo (Ones V p q j) (TR ts)) (m : ∀ v, v ∈ p ∨ v ∈ q → v ∈ j) (nj : ∀ s, V s → s ≠ p → s ≠ q → s ≠ j) : Fo (Wo V q) (Mg (TR ts) p q) := by
  refine h.map (fun r => if r = p then j else r) (fun x hx => ?_) (fun x y hx hy e => ?_) fun x y hx hy nxy e => ?_
  · by_cases c : x = p
    · rw [if_pos c]; exact .inr rfl
    · rw [if_neg c]; exact .inl ⟨hx.1, c, hx.2⟩
  · by_cases c : x = p
    · by_cases d : y = p
      · rw [c, d]
      · rw [if_pos c, if_neg d] at e
        exact absurd e.symm (nj y hy.1 d hy.2)
    · by_cases d : y = p
      · rw [if_neg c, if_pos d] at e
        exact absurd e (nj x hx.1 c hx.2)
      · rwa [if_neg c, if_neg d] at e
  · by_cases c : x = p
    · have d : y ≠ p := fun d => nxy (c.trans d.symm)
      rw [if_pos c, if_neg d]
      rcases e with e | ⟨_, e⟩ | ⟨e, _⟩
      · rw [c] at e
        exact e.mono (fun v hv => m v (.inl hv)) fun v hv => hv
      · exact e.mono (fun v hv => m v (.inr hv)) fun v hv => hv
      · exact absurd e d
    · rw [if_neg c]
      by_cases d : y = p
      · rw [if_pos d]
        rcases e with e | ⟨e, _⟩ | ⟨_, e⟩
        · rw [d] at e
          exact e.mono (fun v hv => hv) fun v hv => m v (.inl hv)
        · exact absurd e c
        · exact e.mono (fun v hv => hv) fun v hv => m v (.inr hv)
      · rw [if_neg d]
        rcases e with e | ⟨e, _⟩ | ⟨e, _⟩
        · exact e
        · exact absurd e c
        · exact absurd e d
/-- parts of a graph -/
structure Prt (n : Nat) (ts : List (Int × Int)) (P : List (List Int)) : Prop where
  ne : ∀ p ∈ P, p ≠ []
  asc : ∀ p ∈ P, p.Pairwise (· < ·)
  lt : ∀ p ∈ P, ∀ v ∈ p, 0 ≤ v ∧ v < (n : Int)
  dj : P.Pairwise fun p q => ∀ v ∈ p, v ∉ q
  jn : ∀ p ∈ P, Jn ts p
section
variable {n : Nat} {ts : List (Int × Int)} {P : List (List Int)}
theorem Prt.nd (G : Prt n ts P) : P.Nodup := by
  have ne := G.ne
  have dj := G.dj
  clear G
  induction P with
  | nil => exact .nil
  | cons p r ih =>
    obtain ⟨d1, d2⟩ := List.pairwise_cons.mp dj
    refine List.nodup_cons.mpr ⟨fun z => ?_, ih (fun q hq => ne q (List.mem_cons_of_mem _ hq)) d2⟩
    obtain ⟨v, hv⟩ := List.exists_mem_of_ne_nil p (ne p List.mem_cons_self)
    exact d1 p z v hv hv
theorem Prt.same (G : Prt n ts P) {p q : List Int} {v : Int} (hp : p ∈ P) (hq : q ∈ P) (h1 : v ∈ p) (h2 : v ∈ q) : p = q := by
  have dj := G.dj
  clear G
  induction P with
  | nil => exact absurd hp List.not_mem_nil
  | cons r P ih =>
    obtain ⟨d1, d2⟩ := List.pairwise_cons.mp dj
    rcases List.mem_cons.mp hp with e | hp
    · rcases List.mem_cons.mp hq with f | hq
      · rw [e, f]
      · exact absurd h2 (d1 q hq v (e ▸ h1))
    · rcases List.mem_cons.mp hq with f | hq
      · exact absurd h1 (d1 p hp v (f ▸ h2))
      · exact ih hp hq d2
theorem Prt.sub (G : Prt n ts P) {P' : List (List Int)} (s : P'.Sublist P) : Prt n ts P' := ⟨fun p hp => G.ne p (s.subset hp), fun p hp => G.asc p (s.subset hp), fun p hp => G.lt p (s.subset hp), G.dj.sublist s, fun p hp => G.jn p (s.subset hp)⟩
def lessLL (P : List (List Int)) (D : List (List Int)) : List (List Int) := P.filter fun p => !decide (p ∈ D)
theorem mem_lessLL {D : List (List Int)} {p : List Int} : p ∈ lessLL P D ↔ p ∈ P ∧ p ∉ D := by
  unfold lessLL
  rw [List.mem_filter]
  simp
theorem mem_jointF (n10 : n ≤ 10) {p q : List Int} (hp : ∀ v ∈ p, 0 ≤ v ∧ v < (n : Int)) (hq : ∀ v ∈ q, 0 ≤ v ∧ v < (n : Int)) {v : Int} : v ∈ jointF p q ↔ v ∈ p ∨ v ∈ q := by
  unfold jointF
  rw [mem_upF, decide_eq_true_iff]
  refine ⟨fun h => h.2.2, fun h => ?_⟩
  have : 0 ≤ v ∧ v < (n : Int) := h.elim (hp v) (hq v)
  exact ⟨this.1, by omega, h⟩
theorem jointF_comm (p q : List Int) : jointF p q = jointF q p := by
  unfold jointF
  congr 1
  funext v
  rw [Bool.eq_iff_iff, decide_eq_true_iff, decide_eq_true_iff]
  exact Or.comm
abbrev FoP (ts : List (Int × Int)) (P : List (List Int)) : Prop := Fo (fun p => p ∈ P) (TR ts)
def I1 (ts : List (Int × Int)) (P : List (List Int)) (v : Int) : Prop := (∃ p ∈ P, v ∈ p) → Fo (fun p => p ∈ P ∧ v ∉ p) (TR ts)
def I2 (ts : List (Int × Int)) (P : List (List Int)) (a b : Int) : Prop := ∀ p q, p ∈ P → q ∈ P → a ∈ p → b ∈ q → p ≠ q → Fo (Ones (fun r => r ∈ P) p q (jointF p q)) (TR ts)
/-- a place dropped -/
theorem I1.sub {v : Int} (h : I1 ts P v) {P' : List (List Int)} (s : ∀ p ∈ P', p ∈ P) : I1 ts P' v := fun ⟨p, hp, hv⟩ => (h ⟨p, s p hp, hv⟩).sub (fun x hx => ⟨s x hx.1, hx.2⟩) fun _ _ _ _ _ e => e
abbrev oneP (P : List (List Int)) (p q : List Int) : List (List Int) := lessLL P [p, q] ++ [jointF p q]
theorem mem_oneP {p q r : List Int} : r ∈ oneP P p q ↔ Ones (fun r => r ∈ P) p q (jointF p q) r := by
  unfold Ones
  rw [List.mem_append, mem_lessLL, List.mem_singleton]
  simp [not_or]
theorem one_step (G : Prt n ts P) (n10 : n ≤ 10) {p q : List Int} (hp : p ∈ P) (hq : q ∈ P) (ne : p ≠ q) (t : TR ts p q) : Prt n ts (oneP P p q) ∧ (∀ v, I1 ts P v → I1 ts (oneP P p q) v) ∧ ∀ a b, I2 ts P a b → I2 ts (oneP P p q) a b := by
  have mj : ∀ {v}, v ∈ jointF p q ↔ v ∈ p ∨ v ∈ q := mem_jointF n10 (G.lt p hp) (G.lt q hq)
  have ltj : ∀ v ∈ jointF p q, 0 ≤ v ∧ v < (n : Int) := fun v hv => (mj.mp hv).elim (G.lt p hp v) (G.lt q hq v)
  have G' : Prt n ts (oneP P p q) := by
    refine ⟨fun r hr => ?_, fun r hr => ?_, fun r hr => ?_, ?_, fun r hr => ?_⟩
    · rcases mem_oneP.mp hr with h | h
      · exact G.ne r h.1
      · obtain ⟨v, hv⟩ := List.exists_mem_of_ne_nil p (G.ne p hp)
        rw [h]
        exact List.ne_nil_of_mem (mj.mpr (.inl hv))
    · rcases mem_oneP.mp hr with h | h
      · exact G.asc r h.1
      · rw [h]; exact upF_asc _
    · rcases mem_oneP.mp hr with h | h
      · exact G.lt r h.1
      · rw [h]; exact ltj
    · refine List.pairwise_append.mpr ⟨G.dj.sublist List.filter_sublist, List.pairwise_singleton _ _, fun r hr s hs v hv hw => ?_⟩
      rw [List.mem_singleton.mp hs] at hw
      have hr' := mem_lessLL.mp hr
      rcases mj.mp hw with z | z
      · exact hr'.2 (by rw [G.same hr'.1 hp hv z]; exact List.mem_cons_self)
      · exact hr'.2 (by rw [G.same hr'.1 hq hv z]; simp)
    · rcases mem_oneP.mp hr with h | h
      · exact G.jn r h.1
      · rw [h]; exact Jn.both (G.jn p hp) (G.jn q hq) t fun v => mj
  refine ⟨G', fun v h ⟨r, hr, hv⟩ => ?_, fun a b h r s hr hs ha hb nrs => ?_⟩
  · by_cases c : v ∈ jointF p q
    · have : ∃ p ∈ P, v ∈ p := (mj.mp c).elim (fun z => ⟨p, hp, z⟩) fun z => ⟨q, hq, z⟩
      refine (h this).sub (fun x hx => ?_) fun _ _ _ _ _ e => e
      rcases mem_oneP.mp hx.1 with z | z
      · exact ⟨z.1, hx.2⟩
      · exact absurd (z ▸ c) hx.2
    · have vp : v ∉ p := fun z => c (mj.mpr (.inl z))
      have vq : v ∉ q := fun z => c (mj.mpr (.inr z))
      have hr' : ∃ p ∈ P, v ∈ p := by
        rcases mem_oneP.mp hr with z | z
        · exact ⟨r, z.1, hv⟩
        · exact absurd (z ▸ hv) c
      refine ((h hr').join ⟨hp, vp⟩ ⟨hq, vq⟩ ne t (j := jointF p q) fun v hv => mj.mp hv).sub (fun x hx => ?_) fun _ _ _ _ _ e => e
      rcases mem_oneP.mp hx.1 with z | z
      · exact .inl ⟨⟨z.1, hx.2⟩, z.2.1, z.2.2⟩
      · exact .inr z
  · -- two others made one besides
    have three : ∀ {x s : List Int}, (x = p ∨ x = q) → s ∈ P → s ≠ p → s ≠ q → Fo (Ones (fun r => r ∈ P) x s (jointF x s)) (TR ts) → Fo (Ones (fun r => r ∈ oneP P p q) (jointF p q) s (jointF (jointF p q) s)) (TR ts) := fun {x s} hx hs sp sq F => by
      obtain ⟨y, hy, hyP, hxP, nxy, txy, mx⟩ : ∃ y, (y = p ∨ y = q) ∧ y ∈ P ∧ x ∈ P ∧ x ≠ y ∧ TR ts x y ∧ ∀ v, v ∈ jointF p q ↔ v ∈ x ∨ v ∈ y := by
        rcases hx with rfl | rfl
        · exact ⟨q, .inr rfl, hq, hp, ne, t, fun v => mj⟩
        · exact ⟨p, .inl rfl, hp, hq, Ne.symm ne, t.symm, fun v => mj.trans Or.comm⟩
      have sy : s ≠ y := by rcases hy with rfl | rfl <;> assumption
      have sx : s ≠ x := by rcases hx with rfl | rfl <;> assumption
      have mxs : ∀ {v}, v ∈ jointF x s ↔ v ∈ x ∨ v ∈ s := mem_jointF n10 (G.lt x hxP) (G.lt s hs)
      have mjs : ∀ {v}, v ∈ jointF (jointF p q) s ↔ v ∈ jointF p q ∨ v ∈ s := mem_jointF n10 ltj (G.lt s hs)
      have nj : jointF x s ≠ y := fun e => by
        obtain ⟨v, hv⟩ := List.exists_mem_of_ne_nil s (G.ne s hs)
        exact sy (G.same hs hyP hv (e ▸ mxs.mpr (.inr hv)))
      refine (F.join (p := jointF x s) (q := y) (j := jointF (jointF p q) s) (.inr rfl) (.inl ⟨hyP, Ne.symm nxy, Ne.symm sy⟩) nj (txy.mono (fun v hv => mxs.mpr (.inl hv)) fun v hv => hv) fun v hv => ?_).sub (fun r hr => ?_) fun _ _ _ _ _ e => e
      · rcases mjs.mp hv with z | z
        · exact ((mx v).mp z).elim (fun z => .inl (mxs.mpr (.inl z))) .inr
        · exact .inl (mxs.mpr (.inr z))
      · rcases hr with ⟨h1, h2, h3⟩ | h
        · rcases mem_oneP.mp h1 with z | z
          · refine .inl ⟨.inl ⟨z.1, ?_, h3⟩, fun e => ?_, ?_⟩
            · rcases hx with rfl | rfl
              · exact z.2.1
              · exact z.2.2
            · obtain ⟨v, hv⟩ := List.exists_mem_of_ne_nil s (G.ne s hs)
              exact h3 (G.same z.1 hs (e ▸ mxs.mpr (.inr hv)) hv)
            · rcases hy with rfl | rfl
              · exact z.2.1
              · exact z.2.2
          · exact absurd z h2
        · exact .inr h
    rcases mem_oneP.mp hr with ⟨r1, r2, r3⟩ | er
    · rcases mem_oneP.mp hs with ⟨s1, s2, s3⟩ | es
      · have F := h r s r1 s1 ha hb nrs
        have nrsj : ∀ {x}, x ∈ P → x ≠ r → x ≠ jointF r s := fun {x} hx xr e => by
          obtain ⟨v, hv⟩ := List.exists_mem_of_ne_nil r (G.ne r r1)
          exact xr (G.same hx r1 (e ▸ (mem_jointF n10 (G.lt r r1) (G.lt s s1)).mpr (.inl hv)) hv)
        refine (F.join (p := p) (q := q) (j := jointF p q) (.inl ⟨hp, Ne.symm r2, Ne.symm s2⟩) (.inl ⟨hq, Ne.symm r3, Ne.symm s3⟩) ne t fun v hv => mj.mp hv).sub (fun x hx => ?_) fun _ _ _ _ _ e => e
        rcases hx with ⟨h1, h2, h3⟩ | h
        · rcases mem_oneP.mp h1 with z | z
          · exact .inl ⟨.inl ⟨z.1, h2, h3⟩, z.2.1, z.2.2⟩
          · exact .inr z
        · refine .inl ⟨.inr h, ?_, ?_⟩
          · rw [h]; exact (nrsj hp (Ne.symm r2)).symm
          · rw [h]; exact (nrsj hq (Ne.symm r3)).symm
      · subst es
        rcases mj.mp hb with z | z
        · have F := three (x := p) (.inl rfl) r1 r2 r3 (by rw [jointF_comm]; exact (h r p r1 hp ha z r2).sub (fun x hx => hx.elim (fun y => .inl ⟨y.1, y.2.2, y.2.1⟩) .inr) fun _ _ _ _ _ e => e)
          exact F.sub (fun x hx => hx.elim (fun y => .inl ⟨y.1, y.2.2, y.2.1⟩) fun y => .inr (by rw [y, jointF_comm])) fun _ _ _ _ _ e => e
        · have F := three (x := q) (.inr rfl) r1 r2 r3 (by rw [jointF_comm]; exact (h r q r1 hq ha z r3).sub (fun x hx => hx.elim (fun y => .inl ⟨y.1, y.2.2, y.2.1⟩) .inr) fun _ _ _ _ _ e => e)
          exact F.sub (fun x hx => hx.elim (fun y => .inl ⟨y.1, y.2.2, y.2.1⟩) fun y => .inr (by rw [y, jointF_comm])) fun _ _ _ _ _ e => e
    · subst er
      rcases mem_oneP.mp hs with ⟨s1, s2, s3⟩ | es
      · rcases mj.mp ha with z | z
        · exact three (x := p) (.inl rfl) s1 s2 s3 (h p s hp s1 z hb (Ne.symm s2))
        · exact three (x := q) (.inr rfl) s1 s2 s3 (h q s hq s1 z hb (Ne.symm s3))
      · exact absurd es.symm nrs
/-- what is left at the end -/
theorem four_parts (G : Prt n ts P) (n10 : n ≤ 10) (firm : ¬ FoP ts P) (h1 : ∀ v : Int, 0 ≤ v → v < (n : Int) → I1 ts P v) (h2 : ∀ t ∈ ts, I2 ts P t.1 t.2) : P.length = 4 ∧ ∀ p ∈ P, ∀ q ∈ P, p ≠ q → TR ts p q := by
  refine four_left (V := fun p => p ∈ P) (R := TR ts) (fun _ _ z => z.symm) firm (fun p hp => ?_) (fun p q hp hq ne t => ?_) G.nd fun x => Iff.rfl
  · obtain ⟨v, hv⟩ := List.exists_mem_of_ne_nil p (G.ne p hp)
    have b := G.lt p hp v hv
    exact (h1 v b.1 b.2 ⟨p, hp, hv⟩).sub (fun x hx => ⟨hx.1, fun z => hx.2 (G.same hx.1 hp z hv)⟩) fun _ _ _ _ _ e => e
  · have mj : ∀ {v}, v ∈ jointF p q ↔ v ∈ p ∨ v ∈ q := mem_jointF n10 (G.lt p hp) (G.lt q hq)
    have F : Fo (Ones (fun r => r ∈ P) p q (jointF p q)) (TR ts) := by
      obtain ⟨a, ha, b, hb, e⟩ := t
      rcases e with e | e | e
      · exact absurd (G.same hp hq ha (e ▸ hb)) ne
      · exact h2 _ e p q hp hq ha hb ne
      · have := h2 _ e q p hq hp hb ha (Ne.symm ne)
        exact this.sub (fun x hx => hx.elim (fun y => .inl ⟨y.1, y.2.2, y.2.1⟩) fun y => .inr (by rw [y, jointF_comm])) fun _ _ _ _ _ e => e
    refine F.apart (fun v hv => mj.mpr hv) fun s hs sp sq e => ?_
    obtain ⟨v, hv⟩ := List.exists_mem_of_ne_nil p (G.ne p hp)
    exact sp (G.same hs hp (e ▸ mj.mpr (.inl hv)) hv)
end

end K


namespace K
open PySem L2 Lw Bg
abbrev s_is_firm : Stmt := top 22
theorem sc_is_firm : FnScope ["graph", "parts", "ties", "k"] ["graph", "parts"] (defScope s_is_firm) := ⟨rfl, rfl, rfl, by decide +kernel, rfl, by decide +kernel, by decide +kernel⟩
theorem touch_iff {n : Nat} {ts : List (Int × Int)} (n10 : n ≤ 10) {xs ys : List Int} (hy : ∀ v ∈ ys, 0 ≤ v ∧ v < (n : Int)) : touchF ts xs ys = true ↔ TR ts xs ys := by
  have ne : ∀ {l : List Int}, (!l.isEmpty) = true ↔ ∃ v, v ∈ l := fun {l} => by
    cases l with
    | nil => simp
    | cons a r => exact ⟨fun _ => ⟨a, List.mem_cons_self⟩, fun _ => rfl⟩
  unfold touchF
  rw [Bool.or_eq_true, ne, ne]
  unfold commonF rimF lessF nearF
  constructor
  · rintro (⟨v, hv⟩ | ⟨v, hv⟩)
    · rw [List.mem_filter, decide_eq_true_iff] at hv
      exact ⟨v, hv.1, v, hv.2, .inl rfl⟩
    · rw [List.mem_filter, List.mem_filter, decide_eq_true_iff, mem_upF, List.any_eq_true] at hv
      obtain ⟨⟨⟨_, _, a, ha, h⟩, _⟩, hvy⟩ := hv
      rw [decide_eq_true_iff, tied_mem] at h
      exact ⟨a, ha, v, hvy, .inr (Or.symm h)⟩
  · rintro ⟨a, ha, b, hb, h⟩
    by_cases c : b ∈ xs
    · exact .inl ⟨b, List.mem_filter.mpr ⟨c, decide_eq_true hb⟩⟩
    · rcases h with h | h
      · exact absurd (h ▸ ha) c
      · have bb := hy b hb
        refine .inr ⟨b, List.mem_filter.mpr ⟨List.mem_filter.mpr ⟨mem_upF.mpr ⟨bb.1, by omega, List.any_eq_true.mpr ⟨a, ha, decide_eq_true (tied_mem.mpr (Or.symm h))⟩⟩, by simpa using c⟩, decide_eq_true hb⟩⟩
/-- the ties between parts, by their numbers -/
def qTk (ts : List (Int × Int)) (P : List (List Int)) (k : Nat) : List (Int × Int) := ((List.range k).filter fun j => touchF ts (P.getD j []) (P.getD k [])).map fun j => (((j : Nat) : Int), ((k : Nat) : Int))
def qT (ts : List (Int × Int)) (P : List (List Int)) : Nat → List (Int × Int)
  | 0 => []
  | k + 1 => qT ts P k ++ qTk ts P k
theorem qTk_len (ts : List (Int × Int)) (P : List (List Int)) (k : Nat) : (qTk ts P k).length ≤ k := by
  unfold qTk
  rw [List.length_map]
  refine Nat.le_trans (List.length_filter_le _ _) ?_
  simp
theorem qT_len (ts : List (Int × Int)) (P : List (List Int)) : ∀ k, (qT ts P k).length ≤ k * k
  | 0 => Nat.le_refl _
  | k + 1 => by
    show (qT ts P k ++ qTk ts P k).length ≤ _
    rw [List.length_append]
    have h1 := qT_len ts P k
    have h2 := qTk_len ts P k
    have : (k + 1) * (k + 1) = k * k + k + (k + 1) := by rw [Nat.add_mul, Nat.mul_add, Nat.one_mul, Nat.mul_one]
    omega
theorem mem_qT {ts : List (Int × Int)} {P : List (List Int)} : ∀ {k : Nat} {t : Int × Int}, t ∈ qT ts P k ↔ ∃ i j : Nat, i < j ∧ j < k ∧ t = ((i : Int), (j : Int)) ∧ touchF ts (P.getD i []) (P.getD j []) = true
  | 0, t => ⟨fun h => absurd h List.not_mem_nil, fun ⟨_, j, _, h, _⟩ => absurd h (Nat.not_lt_zero _)⟩
  | k + 1, t => by
    show t ∈ qT ts P k ++ qTk ts P k ↔ _
    rw [List.mem_append, mem_qT]
    constructor
    · rintro (⟨i, j, a, b, c, d⟩ | h)
      · exact ⟨i, j, a, by omega, c, d⟩
      · unfold qTk at h
        obtain ⟨i, hi, rfl⟩ := List.mem_map.mp h
        rw [List.mem_filter, List.mem_range] at hi
        exact ⟨i, k, hi.1, by omega, rfl, hi.2⟩
    · rintro ⟨i, j, a, b, c, d⟩
      by_cases e : j = k
      · subst e
        refine .inr ?_
        unfold qTk
        exact List.mem_map.mpr ⟨i, List.mem_filter.mpr ⟨List.mem_range.mpr a, d⟩, c.symm⟩
      · exact .inl ⟨i, j, a, by omega, c, d⟩
theorem getD_mem {P : List (List Int)} {i : Nat} (h : i < P.length) : P.getD i [] ∈ P := by
  rw [List.getD_eq_getElem?_getD, List.getElem?_eq_getElem h]; exact List.getElem_mem h
theorem nodup_getD : ∀ {P : List (List Int)} {i j : Nat}, P.Nodup → i < P.length → j < P.length → P.getD i [] = P.getD j [] → i = j
  | [], i, _, _, h, _, _ => absurd h (Nat.not_lt_zero _)
  | p :: P, 0, 0, _, _, _, _ => rfl
  | p :: P, 0, j + 1, nd, _, hj, e => by
    have hj' : j < P.length := Nat.lt_of_succ_lt_succ hj
    have e' : p = P.getD j [] := e
    exact absurd (e' ▸ getD_mem hj') (List.nodup_cons.mp nd).1
  | p :: P, i + 1, 0, nd, hi, _, e => by
    have hi' : i < P.length := Nat.lt_of_succ_lt_succ hi
    have e' : P.getD i [] = p := e
    exact absurd (e' ▸ getD_mem hi') (List.nodup_cons.mp nd).1
  | p :: P, i + 1, j + 1, nd, hi, hj, e => by
    have := nodup_getD (List.nodup_cons.mp nd).2 (Nat.lt_of_succ_lt_succ hi) (Nat.lt_of_succ_lt_succ hj) e
    omega
theorem spot_of {P : List (List Int)} {p : List Int} (h : p ∈ P) : ∃ i, i < P.length ∧ P.getD i [] = p := by
  obtain ⟨i, il, e⟩ := List.getElem_of_mem h
  exact ⟨i, il, by rw [List.getD_eq_getElem?_getD, List.getElem?_eq_getElem il, e]; rfl⟩
theorem fo_parts {n : Nat} {ts : List (Int × Int)} {P : List (List Int)} (n10 : n ≤ 10) (G : Prt n ts P) : Fo (LeftP P.length []) (RnP P.length (qT ts P P.length) []) ↔ FoP ts P := by
  have tch : ∀ {i j : Nat}, i < P.length → j < P.length → (touchF ts (P.getD i []) (P.getD j []) = true ↔ TR ts (P.getD i []) (P.getD j [])) := fun {i j} _ hj => touch_iff n10 (G.lt _ (getD_mem hj))
  have rel : ∀ {i j : Nat}, i < P.length → j < P.length → i ≠ j → (RnP P.length (qT ts P P.length) [] i j ↔ TR ts (P.getD i []) (P.getD j [])) := fun {i j} hi hj ne => by
    show tiedR P.length (qT ts P P.length) i j = true ↔ _
    unfold tiedR
    rw [Bool.and_eq_true, decide_eq_true_iff, Bool.or_eq_true, Bool.or_eq_true, decide_eq_true_iff, decide_eq_true_iff, decide_eq_true_iff, mem_qT, mem_qT]
    constructor
    · rintro ⟨_, (h | ⟨a, b, ab, bl, e, t⟩) | ⟨a, b, ab, bl, e, t⟩⟩
      · exact absurd h.symm ne
      · have e1 := congrArg Prod.fst e
        have e2 := congrArg Prod.snd e
        dsimp only at e1 e2
        obtain rfl : i = a := by omega
        obtain rfl : j = b := by omega
        exact (tch hi hj).mp t
      · have e1 := congrArg Prod.fst e
        have e2 := congrArg Prod.snd e
        dsimp only at e1 e2
        obtain rfl : j = a := by omega
        obtain rfl : i = b := by omega
        exact ((tch hj hi).mp t).symm
    · intro t
      refine ⟨⟨hi, hj⟩, ?_⟩
      rcases Nat.lt_or_ge i j with c | c
      · exact .inl (.inr ⟨i, j, c, hj, rfl, (tch hi hj).mpr t⟩)
      · exact .inr ⟨j, i, by omega, hi, rfl, (tch hj hi).mpr t.symm⟩
  constructor
  · intro h
    have sp : ∀ p, ∃ i, p ∈ P → i < P.length ∧ P.getD i [] = p := fun p => by
      by_cases c : p ∈ P
      · obtain ⟨i, a, b⟩ := spot_of c; exact ⟨i, fun _ => ⟨a, b⟩⟩
      · exact ⟨0, fun z => absurd z c⟩
    refine h.map (fun p => (sp p).choose) (fun p hp => ⟨((sp p).choose_spec hp).1, List.not_mem_nil⟩) (fun p q hp hq e => ?_) fun p q hp hq ne t => ?_
    · have h1 := ((sp p).choose_spec hp).2
      have h2 := ((sp q).choose_spec hq).2
      rw [← h1, ← h2]
      exact congrArg (fun i => P.getD i []) e
    · obtain ⟨a1, a2⟩ := (sp p).choose_spec hp
      obtain ⟨b1, b2⟩ := (sp q).choose_spec hq
      refine (rel a1 b1 fun z => ne ?_).mpr (by rw [a2, b2]; exact t)
      rw [← a2, ← b2, z]
  · intro h
    refine h.map (fun i => P.getD i []) (fun i hi => getD_mem hi.1) (fun i j hi hj e => nodup_getD G.nd hi.1 hj.1 e) fun i j hi hj ne t => (rel hi.1 hj.1 ne).mp t
theorem paired_app {α β : Type} {R : α → β → Prop} : ∀ {xs xs' : List α} {ys ys' : List β}, Paired R xs ys → Paired R xs' ys' → Paired R (xs ++ xs') (ys ++ ys')
  | _, _, _, _, .nil, h => h
  | _, _, _, _, .cons a b, h => .cons a (paired_app b h)
theorem bag10 {n : Nat} {b : List Int} (n10 : n ≤ 10) (nd : b.Nodup) (bd : ∀ v ∈ b, 0 ≤ v ∧ v < (n : Int)) : b.length ≤ 10 := by
  have := pigN (U := (List.range 10).map fun i => ((i : Nat) : Int)) nd fun v hv => by
    have := bd v hv
    exact List.mem_map.mpr ⟨v.toNat, List.mem_range.mpr (by omega), by omega⟩
  rwa [List.length_map, List.length_range] at this
def spFirm (K : PySem.W.Frag) : Sp := fun vs H Q _ => ∃ (g : V) (n : Nat) (ts : List (Int × Int)) (a : Addr) (xs : List V) (P : List (List Int)), vs = [g, .ref a] ∧ GraphV K H g n ts ∧ n ≤ 10 ∧ ts.length ≤ 400 ∧ (∀ t ∈ ts, 0 ≤ t.1 ∧ t.1 < 16 ∧ 0 ≤ t.2 ∧ t.2 < 16) ∧ SqL K H a xs ∧ Paired (LstV K H) xs P ∧ Prt n ts P ∧ P.length ≤ 10 ∧
  ∀ H' b, Same H H' → (b = true ↔ ¬ FoP ts P) → Q (.bl b) H'
section
variable {P : Program} {w : World} {K : PySem.W.Frag} {mg : Str → Option Value} {base : Heap}
set_option maxHeartbeats 8000000 in
theorem ok_is_firm (B : Bl mg) (d_is_whole : Dn K mg "is_whole" s_is_whole ["thing"]) (d_is_below : Dn K mg "is_below" s_is_below ["n", "thing"]) (d_common : Dn K mg "common" s_common ["one", "other"]) (d_less : Dn K mg "less" s_less ["one", "other"]) (d_joint : Dn K mg "joint" s_joint ["one", "other"]) (d_around : Dn K mg "around" s_around ["graph", "v"]) (d_rim : Dn K mg "rim" s_rim ["graph", "places"]) (d_touch : Dn K mg "touch" s_touch ["graph", "one", "other"]) (d_places_of : Dn K mg "places_of" s_places_of ["mask"]) (d_mask_sizes : Dn K mg "mask_sizes" s_mask_sizes ["n"]) (d_first_bags : Dn K mg "first_bags" s_first_bags ["graph"]) (d_taken_out : Dn K mg "taken_out" s_taken_out ["bags", "v"]) (d_folds : Dn K mg "folds" s_folds ["graph"]) (d_first_to_fold : Dn K mg "first_to_fold" s_first_to_fold ["bags", "sizes"]) (d_is_firm : Dn K mg "is_firm" s_is_firm ["graph", "parts"]) : FnOk P w K mg base CX0 6 d_is_firm.f d_is_firm.fd ["graph", "parts"] (spFirm K) := by
  have G_touch : FnOk P w K mg base CX0 5 _ _ _ _ := ok_touch B d_is_whole d_is_below d_common d_less d_joint d_around d_rim d_touch
  have G_folds : FnOk P w K mg base CX0 5 _ _ _ _ := (ok_folds B d_less d_places_of d_mask_sizes d_first_bags d_taken_out d_folds d_first_to_fold).mono (by decide)
  refine d_is_firm.F.ok sc_is_firm (fun vs H Q E h => ?_) (fun cdv A outer s H vs Q E hr h => ?_)
  · obtain ⟨g, n, ts, a, xs, P, rfl, _⟩ := h
    rfl
  obtain ⟨g, n, ts, a, xs, P', rfl, hG, n10, l400, t16, hA, pA, G, P10, q⟩ := h
  have lx := Paired.length pA
  refine ⟨_, (pss_cons (ps_set (i := 2) sc_is_firm.nd rfl (Or.inl rfl) (pe_lstN pa_nil))
      (pss_cons (ps_for PassesOwn.never rfl (pi_range1 rfl B.range (pa_cons (pe_callB (call_lenK (K := K) rfl) rfl B.len (by decide +kernel) (pa_cons (pv 1) pa_nil)) pa_nil)) (pg_name (i := 3) sc_is_firm.nd rfl (Or.inr rfl))
      (pss_one (ps_expr (pe_bmK (K := K) rfl PySem.F.plainAttrs_list PySem.F.slot_list_extend PySem.F.type_list_extend mt_extendN (pv 2) (pa_cons (pe_lc ["j", "k", "graph", "parts"] [none, some 3, some 0, some 1]  (by kernel_rfl) rfl (pi_range1 rfl B.range (pa_cons (pv 3) pa_nil)) (fun _ _ _ _ _ => (pg_name (i := 0) (show (["j", "k", "graph", "parts"] : List Str).Nodup by decide +kernel) rfl (Or.inl rfl))) (fun _ _ _ _ _ => (pts_one (pt_truthK (K := K) rfl (pe_call G_touch hr rfl d_touch.m d_touch.F.kp d_touch.b .nil pass0 (pa_cons (pv 2) (pa_cons (pe_ix (ix_listK (K := K) rfl) (pv 3) (pv 0) (fun _ _ => rfl)) (pa_cons (pe_ix (ix_listK (K := K) rfl) (pv 3) (pv 1) (fun _ _ => rfl)) pa_nil)))) (fun _ => rfl)))) (fun _ _ _ _ _ => (pe_tupN (pa_cons (pv 0) (pa_cons (pv 1) pa_nil))))) pa_nil)))))
      (pss_one (ps_ret (pe_callTy (call_boolL (K := K) rfl) rfl B.bool (by decide +kernel) (pa_cons (pe_ix (ix_tupK (K := K) rfl) (pe_call G_folds hr rfl d_folds.m d_folds.F.kp d_folds.b .nil pass0 (pa_cons (pe_tupN (pa_cons (pe_callB (call_lenK (K := K) rfl) rfl B.len (by decide +kernel) (pa_cons (pv 1) pa_nil)) (pa_cons (pv 2) pa_nil))) pa_nil)) pe_int (fun _ _ => rfl)) pa_nil)))))), ?_⟩
  refine ⟨(by show 0 ≤ 1000; decide), fun p1 H1 n1 => ?_⟩
  refine ⟨_, rfl, a, _, rfl, .inl (n1.same.seq hA), _, rfl, by omega, by omega, ?_⟩
  rw [Int.toNat_natCast]
  refine for_range (n := xs.length) (fun k σ H' => (∃ kk : Option V, σ = [some g, some (.ref a), some (.ref p1), kk]) ∧ Same H H' ∧ ∃ ys, H' p1 = some (.lst ys) ∧ Paired (TieL H') ys (qT ts P' k)) ⟨⟨none, rfl⟩, n1.same, [], n1.here, .nil⟩ ?_ ?_
  · rintro k σ H2 hk ⟨⟨kk, rfl⟩, s2, ys, hy, py⟩
    have ek : (0 : Int) + (k : Int) = ((k : Nat) : Int) := by omega
    rw [ek]
    have kl : k < P'.length := by omega
    refine ⟨_, rfl, .inl ⟨rfl, _, SqL.of hy⟩, ?_⟩
    refine ⟨_, rfl, _, rfl, by omega, by omega, ?_⟩
    rw [Int.toNat_natCast]
    have bagA : ∀ {i : Nat} {H' : Hp}, Same H H' → i < P'.length → ∃ b, xs[i]? = some (.ref b) ∧ SqL K H' b ((P'.getD i []).map V.int) := fun {i H'} s' il => by
      obtain ⟨v, hv, b, rfl, hb⟩ := paired_getr pA (List.getElem?_eq_getElem il)
      refine ⟨b, hv, ?_⟩
      rw [List.getD_eq_getElem?_getD, List.getElem?_eq_getElem il]
      exact s'.seq hb
    refine lc_range (fun i zs H' => Same H2 H' ∧ Paired (TieL H') zs (((List.range i).filter fun j => touchF ts (P'.getD j []) (P'.getD k [])).map fun j => (((j : Nat) : Int), ((k : Nat) : Int)))) ⟨Same.refl _, .nil⟩ (fun i zs H' hi ⟨_, p⟩ => ?_) (fun i zs H3 hi ⟨s3, p3⟩ => ?_) (fun zs H3 ⟨s3, p3⟩ p4 hp4 => ?_)
    · have e := Paired.length p
      rw [List.length_map] at e
      have := List.length_filter_le (fun j => touchF ts (P'.getD j []) (P'.getD k [])) (List.range i)
      rw [List.length_range] at this
      exact Nat.le_of_lt (small1000 (by omega))
    · have e0 : (0 : Int) + (i : Int) = ((i : Nat) : Int) := by omega
      rw [e0]
      obtain ⟨bi, hbi, hi'⟩ := bagA (i := i) (s2.trans s3) (by omega)
      obtain ⟨bk, hbk, hk'⟩ := bagA (i := k) (s2.trans s3) kl
      have s03 := s2.trans s3
      refine ⟨_, rfl, _, rfl, _, rfl, a, _, _, _, rfl, rfl, s03.seq hA, atI_nat hbi, _, rfl, _, rfl, a, _, _, _, rfl, rfl, s03.seq hA, atI_nat hbk, g, n, ts, bi, bk, P'.getD i [], P'.getD k [], rfl, hG.same s03, by omega, l400, t16, hi', G.lt _ (getD_mem (by omega)), ?_, hk', fun H4 s4 => ?_⟩
      · have := bag10 n10 ((G.asc _ (getD_mem (show i < P'.length by omega))).imp fun h => by omega) (G.lt _ (getD_mem (show i < P'.length by omega)))
        omega
      · refine ⟨_, rfl, ?_⟩
        rw [List.range_succ, List.filter_append, List.map_append]
        have s34 := s3.trans s4
        cases c : touchF ts (P'.getD i []) (P'.getD k []) with
        | true =>
          refine iteT ⟨_, rfl, _, rfl, (by show 2 ≤ 1000; decide), fun p5 H5 n5 => ⟨s34.trans n5.same, ?_⟩⟩
          rw [List.filter_cons, c]
          exact paired_snoc (Paired.mapP p3 fun _ _ h => TieL.same (s4.trans n5.same) h) ⟨p5, rfl, n5.here⟩
        | false =>
          refine iteF ⟨s34, ?_⟩
          rw [List.filter_cons, c, show ((if (false = true) then i :: List.filter (fun j => touchF ts (P'.getD j []) (P'.getD k [])) [] else List.filter (fun j => touchF ts (P'.getD j []) (P'.getD k [])) [])) = [] from rfl, List.map_nil, List.append_nil]
          exact Paired.mapP p3 fun _ _ h => TieL.same s4 h
    · have n4 : New H3 p4 (.lst zs) (upd H3 p4 (.lst zs)) := New.mk0 hp4
      generalize upd H3 p4 (.lst zs) = H4 at n4 ⊢
      have s24 := s3.trans n4.same
      have ly := Paired.length py
      have lz := Paired.length p3
      have q1 := qT_len ts P' k
      have q2 := qTk_len ts P' k
      have kk10 : k * k ≤ 10 * 10 := Nat.mul_le_mul (by omega) (by omega)
      refine ⟨p1, p4, ys, zs, rfl, rfl, s24 _ _ hy, n4.here, (by have q3 : zs.length ≤ k := by rw [lz]; exact q2
                                                                 omega), fun H5 c5 => ⟨⟨_, rfl⟩, (s2.trans s24).chg n1.fresh c5, ys ++ zs, c5.here, ?_⟩⟩
      show Paired (TieL H5) (ys ++ zs) (qT ts P' k ++ qTk ts P' k)
      exact paired_app (Paired.mapP py fun _ _ h => (TieL.same s24 h).chg (s24 _ _ hy) c5) (Paired.mapP p3 fun _ _ h => (TieL.same n4.same h).chg (s24 _ _ hy) c5)
  · rintro σ H2 ⟨⟨kk, rfl⟩, s2, ys, hy, py⟩
    rw [lx] at py
    dsimp only
    have ly := Paired.length py
    have q1 := qT_len ts P' P'.length
    have mm : P'.length * P'.length ≤ 10 * 10 := Nat.mul_le_mul P10 P10
    refine ⟨_, rfl, a, _, rfl, .inl (s2.seq hA), _, rfl, (by show 2 ≤ 1000; decide), fun p3 H3 n3 => ?_⟩
    rw [lx] at n3
    refine ⟨.ref p3, P'.length, qT ts P' P'.length, rfl, ⟨p3, p1, rfl, SqT.of n3.here, ys, SqL.of (n3.same _ _ hy), Paired.mapP py fun _ _ h => (TieL.same n3.same h).v, by omega⟩, (fun t ht => ?_), P10, fun p pst pl ps qs S H4 s4 hp hst stp hpl FR st _ _ => ?_⟩
    · obtain ⟨i, j, a, b, e, _⟩ := mem_qT.mp ht
      rw [e]
      dsimp only
      omega
    · refine ⟨p, _, _, _, rfl, rfl, SqT.of hp, rfl, pl, _, rfl, SqL.of hpl, ?_⟩
      refine q H4 _ (s2.trans (n3.same.trans s4)) ?_
      rw [← fo_parts n10 G, ← fo_left FR st]
      cases leftF P'.length S with
      | nil => exact ⟨fun h => (by cases h), fun h => absurd rfl h⟩
      | cons x r => exact ⟨fun _ h => (by cases h), fun _ => rfl⟩
end

end K


namespace K
open PySem L2 Lw Bg
theorem or_pure {ta tb : TT} {σ : St} {H : Hp} {b1 b2 : Bool} {Q : Bool → Hp → Prop} (h1 : ∀ Q : Bool → Hp → Prop, Q b1 H → ta σ H Q) (h2 : ∀ Q : Bool → Hp → Prop, Q b2 H → tb σ H Q) (h : Q (b1 || b2) H) : tOr ta tb σ H Q := by
  refine h1 _ ?_
  cases b1 with
  | true => exact iteT h
  | false => exact iteF (h2 _ h)
abbrev s_four : Stmt := top 21
theorem sc_four : FnScope ["graph", "parts", "v", "a", "b"] ["graph"] (defScope s_four) := ⟨rfl, rfl, rfl, by decide +kernel, rfl, by decide +kernel, by decide +kernel⟩
abbrev s_firm_of : Stmt := top 23
theorem sc_firm_of : FnScope ["graph", "fewer", "parts"] ["graph", "fewer", "parts"] (defScope s_firm_of) := ⟨rfl, rfl, rfl, by decide +kernel, rfl, by decide +kernel, by decide +kernel⟩
abbrev s_made_one : Stmt := top 24
theorem sc_made_one : FnScope ["parts", "a", "b", "met"] ["parts", "a", "b"] (defScope s_made_one) := ⟨rfl, rfl, rfl, by decide +kernel, rfl, by decide +kernel, by decide +kernel⟩
def bagD (b : List Int) : PyData := .list (b.map PyData.int)
theorem bag_can (b : List Int) : (bagD b).canLay0 = true := by
  have h := shaped_ints b
  unfold SeqAt.shaped at h
  rw [Bool.and_eq_true] at h
  exact h.1
theorem bag_depth (b : List Int) : (bagD b).depth ≤ 1 := by
  unfold bagD
  rw [PyData.depth]
  have := depth_all (k := 0) (f := PyData.int) (fun b => by simp [PyData.depth]) b
  omega
theorem shaped_bags (bs : List (List Int)) : SeqAt.shaped (.list (bs.map bagD)) = true := by
  unfold SeqAt.shaped
  rw [PyData.canLay0, can_all bag_can, PyData.depth, Bool.true_and]
  exact decide_eq_true (by have := depth_all bag_depth bs; omega)
theorem lst_bagD {K : PySem.W.Frag} {H : Hp} {v : V} {s : List Int} (h : LstV K H v s) : IsD K H v (bagD s) := by
  obtain ⟨p, rfl, h⟩ := h
  exact .lst h (IsDs.ints _)
theorem lsts_bagD {K : PySem.W.Frag} {H : Hp} {xs : List V} {P : List (List Int)} (h : Paired (LstV K H) xs P) : IsDs K H xs (P.map bagD) := by
  induction h with
  | nil => exact .nil
  | cons a _ ih => exact .cons (lst_bagD a) ih
theorem any_bag (D : List (List Int)) (p : List Int) : (D.map bagD).any (fun e => PyData.eqv e (bagD p)) = decide (p ∈ D) := by
  rw [List.any_map, Bool.eq_iff_iff, List.any_eq_true, decide_eq_true_iff]
  have e : ∀ x : List Int, PyData.eqv (bagD x) (bagD p) = decide (x = p) := fun x => eqv_ints x p
  constructor
  · rintro ⟨x, hx, h⟩
    have h' : PyData.eqv (bagD x) (bagD p) = true := h
    rw [e] at h'
    exact of_decide_eq_true h' ▸ hx
  · exact fun h => ⟨p, h, by show PyData.eqv (bagD p) (bagD p) = true; rw [e]; exact decide_eq_true rfl⟩
theorem notInBags {K : PySem.W.Frag} {H : Hp} {b : Addr} {v : V} {ys : List V} {D : List (List Int)} {p : List Int} {Q : VK} (hv : LstV K H v p) (hB : SqL K H b ys) (pB : Paired (LstV K H) ys D) (q : Q (.bl (!decide (p ∈ D))) H) : rInD K true v (.ref b) H Q :=
  ⟨_, _, lst_bagD hv, .lst hB (lsts_bagD pB), shaped_ints p, shaped_bags D, by rw [any_bag]; exact q⟩
def spLessP (K : PySem.W.Frag) : Sp := fun vs H Q _ => ∃ (a b : Addr) (xs ys : List V) (P D : List (List Int)), vs = [.ref a, .ref b] ∧ SqL K H a xs ∧ Paired (LstV K H) xs P ∧ SqL K H b ys ∧ Paired (LstV K H) ys D ∧ P.length ≤ 900 ∧
  ∀ H0 p zs H', Same H H0 → New H0 p (.lst zs) H' → (∀ R : V → List Int → Prop, Paired R xs P → Paired R zs (lessLL P D)) → Q (.ref p) H'
section
variable {P : Program} {w : World} {K : PySem.W.Frag} {mg : Str → Option Value} {base : Heap}
set_option maxHeartbeats 4000000 in
theorem ok_lessP (B : Bl mg) (d_less : Dn K mg "less" s_less ["one", "other"]) : FnOk P w K mg base CX0 1 d_less.f d_less.fd ["one", "other"] (spLessP K) := by
  refine d_less.F.ok sc_less (fun vs H Q E h => ?_) (fun cdv A outer s H vs Q E hr h => ?_)
  · obtain ⟨a, b, xs, ys, P', D, rfl, _⟩ := h
    rfl
  obtain ⟨a, b, xs, ys, P', D, rfl, hA, pA, hB, pB, hz, q⟩ := h
  have hv : (A.deeper (PyProof.Rows.envOfC "less" (defScope s_less) s.heap.objs.size d_less.f cdv)).units + 65 < cLine := by have := hr.un; omega
  have lx := Paired.length pA
  refine ⟨_, (pss_one (ps_ret (pe_lc ["v", "other"] [none, some 1]  (by kernel_rfl) rfl (pi_listK (K := K) rfl (pv 0)) (fun _ _ _ _ _ => (pg_name (i := 0) (show (["v", "other"] : List Str).Nodup by decide +kernel) rfl (Or.inl rfl))) (fun _ _ _ _ _ => (pts_one (pt_cmpR (op_notInDK (K := K) rfl hv) (pv 0) (pv 1) (by with_unfolding_all rfl)))) (fun _ _ _ _ _ => (pv 0))))), ?_⟩
  refine ⟨_, rfl, a, rfl, ⟨_, hA⟩, ?_⟩
  refine lc_list (K := K) (a := a) (xs := xs) (fun i zs H' => H' = H ∧ zs.length ≤ i ∧ ∀ R : V → List Int → Prop, Paired R xs P' → Paired R zs (lessLL (P'.take i) D)) ⟨rfl, Nat.le_refl _, fun _ _ => .nil⟩ (fun i zs H' hi ⟨e, l, _⟩ => ⟨e ▸ hA, Nat.le_of_lt (small1000 (by omega))⟩) (fun i x zs H3 hx ⟨e3, l3, r3⟩ => ?_) (fun zs H3 ⟨e3, l3, r3⟩ p4 hp4 => ?_)
  · subst e3
    obtain ⟨p, hp, hl⟩ := paired_get pA hx
    have et : P'.take (i + 1) = P'.take i ++ [p] := by rw [List.take_succ, hp]; rfl
    refine ⟨_, rfl, _, rfl, notInBags hl hB pB ⟨_, rfl, ?_⟩⟩
    rw [et]
    unfold lessLL
    rw [List.filter_append, List.filter_cons]
    cases c : decide (p ∈ D) with
    | true => exact iteF ⟨rfl, by omega, fun R h => by
        have := r3 R h
        unfold lessLL at this
        rw [show (if (!true) = true then p :: List.filter (fun p => !decide (p ∈ D)) [] else List.filter (fun p => !decide (p ∈ D)) []) = [] from rfl, List.append_nil]
        exact this⟩
    | false => exact iteT ⟨_, rfl, rfl, by rw [List.length_append]; show zs.length + 1 ≤ _; omega, fun R h => by
        have := r3 R h
        obtain ⟨p', hp', hR⟩ := paired_get h hx
        rw [hp] at hp'
        cases hp'
        exact paired_snoc this hR⟩
  · subst e3
    refine q _ _ zs _ (Same.refl _) (New.mk0 hp4) fun R h => ?_
    have := r3 R h
    rwa [lx, List.take_length] at this
end
/-- a part that the call made -/
def PtL (H0 H : Hp) (v : V) (b : List Int) : Prop := ∃ p, v = .ref p ∧ H p = some (.lst (b.map V.int)) ∧ H0 p = none
theorem PtL.same {H0 H H' : Hp} {v : V} {b : List Int} (s : Same H H') (h : PtL H0 H v b) : PtL H0 H' v b := by
  obtain ⟨p, e, q, f⟩ := h
  exact ⟨p, e, s _ _ q, f⟩
theorem PtL.l {K : PySem.W.Frag} {H0 H : Hp} {v : V} {b : List Int} (h : PtL H0 H v b) : LstV K H v b := by
  obtain ⟨p, e, q, f⟩ := h
  exact ⟨p, e, SqL.of q⟩
theorem Prt.len {n : Nat} {ts : List (Int × Int)} {P : List (List Int)} (G : Prt n ts P) (n10 : n ≤ 10) : P.length ≤ 10 := by
  have h : ∀ p ∈ P, p.headD 0 ∈ p := fun p hp => by
    have := G.ne p hp
    cases p with
    | nil => exact absurd rfl this
    | cons a r => exact List.mem_cons_self
  have nd : (P.map fun p => p.headD 0).Nodup := nd_map G.nd fun p q hp hq e => G.same hp hq (h p hp) (by rw [e]; exact h q hq)
  have := bag10 n10 nd fun v hv => by
    obtain ⟨p, hp, rfl⟩ := List.mem_map.mp hv
    exact G.lt p hp _ (h p hp)
  rwa [List.length_map] at this
/-- what made_one tells -/
inductive MdO (P : List (List Int)) (a b : Int) : List (List Int) → Prop
  | no : (∀ p q, p ∈ P → q ∈ P → a ∈ p → b ∈ q → p = q) → MdO P a b P
  | yes {p q : List Int} : p ∈ P → q ∈ P → p ≠ q → ((a ∈ p ∧ b ∈ q) ∨ (b ∈ p ∧ a ∈ q)) → MdO P a b (oneP P p q)
def metP (P : List (List Int)) (a b : Int) : List (List Int) := P.filter fun p => decide (a ∈ p) || decide (b ∈ p)
theorem mem_metP {P : List (List Int)} {a b : Int} {p : List Int} : p ∈ metP P a b ↔ p ∈ P ∧ (a ∈ p ∨ b ∈ p) := by
  unfold metP
  rw [List.mem_filter, Bool.or_eq_true, decide_eq_true_iff, decide_eq_true_iff]
theorem met_two {n : Nat} {ts : List (Int × Int)} {P : List (List Int)} {a b : Int} (G : Prt n ts P) (l : ¬ (metP P a b).length < 2) : ∃ p q, metP P a b = [p, q] ∧ p ∈ P ∧ q ∈ P ∧ p ≠ q ∧ ((a ∈ p ∧ b ∈ q) ∨ (b ∈ p ∧ a ∈ q)) := by
  have nd : (metP P a b).Nodup := G.nd.sublist List.filter_sublist
  have mm : ∀ p ∈ metP P a b, p ∈ P ∧ (a ∈ p ∨ b ∈ p) := fun p hp => mem_metP.mp hp
  match e : metP P a b, l with
  | [], l => exact absurd (by decide) l
  | [_], l => exact absurd (by simp) l
  | p :: q :: r, _ =>
    rw [e] at nd mm
    obtain ⟨n1, n2⟩ := List.nodup_cons.mp nd
    obtain ⟨n3, _⟩ := List.nodup_cons.mp n2
    obtain ⟨hp, ap⟩ := mm p List.mem_cons_self
    obtain ⟨hq, aq⟩ := mm q (by simp)
    have npq : p ≠ q := fun z => n1 (by rw [z]; exact List.mem_cons_self)
    have er : r = [] := by
      cases r with
      | nil => rfl
      | cons s r =>
        obtain ⟨hs, as⟩ := mm s (by simp)
        have nps : p ≠ s := fun z => n1 (by rw [z]; simp)
        have nqs : q ≠ s := fun z => n3 (by rw [z]; simp)
        rcases ap with x | x <;> rcases aq with y | y <;> rcases as with z | z
        · exact absurd (G.same hp hq x y) npq
        · exact absurd (G.same hp hq x y) npq
        · exact absurd (G.same hp hs x z) nps
        · exact absurd (G.same hq hs y z) nqs
        · exact absurd (G.same hq hs y z) nqs
        · exact absurd (G.same hp hs x z) nps
        · exact absurd (G.same hp hq x y) npq
        · exact absurd (G.same hp hq x y) npq
    refine ⟨p, q, by rw [er], hp, hq, npq, ?_⟩
    rcases ap with x | x <;> rcases aq with y | y
    · exact absurd (G.same hp hq x y) npq
    · exact .inl ⟨x, y⟩
    · exact .inr ⟨x, y⟩
    · exact absurd (G.same hp hq x y) npq
def spMadeOne (K : PySem.W.Frag) : Sp := fun vs H Q _ => ∃ (H0 : Hp) (l : Addr) (xs : List V) (P : List (List Int)) (a b : Int) (n : Nat) (ts : List (Int × Int)), vs = [.ref l, .int a, .int b] ∧ Same H0 H ∧ H l = some (.lst xs) ∧ H0 l = none ∧ Paired (PtL H0 H) xs P ∧ Prt n ts P ∧ n ≤ 10 ∧
  ∀ l' xs' P' H', Same H H' → H' l' = some (.lst xs') → H0 l' = none → Paired (PtL H0 H') xs' P' → MdO P a b P' → Q (.ref l') H'
def spFirmOf (K : PySem.W.Frag) : Sp := fun vs H Q _ => ∃ (g : V) (n : Nat) (ts : List (Int × Int)) (f p : Addr) (xs : List V) (P : List (List Int)), vs = [g, .ref f, .ref p] ∧ GraphV K H g n ts ∧ n ≤ 10 ∧ ts.length ≤ 400 ∧ (∀ t ∈ ts, 0 ≤ t.1 ∧ t.1 < 16 ∧ 0 ≤ t.2 ∧ t.2 < 16) ∧ SqL K H f xs ∧ Paired (LstV K H) xs P ∧ Prt n ts P ∧
  ∀ H', Same H H' → (FoP ts P → Q (.ref p) H') ∧ (¬ FoP ts P → Q (.ref f) H')
section
variable {P : Program} {w : World} {K : PySem.W.Frag} {mg : Str → Option Value} {base : Heap}
set_option maxHeartbeats 8000000 in
theorem ok_made_one (B : Bl mg) (d_joint : Dn K mg "joint" s_joint ["one", "other"]) (d_less : Dn K mg "less" s_less ["one", "other"]) (d_made_one : Dn K mg "made_one" s_made_one ["parts", "a", "b"]) : FnOk P w K mg base CX0 2 d_made_one.f d_made_one.fd ["parts", "a", "b"] (spMadeOne K) := by
  have G_less : FnOk P w K mg base CX0 1 _ _ _ _ := ok_lessP B d_less
  have G_joint : FnOk P w K mg base CX0 1 _ _ _ _ := ok_joint B d_joint
  refine d_made_one.F.ok sc_made_one (fun vs H Q E h => ?_) (fun cdv A outer s H vs Q E hr h => ?_)
  · obtain ⟨H0, l, xs, P', a, b, n, ts, rfl, _⟩ := h
    rfl
  obtain ⟨H0, l, xs, P', a, b, n, ts, rfl, s0, hL, f0, pX, G, n10, q⟩ := h
  have hv : (A.deeper (PyProof.Rows.envOfC "made_one" (defScope s_made_one) s.heap.objs.size d_made_one.f cdv)).units + 65 < cLine := by have := hr.un; omega
  have lx := Paired.length pX
  have P10 := G.len n10
  refine ⟨_, (pss_cons (ps_setLC (i := 3) ["part", "a", "b"] [none, some 1, some 2] sc_made_one.nd rfl rfl (by kernel_rfl) rfl (pi_listK (K := K) rfl (pv 0)) (fun _ _ _ _ _ => (pg_name (i := 0) (show (["part", "a", "b"] : List Str).Nodup by decide +kernel) rfl (Or.inl rfl))) (fun _ _ _ _ _ => (pts_one (PW.pt (pw_or (pt_cmpR (op_inDK (K := K) rfl hv) (pv 1) (pv 0) (by with_unfolding_all rfl)) (pw_or1 (pt_cmpR (op_inDK (K := K) rfl hv) (pv 2) (pv 0) (by with_unfolding_all rfl))))))) (fun _ _ _ _ _ => (pv 0)) (by rfl))
      (pss_cons (ps_if (pt_cmpR op_lt (pe_callB (call_lenK (K := K) rfl) rfl B.len (by decide +kernel) (pa_cons (pv 3) pa_nil)) pe_int (nomark _))
      (pss_one (ps_ret (pv 0)))
      pss_nil)
      (pss_one (ps_ret (pe_op op_catN (pe_call G_less hr rfl d_less.m d_less.F.kp d_less.b .nil pass0 (pa_cons (pv 0) (pa_cons (pv 3) pa_nil))) (pe_lstN (pa_cons (pe_call G_joint hr rfl d_joint.m d_joint.F.kp d_joint.b .nil pass0 (pa_cons (pe_ix (ix_listK (K := K) rfl) (pv 3) pe_int (fun _ _ => rfl)) (pa_cons (pe_ix (ix_listK (K := K) rfl) (pv 3) pe_int (fun _ _ => rfl)) pa_nil))) pa_nil))))))), ?_⟩
  refine ⟨_, rfl, l, rfl, ⟨_, SqL.of hL⟩, ?_⟩
  refine lc_list (K := K) (a := l) (xs := xs) (fun i zs H' => H' = H ∧ zs.length ≤ i ∧ Paired (PtL H0 H) zs (metP (P'.take i) a b)) ⟨rfl, Nat.le_refl _, .nil⟩ (fun i zs H' hi ⟨e, l', _⟩ => ⟨e ▸ SqL.of hL, Nat.le_of_lt (small1000 (by omega))⟩) (fun i x zs H3 hx ⟨e3, l3, r3⟩ => ?_) (fun zs H3 ⟨e3, l3, r3⟩ p4 hp4 => ?_)
  · subst e3
    obtain ⟨p, hp, hl⟩ := paired_get pX hx
    have et : P'.take (i + 1) = P'.take i ++ [p] := by rw [List.take_succ, hp]; rfl
    obtain ⟨b', rfl, hb', fb'⟩ := id hl
    refine or_pure (b1 := decide (a ∈ p)) (b2 := decide (b ∈ p)) (fun Q h => ⟨_, rfl, _, rfl, inInts (SqL.of hb') ⟨_, rfl, h⟩⟩) (fun Q h => ⟨_, rfl, _, rfl, inInts (SqL.of hb') ⟨_, rfl, h⟩⟩) ?_
    rw [et]
    unfold metP
    rw [List.filter_append, List.filter_cons]
    cases c : (decide (a ∈ p) || decide (b ∈ p)) with
    | true => exact iteT ⟨_, rfl, rfl, by rw [List.length_append]; show zs.length + 1 ≤ _; omega, paired_snoc r3 hl⟩
    | false =>
      refine iteF ⟨rfl, by omega, ?_⟩
      rw [show (if (false = true) then p :: List.filter (fun p => decide (a ∈ p) || decide (b ∈ p)) [] else List.filter (fun p => decide (a ∈ p) || decide (b ∈ p)) []) = [] from rfl, List.append_nil]
      exact r3
  · subst e3
    rw [lx, List.take_length] at r3
    have n4 : New H3 p4 (.lst zs) (upd H3 p4 (.lst zs)) := New.mk0 hp4
    generalize upd H3 p4 (.lst zs) = H4 at n4 ⊢
    have lz := Paired.length r3
    refine ⟨_, rfl, p4, _, rfl, .inl (SqL.of n4.here), _, _, rfl, rfl, _, rfl, ite2 (fun c => ?_) (fun c => ?_)⟩
    · have c' : ((zs.length : Nat) : Int) < 2 := of_decide_eq_true c
      refine ⟨_, rfl, q l xs P' H4 n4.same (n4.same _ _ hL) f0 (Paired.mapP pX fun _ _ h => h.same n4.same) (.no fun p r hp hr ha hb => Classical.byContradiction fun ne => ?_)⟩
      have := pigN (l := [p, r]) (U := metP P' a b) (by simp [ne]) fun x hx => by
        rcases List.mem_cons.mp hx with rfl | hx
        · exact mem_metP.mpr ⟨hp, .inl ha⟩
        · rw [List.mem_singleton.mp hx]; exact mem_metP.mpr ⟨hr, .inr hb⟩
      rw [← lz] at this
      have : 2 ≤ zs.length := this
      omega
    · have c' : ¬ ((zs.length : Nat) : Int) < 2 := of_decide_eq_false (Bool.eq_false_iff.mpr c)
      obtain ⟨p, r, em, hp, hr', ne, ab⟩ := met_two (a := a) (b := b) G (by rw [← lz]; omega)
      rw [em] at r3
      cases r3 with
      | @cons v1 _ z1 _ h1 t1 =>
      cases t1 with
      | @cons v2 _ z2 _ h2 t2 =>
      cases t2
      obtain ⟨a1, rfl, k1, f1⟩ := id h1
      obtain ⟨a2, rfl, k2, f2⟩ := id h2
      have pX4 := Paired.mapP pX fun _ _ h => PtL.same n4.same h
      refine ⟨_, rfl, _, rfl, l, p4, xs, _, P', [p, r], rfl, SqL.of (n4.same _ _ hL), Paired.mapP pX4 fun _ _ h => h.l, SqL.of n4.here, .cons (h1.same n4.same).l (.cons (h2.same n4.same).l .nil), by omega, fun H5 p6 ws H6 s5 n6 hR => ?_⟩
      have s46 := s5.trans n6.same
      have s36 := n4.same.trans s46
      have sm : ∀ {x}, x ∈ P' → Small x := fun hx v hv => by have := G.lt _ hx v hv; exact ⟨this.1, by omega⟩
      refine ⟨_, rfl, p4, _, _, _, rfl, rfl, SqL.of (s46 _ _ n4.here), rfl, _, rfl, p4, _, _, _, rfl, rfl, SqL.of (s46 _ _ n4.here), rfl, a1, a2, p, r, rfl, SqL.of (s36 _ _ k1), SqL.of (s36 _ _ k2), sm hp, sm hr', fun H7 p8 H8 s7 n8 => ⟨(by show 1 ≤ 1000; decide), fun p9 H9 n9 => ?_⟩⟩
      have s69 := s7.trans (n8.same.trans n9.same)
      have pw := hR _ pX
      have lw := Paired.length pw
      have lw2 : (lessLL P' [p, r]).length ≤ P'.length := List.length_filter_le _ _
      refine ⟨p6, p9, _, _, rfl, rfl, s69 _ _ n6.here, n9.here, (by show ws.length + 1 ≤ 1000; omega), fun p10 H10 n10' => ?_⟩
      have s610 := s69.trans n10'.same
      have s310 := s36.trans s610
      have f8 : H0 p8 = none := s0.free (s36.free (s7.free n8.fresh))
      have f10 : H0 p10 = none := s0.free (s36.free (s69.free n10'.fresh))
      refine q p10 _ (oneP P' p r) H10 s310 n10'.here f10 (paired_snoc (Paired.mapP pw fun _ _ h => h.same s310) ⟨p8, rfl, n10'.same _ _ (n9.same _ _ n8.here), f8⟩) (.yes hp hr' ne ab)
set_option maxHeartbeats 8000000 in
theorem ok_firm_of (B : Bl mg) (d_is_whole : Dn K mg "is_whole" s_is_whole ["thing"]) (d_is_below : Dn K mg "is_below" s_is_below ["n", "thing"]) (d_common : Dn K mg "common" s_common ["one", "other"]) (d_less : Dn K mg "less" s_less ["one", "other"]) (d_joint : Dn K mg "joint" s_joint ["one", "other"]) (d_around : Dn K mg "around" s_around ["graph", "v"]) (d_rim : Dn K mg "rim" s_rim ["graph", "places"]) (d_touch : Dn K mg "touch" s_touch ["graph", "one", "other"]) (d_places_of : Dn K mg "places_of" s_places_of ["mask"]) (d_mask_sizes : Dn K mg "mask_sizes" s_mask_sizes ["n"]) (d_first_bags : Dn K mg "first_bags" s_first_bags ["graph"]) (d_taken_out : Dn K mg "taken_out" s_taken_out ["bags", "v"]) (d_folds : Dn K mg "folds" s_folds ["graph"]) (d_first_to_fold : Dn K mg "first_to_fold" s_first_to_fold ["bags", "sizes"]) (d_is_firm : Dn K mg "is_firm" s_is_firm ["graph", "parts"]) (d_firm_of : Dn K mg "firm_of" s_firm_of ["graph", "fewer", "parts"]) : FnOk P w K mg base CX0 7 d_firm_of.f d_firm_of.fd ["graph", "fewer", "parts"] (spFirmOf K) := by
  have G_is_firm : FnOk P w K mg base CX0 6 _ _ _ _ := ok_is_firm B d_is_whole d_is_below d_common d_less d_joint d_around d_rim d_touch d_places_of d_mask_sizes d_first_bags d_taken_out d_folds d_first_to_fold d_is_firm
  refine d_firm_of.F.ok sc_firm_of (fun vs H Q E h => ?_) (fun cdv A outer s H vs Q E hr h => ?_)
  · obtain ⟨g, n, ts, f, p, xs, P', rfl, _⟩ := h
    rfl
  obtain ⟨g, n, ts, f, p, xs, P', rfl, hG, n10, l400, t16, hF, pF, G, q⟩ := h
  refine ⟨_, (pss_one (ps_ret (pe_ifExp (pt_truthK (K := K) rfl (pe_call G_is_firm hr rfl d_is_firm.m d_is_firm.F.kp d_is_firm.b .nil pass0 (pa_cons (pv 0) (pa_cons (pv 1) pa_nil))) (fun _ => rfl)) (pv 1) (pv 2)))), ?_⟩
  refine ⟨_, rfl, _, rfl, g, n, ts, f, xs, P', rfl, hG, n10, l400, t16, hF, pF, G, G.len n10, fun H1 b s1 hb => ?_⟩
  refine ⟨_, rfl, ?_⟩
  cases b with
  | true => exact iteT ⟨_, rfl, (q H1 s1).2 (hb.mp rfl)⟩
  | false => exact iteF ⟨_, rfl, (q H1 s1).1 (Classical.byContradiction fun z => by have := hb.mpr z; cases this)⟩
end

end K


namespace K
open PySem L2 Lw Bg
/-- the parts at the beginning -/
def sgl (n : Nat) : List (List Int) := (List.range n).map fun v => [((v : Nat) : Int)]
theorem mem_sgl {n : Nat} {p : List Int} : p ∈ sgl n ↔ ∃ v : Nat, v < n ∧ p = [(v : Int)] := by
  unfold sgl
  rw [List.mem_map]
  exact ⟨fun ⟨v, h, e⟩ => ⟨v, List.mem_range.mp h, e.symm⟩, fun ⟨v, h, e⟩ => ⟨v, List.mem_range.mpr h, e.symm⟩⟩
theorem prt_sgl (n : Nat) (ts : List (Int × Int)) : Prt n ts (sgl n) := by
  refine ⟨fun p hp => ?_, fun p hp => ?_, fun p hp => ?_, ?_, fun p hp => ?_⟩
  · obtain ⟨v, _, rfl⟩ := mem_sgl.mp hp
    exact List.cons_ne_nil _ _
  · obtain ⟨v, _, rfl⟩ := mem_sgl.mp hp
    exact List.pairwise_singleton _ _
  · obtain ⟨v, h, rfl⟩ := mem_sgl.mp hp
    intro x hx
    rw [List.mem_singleton.mp hx]
    omega
  · unfold sgl
    rw [List.pairwise_map]
    refine List.pairwise_lt_range.imp fun {a b} h v hv hw => ?_
    have := List.mem_singleton.mp hv
    have := List.mem_singleton.mp hw
    omega
  · obtain ⟨v, _, rfl⟩ := mem_sgl.mp hp
    exact Jn.one _
def FoG (n : Nat) (ts : List (Int × Int)) : Prop := Fo (fun x : Int => 0 ≤ x ∧ x < (n : Int)) (Adj ts)
theorem fo_sgl {n : Nat} {ts : List (Int × Int)} : FoP ts (sgl n) ↔ FoG n ts := by
  have tr : ∀ {x y : Int}, x ≠ y → (TR ts [x] [y] ↔ Adj ts x y) := fun {x y} ne => by
    constructor
    · rintro ⟨a, ha, b, hb, h⟩
      rw [List.mem_singleton.mp ha, List.mem_singleton.mp hb] at h
      exact h.resolve_left ne
    · exact fun h => ⟨x, List.mem_cons_self, y, List.mem_cons_self, .inr h⟩
  constructor
  · intro h
    refine h.map (fun x => [x]) (fun x hx => mem_sgl.mpr ⟨x.toNat, by omega, by rw [Int.toNat_of_nonneg hx.1]⟩) (fun x y _ _ e => List.singleton_inj.mp e) fun x y _ _ ne h => (tr ne).mpr h
  · intro h
    refine h.map (fun p => p.headD 0) (fun p hp => ?_) (fun p q hp hq e => ?_) fun p q hp hq ne h => ?_
    · obtain ⟨v, hv, rfl⟩ := mem_sgl.mp hp
      show (0 : Int) ≤ (v : Int) ∧ (v : Int) < n
      omega
    · obtain ⟨v, hv, rfl⟩ := mem_sgl.mp hp
      obtain ⟨u, hu, rfl⟩ := mem_sgl.mp hq
      exact congrArg (fun z => [z]) e
    · obtain ⟨v, hv, rfl⟩ := mem_sgl.mp hp
      obtain ⟨u, hu, rfl⟩ := mem_sgl.mp hq
      exact (tr fun e => ne (congrArg (fun z => [z]) e)).mp h
def spFour (K : PySem.W.Frag) : Sp := fun vs H Q _ => ∃ (g : V) (n : Nat) (ts : List (Int × Int)), vs = [g] ∧ GraphV K H g n ts ∧ n ≤ 10 ∧ ts.length ≤ 400 ∧ (∀ t ∈ ts, 0 ≤ t.1 ∧ t.1 < t.2 ∧ t.2 < (n : Int)) ∧
  (FoG n ts → ∀ H', Same H H' → Q .non H') ∧ (¬ FoG n ts → ∀ l xs F H', Same H H' → H l = none → H' l = some (.lst xs) → Paired (PtL H H') xs F → Prt n ts F → F.length = 4 → (∀ p ∈ F, ∀ q ∈ F, p ≠ q → TR ts p q) → Q (.ref l) H')
section
variable {P : Program} {w : World} {K : PySem.W.Frag} {mg : Str → Option Value} {base : Heap}
set_option maxHeartbeats 8000000 in
theorem ok_four (B : Bl mg) (d_is_whole : Dn K mg "is_whole" s_is_whole ["thing"]) (d_is_below : Dn K mg "is_below" s_is_below ["n", "thing"]) (d_common : Dn K mg "common" s_common ["one", "other"]) (d_less : Dn K mg "less" s_less ["one", "other"]) (d_joint : Dn K mg "joint" s_joint ["one", "other"]) (d_around : Dn K mg "around" s_around ["graph", "v"]) (d_rim : Dn K mg "rim" s_rim ["graph", "places"]) (d_touch : Dn K mg "touch" s_touch ["graph", "one", "other"]) (d_places_of : Dn K mg "places_of" s_places_of ["mask"]) (d_mask_sizes : Dn K mg "mask_sizes" s_mask_sizes ["n"]) (d_first_bags : Dn K mg "first_bags" s_first_bags ["graph"]) (d_taken_out : Dn K mg "taken_out" s_taken_out ["bags", "v"]) (d_folds : Dn K mg "folds" s_folds ["graph"]) (d_first_to_fold : Dn K mg "first_to_fold" s_first_to_fold ["bags", "sizes"]) (d_is_firm : Dn K mg "is_firm" s_is_firm ["graph", "parts"]) (d_firm_of : Dn K mg "firm_of" s_firm_of ["graph", "fewer", "parts"]) (d_made_one : Dn K mg "made_one" s_made_one ["parts", "a", "b"]) (d_four : Dn K mg "four" s_four ["graph"]) : FnOk P w K mg base CX0 8 d_four.f d_four.fd ["graph"] (spFour K) := by
  have G_is_firm : FnOk P w K mg base CX0 7 _ _ _ _ := (ok_is_firm B d_is_whole d_is_below d_common d_less d_joint d_around d_rim d_touch d_places_of d_mask_sizes d_first_bags d_taken_out d_folds d_first_to_fold d_is_firm).mono (by decide)
  have G_firm_of : FnOk P w K mg base CX0 7 _ _ _ _ := ok_firm_of B d_is_whole d_is_below d_common d_less d_joint d_around d_rim d_touch d_places_of d_mask_sizes d_first_bags d_taken_out d_folds d_first_to_fold d_is_firm d_firm_of
  have G_less : FnOk P w K mg base CX0 7 _ _ _ _ := (ok_lessP B d_less).mono (by decide)
  have G_made_one : FnOk P w K mg base CX0 7 _ _ _ _ := (ok_made_one B d_joint d_less d_made_one).mono (by decide)
  refine d_four.F.ok sc_four (fun vs H Q E h => ?_) (fun cdv A outer s H vs Q E hr h => ?_)
  · obtain ⟨g, n, ts, rfl, _⟩ := h
    rfl
  obtain ⟨g, n, ts, rfl, hG, n10, l400, okt, q1, q2⟩ := h
  obtain ⟨pg, rt, rfl, hgT, tx, hTx, pTx, lTx⟩ := id hG
  have t16 : ∀ t ∈ ts, 0 ≤ t.1 ∧ t.1 < 16 ∧ 0 ≤ t.2 ∧ t.2 < 16 := fun t ht => by have := okt t ht; omega
  refine ⟨_, (pss_cons (ps_setLC (i := 1) ["v"] [none] sc_four.nd rfl rfl (by kernel_rfl) rfl (pi_range1 rfl B.range (pa_cons (pe_ix (ix_tupK (K := K) rfl) (pv 0) pe_int (fun _ _ => rfl)) pa_nil)) (fun _ _ _ _ _ => (pg_name (i := 0) (show (["v"] : List Str).Nodup by decide +kernel) rfl (Or.inl rfl))) (fun _ _ _ _ _ => pts_nil) (fun _ _ _ _ _ => (pe_lstN (pa_cons (pv 0) pa_nil))) (by rfl))
      (pss_cons (ps_if (pt_not (pt_truthK (K := K) rfl (pe_call G_is_firm hr rfl d_is_firm.m d_is_firm.F.kp d_is_firm.b .nil pass0 (pa_cons (pv 0) (pa_cons (pv 1) pa_nil))) (fun _ => rfl)))
      (pss_one (ps_ret pe_non))
      pss_nil)
      (pss_cons (ps_for PassesOwn.never rfl (pi_range1 rfl B.range (pa_cons (pe_ix (ix_tupK (K := K) rfl) (pv 0) pe_int (fun _ _ => rfl)) pa_nil)) (pg_name (i := 2) sc_four.nd rfl (Or.inl rfl))
      (pss_one (ps_set (i := 1) sc_four.nd rfl (Or.inl rfl) (pe_call G_firm_of hr rfl d_firm_of.m d_firm_of.F.kp d_firm_of.b .nil pass0 (pa_cons (pv 0) (pa_cons (pe_call G_less hr rfl d_less.m d_less.F.kp d_less.b .nil pass0 (pa_cons (pv 1) (pa_cons (pe_lstN (pa_cons (pe_lstN (pa_cons (pv 2) pa_nil)) pa_nil)) pa_nil))) (pa_cons (pv 1) pa_nil)))))))
      (pss_cons (ps_for PassesOwn.never rfl (pi_listK (K := K) rfl (pe_ix (ix_tupK (K := K) rfl) (pv 0) pe_int (fun _ _ => rfl))) (pg_tupK (K := K) (n := 2) rfl rfl (pgs_cons (pg_name (i := 3) sc_four.nd rfl (Or.inl rfl)) (pgs_cons (pg_name (i := 4) sc_four.nd rfl (Or.inl rfl)) pgs_nil)))
      (pss_one (ps_set (i := 1) sc_four.nd rfl (Or.inl rfl) (pe_call G_firm_of hr rfl d_firm_of.m d_firm_of.F.kp d_firm_of.b .nil pass0 (pa_cons (pv 0) (pa_cons (pe_call G_made_one hr rfl d_made_one.m d_made_one.F.kp d_made_one.b .nil pass0 (pa_cons (pv 1) (pa_cons (pv 3) (pa_cons (pv 4) pa_nil)))) (pa_cons (pv 1) pa_nil)))))))
      (pss_one (ps_ret (pv 1))))))), ?_⟩
  refine ⟨_, rfl, pg, _, _, _, rfl, rfl, hgT, rfl, _, rfl, by omega, by omega, ?_⟩
  rw [Int.toNat_natCast]
  refine lc_range (lo := 0) (n := n) (fun i zs H' => Same H H' ∧ Paired (PtL H H') zs (sgl i)) ⟨Same.refl _, .nil⟩ (fun i zs H' hi ⟨_, p⟩ => ?_) (fun i zs H3 hi ⟨s3, p3⟩ => ?_) (fun zs H3 ⟨s3, p3⟩ p4 hp4 => ?_)
  · have := Paired.length p
    unfold sgl at this
    rw [List.length_map, List.length_range] at this
    exact Nat.le_of_lt (small1000 (by omega))
  · have e0 : (0 : Int) + (i : Int) = ((i : Nat) : Int) := by omega
    rw [e0]
    refine ⟨_, rfl, (by show 1 ≤ 1000; decide), fun p5 H5 n5 => ⟨s3.trans n5.same, ?_⟩⟩
    unfold sgl
    rw [List.range_succ, List.map_append]
    exact paired_snoc (Paired.mapP p3 fun _ _ h => PtL.same n5.same h) ⟨p5, rfl, n5.here, s3.free n5.fresh⟩
  have n4 : New H3 p4 (.lst zs) (upd H3 p4 (.lst zs)) := New.mk0 hp4
  generalize upd H3 p4 (.lst zs) = H4 at n4 ⊢
  have s4 := s3.trans n4.same
  have f4 : H p4 = none := s3.free n4.fresh
  have p4' := Paired.mapP p3 fun _ _ h => PtL.same n4.same h
  have G0 := prt_sgl n ts
  refine ⟨_, rfl, _, rfl, .ref pg, n, ts, p4, zs, sgl n, rfl, hG.same s4, n10, l400, t16, SqL.of n4.here, Paired.mapP p4' fun _ _ h => h.l, G0, G0.len n10, fun H5 b s5 hb => ?_⟩
  cases b with
  | false =>
    refine ⟨_, rfl, iteT (q1 (fo_sgl.mp (Classical.byContradiction fun z => by have := hb.mpr z; cases this)) H5 (s4.trans s5))⟩
  | true =>
    have firm := hb.mp rfl
    refine ⟨_, rfl, iteF ?_⟩
    refine ⟨_, rfl, pg, _, _, _, rfl, rfl, (s4.trans s5).tupq hgT, rfl, _, rfl, by omega, by omega, ?_⟩
    rw [Int.toNat_natCast]
    refine for_range (n := n) (fun i σ H' => ∃ (l : Addr) (xs : List V) (F : List (List Int)) (v2 : Option V), σ = [some (.ref pg), some (.ref l), v2, none, none] ∧ Same H H' ∧ H l = none ∧ H' l = some (.lst xs) ∧ Paired (PtL H H') xs F ∧ Prt n ts F ∧ ¬ FoP ts F ∧ (∀ p ∈ F, ∃ v, p = [v]) ∧ ∀ u : Nat, u < i → I1 ts F (u : Int)) ⟨p4, zs, sgl n, none, rfl, s4.trans s5, f4, s5 _ _ n4.here, Paired.mapP p4' fun _ _ h => PtL.same s5 h, G0, firm, (fun p hp => by obtain ⟨v, _, e⟩ := mem_sgl.mp hp; exact ⟨_, e⟩), fun u hu => absurd hu (Nat.not_lt_zero _)⟩ ?_ ?_
    · rintro i σ H6 hi ⟨l, xs, F, v2, rfl, s6, fl, hl, pF, G, nf, one, i1⟩
      have ei : (0 : Int) + (i : Int) = ((i : Nat) : Int) := by omega
      rw [ei]
      have F10 := G.len n10
      refine ⟨_, rfl, _, rfl, _, rfl, (by show 1 ≤ 1000; decide), fun p7 H7 n7 => ⟨(by show 1 ≤ 1000; decide), fun p8 H8 n8 => ?_⟩⟩
      have s68 := n7.same.trans n8.same
      have pF8 := Paired.mapP pF fun _ _ h => PtL.same s68 h
      refine ⟨l, p8, xs, _, F, [[((i : Nat) : Int)]], rfl, SqL.of (s68 _ _ hl), Paired.mapP pF8 fun _ _ h => h.l, SqL.of n8.here, .cons ⟨p7, rfl, SqL.of (n8.same _ _ n7.here)⟩ .nil, by omega, fun H9 p10 ws H10 s9 n10' hR => ?_⟩
      have s610 := s68.trans (s9.trans n10'.same)
      have Gw : Prt n ts (lessLL F [[((i : Nat) : Int)]]) := G.sub List.filter_sublist
      have pw := hR _ pF
      refine ⟨_, rfl, .ref pg, n, ts, p10, l, ws, lessLL F [[((i : Nat) : Int)]], rfl, hG.same (s6.trans s610), n10, l400, t16, SqL.of n10'.here, Paired.mapP pw fun _ _ h => (h.same s610).l, Gw, fun H11 s11 => ⟨fun fo => ?_, fun nfo => ?_⟩⟩
      · have s611 := s610.trans s11
        refine ⟨l, xs, F, _, rfl, s6.trans s611, fl, s611 _ _ hl, Paired.mapP pF fun _ _ h => h.same s611, G, nf, one, fun u hu => ?_⟩
        rcases Nat.lt_or_ge u i with c | c
        · exact i1 u c
        · obtain rfl : u = i := by omega
          exact fun _ => fo.sub (fun x hx => mem_lessLL.mpr ⟨hx.1, fun z => hx.2 (by rw [List.mem_singleton.mp z]; exact List.mem_cons_self)⟩) fun _ _ _ _ _ e => e
      · have s611 := s610.trans s11
        refine ⟨p10, ws, _, _, rfl, s6.trans s611, s6.free (s68.free (s9.free n10'.fresh)), s11 _ _ n10'.here, Paired.mapP pw fun _ _ h => h.same s611, Gw, nfo, fun p hp => one p (mem_lessLL.mp hp).1, fun u hu => ?_⟩
        rcases Nat.lt_or_ge u i with c | c
        · exact (i1 u c).sub fun p hp => (mem_lessLL.mp hp).1
        · obtain rfl : u = i := by omega
          rintro ⟨p, hp, hv⟩
          obtain ⟨h1, h2⟩ := mem_lessLL.mp hp
          obtain ⟨v, rfl⟩ := one p h1
          rw [List.mem_singleton.mp hv] at h2
          exact absurd List.mem_cons_self h2
    rintro σ H6 ⟨l, xs, F, v2, rfl, s6, fl, hl, pF, G, nf, _, i1⟩
    dsimp only
    have j1 : ∀ v : Int, 0 ≤ v → v < (n : Int) → I1 ts F v := fun v v0 v1 => by
      have := i1 v.toNat (by omega)
      rwa [Int.toNat_of_nonneg v0] at this
    clear i1
    refine ⟨_, rfl, pg, _, _, _, rfl, rfl, s6.tupq hgT, rfl, rt, rfl, ⟨_, s6.seq hTx⟩, ?_⟩
    refine for_list (xs := tx) (fun j σ H' => ∃ (l : Addr) (xs : List V) (F : List (List Int)) (v2 v3 v4 : Option V), σ = [some (.ref pg), some (.ref l), v2, v3, v4] ∧ Same H H' ∧ H l = none ∧ H' l = some (.lst xs) ∧ Paired (PtL H H') xs F ∧ Prt n ts F ∧ ¬ FoP ts F ∧ (∀ v : Int, 0 ≤ v → v < (n : Int) → I1 ts F v) ∧ ∀ t ∈ ts.take j, I2 ts F t.1 t.2) ⟨l, xs, F, _, _, _, rfl, s6, fl, hl, pF, G, nf, j1, fun t ht => absurd ht List.not_mem_nil⟩ (fun j σ H' _ ⟨_, _, _, _, _, _, _, s', _⟩ => s'.seq hTx) ?_ ?_
    · rintro j x σ H7 hx ⟨l, xs, F, v2, v3, v4, rfl, s7, fl, hl, pF, G, nf, j1, j2⟩
      obtain ⟨t, ht, ⟨pt, ept, htp⟩⟩ := paired_get pTx hx
      subst ept
      have tm := List.mem_of_getElem? ht
      have et : ts.take (j + 1) = ts.take j ++ [t] := by rw [List.take_succ, ht]; rfl
      refine ⟨pt, _, rfl, s7.tupq htp, rfl, _, _, rfl, _, _, rfl, rfl, ?_⟩
      refine ⟨_, rfl, _, rfl, _, rfl, _, rfl, H, l, xs, F, t.1, t.2, n, ts, rfl, s7, hl, fl, pF, G, n10, fun l' xs' F' H8 s8 hl' fl' pF' md => ?_⟩
      have put : ∀ (F'' : List (List Int)), (∀ t ∈ ts.take j, I2 ts F'' t.1 t.2) → I2 ts F'' t.1 t.2 → ∀ u ∈ ts.take (j + 1), I2 ts F'' u.1 u.2 := fun F'' h1 h2 u hu => by
        rw [et] at hu
        rcases List.mem_append.mp hu with hu | hu
        · exact h1 u hu
        · rw [List.mem_singleton.mp hu]; exact h2
      have adj : Adj ts t.1 t.2 := .inl tm
      have G' : Prt n ts F' := by
        cases md with
        | no _ => exact G
        | yes hp hq ne ab => exact (one_step G n10 hp hq ne (ab.elim (fun z => ⟨_, z.1, _, z.2, .inr adj⟩) fun z => ⟨_, z.1, _, z.2, .inr adj.symm⟩)).1
      refine ⟨_, rfl, .ref pg, n, ts, l', l, xs', F', rfl, hG.same (s7.trans s8), n10, l400, t16, SqL.of hl', Paired.mapP pF' fun _ _ h => h.l, G', fun H9 s9 => ⟨fun fo => ?_, fun nfo => ?_⟩⟩
      · have s79 := s8.trans s9
        refine ⟨l, xs, F, _, _, _, rfl, s7.trans s79, fl, s79 _ _ hl, Paired.mapP pF fun _ _ h => h.same s79, G, nf, j1, put F j2 ?_⟩
        cases md with
        | no h => exact absurd fo nf
        | @yes p q hp hq ne ab =>
          intro r s hr hs ha hb nrs
          have F1 : Fo (Ones (fun r => r ∈ F) p q (jointF p q)) (TR ts) := fo.sub (fun x hx => mem_oneP.mpr hx) fun _ _ _ _ _ e => e
          rcases ab with ⟨z1, z2⟩ | ⟨z1, z2⟩
          · rw [G.same hr hp ha z1, G.same hs hq hb z2]; exact F1
          · rw [G.same hr hq ha z2, G.same hs hp hb z1]
            exact F1.sub (fun x hx => hx.elim (fun y => .inl ⟨y.1, y.2.2, y.2.1⟩) fun y => .inr (by rw [y, jointF_comm])) fun _ _ _ _ _ e => e
      · have s79 := s8.trans s9
        refine ⟨l', xs', F', _, _, _, rfl, s7.trans s79, fl', s9 _ _ hl', Paired.mapP pF' fun _ _ h => h.same s9, G', nfo, ?_, put F' ?_ ?_⟩
        · cases md with
          | no _ => exact j1
          | yes hp hq ne ab => exact fun v v0 v1 => (one_step G n10 hp hq ne (ab.elim (fun z => ⟨_, z.1, _, z.2, .inr adj⟩) fun z => ⟨_, z.1, _, z.2, .inr adj.symm⟩)).2.1 v (j1 v v0 v1)
        · cases md with
          | no _ => exact j2
          | yes hp hq ne ab => exact fun u hu => (one_step G n10 hp hq ne (ab.elim (fun z => ⟨_, z.1, _, z.2, .inr adj⟩) fun z => ⟨_, z.1, _, z.2, .inr adj.symm⟩)).2.2 _ _ (j2 u hu)
        · cases md with
          | no h => exact fun r s hr hs ha hb nrs => absurd (h r s hr hs ha hb) nrs
          | @yes p q hp hq ne ab =>
            intro r s hr hs ha hb nrs
            have mj : ∀ {v}, v ∈ jointF p q ↔ v ∈ p ∨ v ∈ q := mem_jointF n10 (G.lt p hp) (G.lt q hq)
            have inJ : t.1 ∈ jointF p q ∧ t.2 ∈ jointF p q := by
              rcases ab with ⟨z1, z2⟩ | ⟨z1, z2⟩
              · exact ⟨mj.mpr (.inl z1), mj.mpr (.inr z2)⟩
              · exact ⟨mj.mpr (.inr z2), mj.mpr (.inl z1)⟩
            have J : jointF p q ∈ oneP F p q := mem_oneP.mpr (.inr rfl)
            exact absurd ((G'.same hr J ha inJ.1).trans (G'.same hs J hb inJ.2).symm) nrs
    rintro σ H7 ⟨l, xs, F, v2, v3, v4, rfl, s7, fl, hl, pF, G, nf, j1, j2⟩
    dsimp only
    have ltx := Paired.length pTx
    rw [ltx, List.take_length] at j2
    obtain ⟨l4, tr⟩ := four_parts G n10 nf j1 j2
    exact ⟨_, rfl, q2 (fun z => firm (fo_sgl.mpr z)) l xs F H7 s7 fl hl pF G l4 tr⟩
end

end K


namespace K
open PySem L2 Lw Bg
abbrev s__law_cell : Stmt := top 26
theorem sc__law_cell : FnScope ["_law_script", "_law_k"] ["_law_script", "_law_k"] (defScope s__law_cell) := ⟨rfl, rfl, rfl, by decide +kernel, rfl, by decide +kernel, by decide +kernel⟩
def spCellA (K : PySem.W.Frag) : Sp := fun vs H Q _ => ∃ (a : Addr) (ns : List Int) (k : Int), vs = [.ref a, .int k] ∧ Scr K H a ns ∧ ns.length ≤ 63 ∧ 0 ≤ k ∧ k ≤ 1000 ∧ ∀ z, Q (.int z) H
section
variable {P : Program} {w : World} {K : PySem.W.Frag} {mg : Str → Option Value} {base : Heap}
set_option maxHeartbeats 4000000 in
theorem ok__law_cell (B : Bl mg) (d__law_cell : Dn K mg "_law_cell" s__law_cell ["_law_script", "_law_k"]) : FnOk P w K mg base CX0 1 d__law_cell.f d__law_cell.fd ["_law_script", "_law_k"] (spCellA K) := by
  refine d__law_cell.F.ok sc__law_cell (fun vs H Q E h => ?_) (fun cdv A outer s H vs Q E hr h => ?_)
  · obtain ⟨a, ns, k, rfl, _⟩ := h
    rfl
  obtain ⟨a, ns, k, rfl, hS, h63, h0, h1, q⟩ := h
  refine ⟨_, (pss_cons (ps_if (pt_cmpR op_lt (pv 1) (pe_callB (call_lenK (K := K) rfl) rfl B.len (by decide +kernel) (pa_cons (pv 0) pa_nil)) (nomark _))
      (pss_one (ps_ret (pe_ix (ix_listK (K := K) rfl) (pv 0) (pv 1) (fun _ _ => rfl))))
      pss_nil)
      (pss_cons (ps_if (pt_cmpR op_eq (pe_callB (call_lenK (K := K) rfl) rfl B.len (by decide +kernel) (pa_cons (pv 0) pa_nil)) pe_int (nomark _))
      (pss_one (ps_ret (pe_op op_add (pe_op op_mul (pe_op op_mul (pv 1) (pv 1)) pe_int) pe_int)))
      pss_nil)
      (pss_one (ps_ret (pe_op op_add (pe_op op_mul (pe_op op_mod (pe_ix (ix_listK (K := K) rfl) (pv 0) (pe_op op_mod (pe_op op_mul (pv 1) pe_int) (pe_callB (call_lenK (K := K) rfl) rfl B.len (by decide +kernel) (pa_cons (pv 0) pa_nil))) (fun _ _ => rfl)) pe_int) pe_int) (pe_op op_mul (pe_op op_mul (pv 1) (pv 1)) pe_int)))))), ?_⟩
  have hl : (ns.map V.int).length = ns.length := List.length_map _
  refine ⟨_, rfl, _, rfl, a, _, rfl, .inl hS.seq, _, _, rfl, rfl, _, rfl, ?_⟩
  refine ite2 (fun c => ?_) (fun c => ?_)
  · have c' : k < (((ns.map V.int).length : Nat) : Int) := of_decide_eq_true c
    rw [hl] at c'
    exact ⟨_, rfl, _, rfl, a, _, _, _, rfl, rfl, hS.seq, at_ints h0 c', q _⟩
  refine ⟨_, rfl, a, _, rfl, .inl hS.seq, rfl, _, rfl, ?_⟩
  refine ite2 (fun c2 => ?_) (fun c2 => ?_)
  · exact ⟨_, rfl, _, rfl, _, _, rfl, rfl, .inl ⟨by omega, by omega⟩, _, _, rfl, rfl, .inr ⟨by decide, by decide⟩, _, _, rfl, rfl, q _⟩
  · have c2' : ¬ V.int (((ns.map V.int).length : Nat) : Int) = V.int 0 := of_decide_eq_false (Bool.eq_false_iff.mpr c2)
    rw [hl] at c2'
    have z' : (0 : Int) < (ns.length : Int) := by
      rcases Nat.eq_zero_or_pos ns.length with e | e
      · exact absurd (by rw [e]; rfl) c2'
      · omega
    have m0 := Int.emod_nonneg (k * 3) (show (ns.length : Int) ≠ 0 by omega)
    have m1 := Int.emod_lt_of_pos (k * 3) z'
    exact ⟨_, rfl, _, rfl, _, _, rfl, rfl, .inr ⟨by decide, by decide⟩, _, rfl, a, _, rfl, .inl hS.seq, _, _, rfl, rfl, (by rw [hl]; exact z'), a, _, _, _, rfl, rfl, hS.seq, (by rw [hl]; exact at_ints m0 m1), _, _, rfl, rfl, (show (0 : Int) < _ by decide), _, _, rfl, rfl, .inr ⟨by decide, by decide⟩, _, rfl, _, rfl, _, _, rfl, rfl, .inl ⟨by omega, by omega⟩, _, _, rfl, rfl, .inr ⟨by decide, by decide⟩, _, _, rfl, rfl, q _⟩
end

abbrev s__law_turned : Stmt := top 28
theorem sc__law_turned : FnScope ["_law_script", "_law_n", "_law_turned_here", "_law_v"] ["_law_script", "_law_n"] (defScope s__law_turned) := ⟨rfl, rfl, rfl, by decide +kernel, rfl, by decide +kernel, by decide +kernel⟩
abbrev rng (n : Nat) : List Int := (List.range n).map fun i => ((i : Nat) : Int)
theorem mem_rng {n : Nat} {v : Int} : v ∈ rng n ↔ 0 ≤ v ∧ v < (n : Int) := by
  rw [List.mem_map]
  constructor
  · rintro ⟨i, hi, rfl⟩
    have := List.mem_range.mp hi
    omega
  · rintro ⟨h0, h1⟩
    exact ⟨v.toNat, List.mem_range.mpr (by omega), by omega⟩
theorem nodup_rng (n : Nat) : (rng n).Nodup := by
  unfold List.Nodup
  rw [List.pairwise_map]
  exact List.pairwise_lt_range.imp fun h => by omega
def spTurned (K : PySem.W.Frag) : Sp := fun vs H Q _ => ∃ (a : Addr) (ns : List Int) (n : Nat), vs = [.ref a, .int n] ∧ Scr K H a ns ∧ ns.length ≤ 63 ∧ n ≤ 10 ∧ ∀ r us H', New H r (.lst (List.map V.int us)) H' → us.Perm (rng n) → Q (.ref r) H'
section
variable {P : Program} {w : World} {K : PySem.W.Frag} {mg : Str → Option Value} {base : Heap}
set_option maxHeartbeats 4000000 in
theorem ok__law_turned (B : Bl mg) (d__law_cell : Dn K mg "_law_cell" s__law_cell ["_law_script", "_law_k"]) (d__law_turned : Dn K mg "_law_turned" s__law_turned ["_law_script", "_law_n"]) : FnOk P w K mg base CX0 2 d__law_turned.f d__law_turned.fd ["_law_script", "_law_n"] (spTurned K) := by
  have G__law_cell : FnOk P w K mg base CX0 1 _ _ _ _ := ok__law_cell B d__law_cell
  refine d__law_turned.F.ok sc__law_turned (fun vs H Q E h => ?_) (fun cdv A outer s H vs Q E hr h => ?_)
  · obtain ⟨a, ns, n, rfl, _⟩ := h
    rfl
  obtain ⟨a, ns, n, rfl, hS, h63, hn, q⟩ := h
  refine ⟨_, (pss_cons (ps_set (i := 2) sc__law_turned.nd rfl (Or.inl rfl) (pe_lstN pa_nil))
      (pss_cons (ps_for PassesOwn.never rfl (pi_range1 rfl B.range (pa_cons (pv 1) pa_nil)) (pg_name (i := 3) sc__law_turned.nd rfl (Or.inl rfl))
      (pss_one (ps_expr (pe_bmK (K := K) rfl PySem.F.plainAttrs_list PySem.F.slot_list_insert PySem.F.type_list_insert mt_insertN (pv 2) (pa_cons (pe_op op_mod (pe_call G__law_cell hr rfl d__law_cell.m d__law_cell.F.kp d__law_cell.b .nil pass0 (pa_cons (pv 0) (pa_cons (pe_op op_add pe_int (pv 3)) pa_nil))) (pe_op op_add (pv 3) pe_int)) (pa_cons (pv 3) pa_nil))))))
      (pss_one (ps_ret (pv 2))))), ?_⟩
  refine ⟨(by show 0 ≤ 1000; decide), fun r H0 nw => ?_⟩
  refine ⟨_, rfl, _, rfl, by omega, by omega, ?_⟩
  rw [Int.toNat_natCast]
  refine for_range (n := n) (fun i σ H' => ∃ (us : List Int) (v : Option V), σ = [some (.ref a), some (.int n), some (.ref r), v] ∧ New H r (.lst (us.map V.int)) H' ∧ us.Perm (rng i)) ⟨[], none, rfl, nw, .nil⟩ ?_ ?_
  · rintro i σ H1 hi ⟨us, v, rfl, n1, pm⟩
    have ei : (0 + (i : Int)) = ((i : Nat) : Int) := by omega
    rw [ei]
    have lu : us.length = i := by rw [pm.length_eq]; simp
    refine ⟨_, rfl, .inl ⟨rfl, _, SqL.of n1.here⟩, _, rfl, _, rfl, _, _, rfl, rfl, a, ns, _, rfl, hS.same n1.same, h63, (by omega), (by omega), fun z => ?_⟩
    have m0 := Int.emod_nonneg z (show (i : Int) + 1 ≠ 0 by omega)
    have m1 := Int.emod_lt_of_pos z (show (0 : Int) < (i : Int) + 1 by omega)
    refine ⟨_, rfl, _, _, rfl, rfl, _, _, rfl, rfl, (show (0 : Int) < _ by omega), _, rfl, r, _, _, _, rfl, rfl, n1.here, (by rw [List.length_map]; omega), m0, (by rw [List.length_map]; omega), fun H2 ch => ?_⟩
    refine ⟨us.take (z % ((i : Int) + 1)).toNat ++ (i : Int) :: us.drop (z % ((i : Int) + 1)).toNat, _, rfl, ⟨n1.fresh, ?_, fun b hb => (ch.rest b hb).trans (n1.rest b hb)⟩, ?_⟩
    · rw [ch.here, ← List.map_take, ← List.map_drop, List.map_append, List.map_cons]
    · refine List.perm_middle.trans ?_
      rw [List.take_append_drop]
      have e : rng (i + 1) = rng i ++ [(i : Int)] := by unfold rng; rw [List.range_succ, List.map_append]; rfl
      rw [e]
      exact (pm.cons _).trans (List.perm_append_singleton _ _).symm
  · rintro σ H1 ⟨us, v, rfl, n1, pm⟩
    exact ⟨_, rfl, q r us H1 n1 pm⟩
end

abbrev s__law_whole : Stmt := top 27
theorem sc__law_whole : FnScope ["_law_thing"] ["_law_thing"] (defScope s__law_whole) := ⟨rfl, rfl, rfl, by decide +kernel, rfl, by decide +kernel, by decide +kernel⟩
section
variable {P : Program} {w : World} {K : PySem.W.Frag} {mg : Str → Option Value} {base : Heap}
set_option maxHeartbeats 4000000 in
theorem ok__law_whole (B : Bl mg) (d__law_whole : Dn K mg "_law_whole" s__law_whole ["_law_thing"]) : FnOk P w K mg base CX0 1 d__law_whole.f d__law_whole.fd ["_law_thing"] (spWhole K) := by
  refine d__law_whole.F.ok sc__law_whole (fun vs H Q E h => ?_) (fun cdv A outer s H vs Q E hr h => ?_)
  · obtain ⟨x, t, bi, bb, rfl, _⟩ := h
    rfl
  obtain ⟨x, t, bi, bb, rfl, ty, h1, h2, q⟩ := h
  refine ⟨_, (pss_one (ps_ret (pe_and (pe_callB (call_isinstK (K := K) rfl) rfl B.isinstance (by decide +kernel) (pa_cons (pv 0) (pa_cons (pe_bltn (v := .ty "int") (u := .type "int") rfl B.int (by decide +kernel) rfl) pa_nil))) (pe_one (pe_not (pe_callB (call_isinstK (K := K) rfl) rfl B.isinstance (by decide +kernel) (pa_cons (pv 0) (pa_cons (pe_bltn (v := .ty "bool") (u := .type "bool") rfl B.bool (by decide +kernel) rfl) pa_nil)))))))), ?_⟩
  refine ⟨_, rfl, _, _, _, _, _, rfl, rfl, ty, h1, _, rfl, ?_⟩
  cases bi with
  | true =>
    refine iteT ?_
    exact ⟨_, rfl, _, _, _, _, _, rfl, rfl, ty, h2, _, rfl, q⟩
  | false => exact iteF q
end

theorem perm_nat {us : List Int} {n : Nat} (h : us.Perm (rng n)) : ∃ os : List Nat, us.map V.int = natV os ∧ os.Perm (List.range n) ∧ us = os.map fun (x : Nat) => (x : Int) := by
  have e : us = (us.map Int.toNat).map fun (x : Nat) => (x : Int) := by
    rw [List.map_map]
    conv => lhs; rw [← List.map_id us]
    refine List.map_congr_left fun x hx => ?_
    have := mem_rng.mp (h.mem_iff.mp hx)
    show x = ((x.toNat : Nat) : Int)
    omega
  refine ⟨us.map Int.toNat, by rw [natV_ints, ← e], ?_, e⟩
  have := h.map Int.toNat
  rw [List.map_map] at this
  have e2 : (List.range n).map (Int.toNat ∘ fun i => ((i : Nat) : Int)) = List.range n := by
    conv => rhs; rw [← List.map_id (List.range n)]
    exact List.map_congr_left fun x _ => by simp
  rw [e2] at this
  exact this

abbrev s__law_parted : Stmt := top 29
theorem sc__law_parted : FnScope ["_law_script", "_law_n", "_law_a", "_law_b"] ["_law_script", "_law_n", "_law_a", "_law_b"] (defScope s__law_parted) := ⟨rfl, rfl, rfl, by decide +kernel, rfl, by decide +kernel, by decide +kernel⟩
def spParted (K : PySem.W.Frag) : Sp := fun vs H Q _ => ∃ (a : Addr) (ns : List Int) (n i j : Nat), vs = [.ref a, .int n, .int i, .int j] ∧ Scr K H a ns ∧ ns.length ≤ 63 ∧ n ≤ 10 ∧ i < 10 ∧ j < 10 ∧ ∀ b, Q (.bl b) H
section
variable {P : Program} {w : World} {K : PySem.W.Frag} {mg : Str → Option Value} {base : Heap}
set_option maxHeartbeats 4000000 in
theorem ok__law_parted (B : Bl mg) (d__law_cell : Dn K mg "_law_cell" s__law_cell ["_law_script", "_law_k"]) (d__law_parted : Dn K mg "_law_parted" s__law_parted ["_law_script", "_law_n", "_law_a", "_law_b"]) : FnOk P w K mg base CX0 2 d__law_parted.f d__law_parted.fd ["_law_script", "_law_n", "_law_a", "_law_b"] (spParted K) := by
  have G__law_cell : FnOk P w K mg base CX0 1 _ _ _ _ := ok__law_cell B d__law_cell
  refine d__law_parted.F.ok sc__law_parted (fun vs H Q E h => ?_) (fun cdv A outer s H vs Q E hr h => ?_)
  · obtain ⟨a, ns, n, i, j, rfl, _⟩ := h
    rfl
  obtain ⟨a, ns, n, i, j, rfl, hS, h63, n10, i10, j10, q⟩ := h
  refine ⟨_, (pss_one (ps_ret (pe_and (pe_cmpR op_eq (pe_op op_mod (pe_op op_fdiv (pe_call G__law_cell hr rfl d__law_cell.m d__law_cell.F.kp d__law_cell.b .nil pass0 (pa_cons (pv 0) (pa_cons pe_int pa_nil))) pe_int) pe_int) pe_int (nomark _)) (pe_one (pe_chain op_lt op_le (pe_op op_mul pe_int (pe_callB (call_min2 rfl) rfl B.min (by decide +kernel) (pa_cons (pv 2) (pa_cons (pv 3) pa_nil)))) (pv 1) (pe_op op_mul pe_int (pe_callB (call_max2 rfl) rfl B.max (by decide +kernel) (pa_cons (pv 2) (pa_cons (pv 3) pa_nil))))))))), ?_⟩
  refine ⟨_, rfl, a, ns, 1, rfl, hS, h63, by decide, by decide, fun z => ?_⟩
  refine ⟨_, _, rfl, rfl, ⟨by decide, by decide⟩, _, _, rfl, rfl, (show (0 : Int) < _ by decide), rfl, _, rfl, ite2 (fun c => ?_) (fun c => ?_)⟩
  · refine ⟨_, rfl, _, rfl, _, _, rfl, _, _, rfl, rfl, .inl ⟨by decide, by decide⟩, _, rfl, _, _, rfl, rfl, _, rfl, ite2 (fun c2 => ?_) (fun c2 => q _)⟩
    exact ⟨_, rfl, _, rfl, _, _, rfl, _, _, rfl, rfl, .inl ⟨by decide, by decide⟩, _, _, rfl, rfl, q _⟩
  · exact q _
end

abbrev s__law_ties : Stmt := top 30
theorem sc__law_ties : FnScope ["_law_script", "_law_n", "_law_turned_here", "_law_tied_here", "_law_k", "_law_cell_here", "_law_j", "_law_other", "_law_share", "_law_ties_here", "_law_a", "_law_b", "_law_mixed"] ["_law_script", "_law_n"] (defScope s__law_ties) := ⟨rfl, rfl, rfl, by decide +kernel, rfl, by decide +kernel, by decide +kernel⟩
def spTies48 (K : PySem.W.Frag) : Sp := fun vs H Q _ => ∃ (a : Addr) (ns : List Int) (n : Nat), vs = [.ref a, .int n] ∧ Scr K H a ns ∧ ns.length ≤ 63 ∧ n ≤ 10 ∧
  ∀ r xs ts H', Same H H' → H r = none → H' r = some (.lst xs) → Paired (TieL H') xs ts → (∀ t ∈ ts, 0 ≤ t.1 ∧ t.1 < t.2 ∧ t.2 < (n : Int)) → ts.length ≤ 100 → ts.Nodup → Q (.ref r) H'
theorem and_orN {ta tb tc : TT} {σ : St} {H : Hp} {b1 : Bool} {Q : Bool → Hp → Prop} (h1 : ∀ Q : Bool → Hp → Prop, Q b1 H → ta σ H Q) (h2 : ∀ Q : Bool → Hp → Prop, (∀ b, Q b H) → tb σ H Q) (h3 : ∀ Q : Bool → Hp → Prop, (∀ b, Q b H) → tc σ H Q) (h : ∀ b, Q b H) : tAnd (tOr ta tb) tc σ H Q := by
  refine h1 _ ?_
  have key : ∀ b : Bool, (fun (b : Bool) (H : Hp) => if b = true then tc σ H Q else Q false H) b H := fun b => by
    cases b with
    | true => exact iteT (h3 _ h)
    | false => exact iteF (h false)
  cases b1 with
  | true => exact iteT (key true)
  | false => exact iteF (h2 _ key)
theorem if_andor {ta tb tc : TT} {A B : TS} {D : Ends} {σ : St} {H : Hp} {b1 : Bool} (h1 : ∀ Q : Bool → Hp → Prop, Q b1 H → ta σ H Q) (h2 : ∀ Q : Bool → Hp → Prop, (∀ b, Q b H) → tb σ H Q) (h3 : ∀ Q : Bool → Hp → Prop, (∀ b, Q b H) → tc σ H Q) (h : ∀ b, if b = true then A D σ H else B D σ H) : tIfS (tAnd (tOr ta tb) tc) A B D σ H := and_orN h1 h2 h3 h
section
variable {P : Program} {w : World} {K : PySem.W.Frag} {mg : Str → Option Value} {base : Heap}
set_option maxHeartbeats 16000000 in
theorem ok__law_ties (B : Bl mg) (d__law_cell : Dn K mg "_law_cell" s__law_cell ["_law_script", "_law_k"]) (d__law_turned : Dn K mg "_law_turned" s__law_turned ["_law_script", "_law_n"]) (d__law_parted : Dn K mg "_law_parted" s__law_parted ["_law_script", "_law_n", "_law_a", "_law_b"]) (d__law_ties : Dn K mg "_law_ties" s__law_ties ["_law_script", "_law_n"]) : FnOk P w K mg base CX0 3 d__law_ties.f d__law_ties.fd ["_law_script", "_law_n"] (spTies48 K) := by
  have G__law_cell : FnOk P w K mg base CX0 2 _ _ _ _ := (ok__law_cell B d__law_cell).mono (by decide)
  have G__law_turned : FnOk P w K mg base CX0 2 _ _ _ _ := ok__law_turned B d__law_cell d__law_turned
  have G__law_parted : FnOk P w K mg base CX0 2 _ _ _ _ := ok__law_parted B d__law_cell d__law_parted
  refine d__law_ties.F.ok sc__law_ties (fun vs H Q E h => ?_) (fun cdv A outer s H vs Q E hr h => ?_)
  · obtain ⟨a, ns, n, rfl, _⟩ := h
    rfl
  obtain ⟨a, ns, n, rfl, hS, h63, n10, q⟩ := h
  refine ⟨_, (pss_cons (ps_set (i := 2) sc__law_ties.nd rfl (Or.inl rfl) (pe_call G__law_turned hr rfl d__law_turned.m d__law_turned.F.kp d__law_turned.b .nil pass0 (pa_cons (pv 0) (pa_cons (pv 1) pa_nil))))
      (pss_cons (ps_setLC (i := 3) ["_law_k", "_law_n"] [none, some 1] sc__law_ties.nd rfl rfl (by kernel_rfl) rfl (pi_range1 rfl B.range (pa_cons (pv 1) pa_nil)) (fun _ _ _ _ _ => (pg_name (i := 0) (show (["_law_k", "_law_n"] : List Str).Nodup by decide +kernel) rfl (Or.inl rfl))) (fun _ _ _ _ _ => pts_nil) (fun _ _ _ _ _ => (pe_op op_repN (pe_lstN (pa_cons pe_bl pa_nil)) (pv 1))) (by rfl))
      (pss_cons (ps_for PassesOwn.never rfl (pi_range2 rfl B.range (pa_cons pe_int (pa_cons (pv 1) pa_nil))) (pg_name (i := 4) sc__law_ties.nd rfl (Or.inl rfl))
      (pss_cons (ps_set (i := 5) sc__law_ties.nd rfl (Or.inl rfl) (pe_call G__law_cell hr rfl d__law_cell.m d__law_cell.F.kp d__law_cell.b .nil pass0 (pa_cons (pv 0) (pa_cons (pe_op op_add pe_int (pv 4)) pa_nil))))
      (pss_one (ps_for PassesOwn.never rfl (pi_range1 rfl B.range (pa_cons (pe_ix (ix_listK (K := K) rfl) (pe_lstN (pa_cons pe_int (pa_cons pe_int (pa_cons pe_int (pa_cons pe_int (pa_cons pe_int (pa_cons pe_int pa_nil))))))) (pe_op op_mod (pv 5) pe_int) (fun _ _ => rfl)) pa_nil)) (pg_name (i := 6) sc__law_ties.nd rfl (Or.inl rfl))
      (pss_cons (ps_set (i := 7) sc__law_ties.nd rfl (Or.inl rfl) (pe_ix (ix_listK (K := K) rfl) (pv 2) (pe_op op_mod (pe_op op_add (pe_op op_mod (pe_op op_fdiv (pv 5) pe_int) pe_int) (pv 6)) (pv 4)) (fun _ _ => rfl)))
      (pss_one (ps_asg pe_bl (pg_sub (pe_ix (ix_listK (K := K) rfl) (pv 3) (pe_callB (call_min2 rfl) rfl B.min (by decide +kernel) (pa_cons (pe_ix (ix_listK (K := K) rfl) (pv 2) (pv 4) (fun _ _ => rfl)) (pa_cons (pv 7) pa_nil))) (fun _ _ => rfl)) (pe_callB (call_max2 rfl) rfl B.max (by decide +kernel) (pa_cons (pe_ix (ix_listK (K := K) rfl) (pv 2) (pv 4) (fun _ _ => rfl)) (pa_cons (pv 7) pa_nil))) set_listN))))))))
      (pss_cons (ps_set (i := 8) sc__law_ties.nd rfl (Or.inl rfl) (pe_ix (ix_listK (K := K) rfl) (pe_lstN (pa_cons pe_int (pa_cons pe_int (pa_cons pe_int pa_nil)))) (pe_op op_mod (pe_call G__law_cell hr rfl d__law_cell.m d__law_cell.F.kp d__law_cell.b .nil pass0 (pa_cons (pv 0) (pa_cons pe_int pa_nil))) pe_int) (fun _ _ => rfl)))
      (pss_cons (ps_set (i := 9) sc__law_ties.nd rfl (Or.inl rfl) (pe_lstN pa_nil))
      (pss_cons (ps_for PassesOwn.never rfl (pi_range1 rfl B.range (pa_cons (pv 1) pa_nil)) (pg_name (i := 10) sc__law_ties.nd rfl (Or.inl rfl))
      (pss_one (ps_for PassesOwn.never rfl (pi_range2 rfl B.range (pa_cons (pe_op op_add (pv 10) pe_int) (pa_cons (pv 1) pa_nil))) (pg_name (i := 11) sc__law_ties.nd rfl (Or.inl rfl))
      (pss_cons (ps_set (i := 12) sc__law_ties.nd rfl (Or.inl rfl) (pe_op op_mod (pe_op op_mul (pe_op op_add (pe_op op_add (pe_op op_mod (pe_call G__law_cell hr rfl d__law_cell.m d__law_cell.F.kp d__law_cell.b .nil pass0 (pa_cons (pv 0) (pa_cons (pe_op op_add (pe_op op_add pe_int (pe_op op_mul pe_int (pv 10))) (pv 11)) pa_nil))) pe_int) (pe_op op_mul pe_int (pv 10))) (pv 11)) pe_int) pe_int))
      (pss_one (ps_if (PW.pt (pw_and (PW.pt (pw_or (pt_truthK (K := K) rfl (pe_ix (ix_listK (K := K) rfl) (pe_ix (ix_listK (K := K) rfl) (pv 3) (pv 10) (fun _ _ => rfl)) (pv 11) (fun _ _ => rfl)) (fun _ => rfl)) (pw_or1 (pt_cmpR op_lt (pe_op op_mod (pe_op op_fdiv (pv 12) pe_int) pe_int) (pv 8) (nomark _))))) (pw_and1 (pt_not (pt_truthK (K := K) rfl (pe_call G__law_parted hr rfl d__law_parted.m d__law_parted.F.kp d__law_parted.b .nil pass0 (pa_cons (pv 0) (pa_cons (pv 1) (pa_cons (pv 10) (pa_cons (pv 11) pa_nil))))) (fun _ => rfl))))))
      (pss_one (ps_expr (pe_bmK (K := K) rfl PySem.F.plainAttrs_list PySem.F.slot_list_append PySem.F.type_list_append mt_appendN (pv 9) (pa_cons (pe_tupN (pa_cons (pv 10) (pa_cons (pv 11) pa_nil))) pa_nil))))
      pss_nil))))))
      (pss_one (ps_ret (pv 9))))))))), ?_⟩
  refine ⟨_, rfl, _, rfl, a, ns, n, rfl, hS, h63, n10, fun ro us H2 n2 pm => ?_⟩
  obtain ⟨os, eo, po, eu⟩ := perm_nat pm
  rw [eo] at n2
  have ln : os.length = n := by have := po.length_eq; simpa using this
  have osn : ∀ i, i < n → os.getD i 0 < n := fun i hi => by
    rw [List.getD_eq_getElem?_getD, List.getElem?_eq_getElem (by omega)]
    exact List.mem_range.mp (po.mem_iff.mp (List.getElem_mem _))
  refine ⟨_, rfl, _, rfl, by omega, by omega, ?_⟩
  rw [Int.toNat_natCast]
  refine lc_range (lo := 0) (n := n) (fun i ys G => Same H2 G ∧ ∃ qs : List Addr, ys = qs.map V.ref ∧ qs.length = i ∧ (∀ q ∈ qs, H2 q = none) ∧ TabL G qs n (fun _ _ => false)) ⟨Same.refl _, [], rfl, rfl, fun q h => absurd h List.not_mem_nil, ⟨.nil, fun j q e => by simp at e⟩⟩ (fun i ys G hi ⟨s, qs, e, l, _⟩ => ?_) (fun i ys G hi ⟨s, qs, e, l, fr, nl⟩ => ?_) ?_
  · rw [e, List.length_map, l]
    exact Nat.le_of_lt (small1000 (by omega))
  · refine ⟨(by show 1 ≤ 1000; decide), fun p6 H6 n6 => ?_⟩
    refine ⟨_, rfl, p6, _, _, rfl, rfl, n6.here, by omega, by omega, by rw [Int.toNat_natCast]; show 1 * n ≤ 1000; omega, fun p7 H7 n7 => ?_⟩
    rw [Int.toNat_natCast, rep_one, rowT_const] at n7
    have s7 : Same G H7 := n6.same.trans n7.same
    refine ⟨s.trans s7, qs ++ [p7], by rw [e, List.map_append]; rfl, by rw [List.length_append, l]; rfl, fun q hq => ?_, ?_, fun j q ej => ?_⟩
    · rcases List.mem_append.mp hq with hq | hq
      · exact fr q hq
      · rw [List.mem_singleton.mp hq]; exact s.free (n6.same.free n7.fresh)
    · refine List.nodup_append.mpr ⟨nl.nd, List.nodup_cons.mpr ⟨List.not_mem_nil, .nil⟩, fun x hx y hy z => ?_⟩
      rw [List.mem_singleton.mp hy] at z
      obtain ⟨j, hj, ej⟩ := List.getElem_of_mem hx
      have := nl.at_ j x (by rw [← ej]; exact List.getElem?_eq_getElem hj)
      have g := n7.fresh
      rw [← z, n6.same _ _ this] at g; cases g
    · by_cases c : j < qs.length
      · rw [List.getElem?_append_left c] at ej
        exact s7 _ _ (nl.at_ j q ej)
      · rw [List.getElem?_append_right (by omega)] at ej
        cases z : j - qs.length with
        | zero => rw [z] at ej; simp at ej; rw [← ej]; exact n7.here
        | succ k => rw [z] at ej; simp at ej
  rintro ys G0 ⟨s0, rs, rfl, lq, fq, tl0⟩ pn hfree
  obtain ⟨G, hnew⟩ : ∃ G, G = upd G0 pn (.lst (rs.map V.ref)) := ⟨_, rfl⟩
  have nG : New G0 pn (.lst (rs.map V.ref)) G := by rw [hnew]; exact New.mk0 hfree
  rw [← hnew]
  have sG : Same H2 G := s0.trans nG.same
  have pq : pn ∉ rs := fun hm => by
    obtain ⟨j, hj, ej⟩ := List.getElem_of_mem hm
    have := tl0.at_ j pn (by rw [← ej]; exact List.getElem?_eq_getElem hj)
    rw [nG.fresh] at this; cases this
  have fpn : H2 pn = none := s0.free hfree
  have qat : ∀ i, i < n → rs[i]? = some (rs.getD i 0) := fun i hi => by
    have : i < rs.length := by omega
    rw [List.getD_eq_getElem?_getD, List.getElem?_eq_getElem this]; rfl
  have qmem : ∀ i, i < n → rs.getD i 0 ∈ rs := fun i hi => List.mem_of_getElem? (qat i hi)
  have qref : ∀ i, i < n → atI (rs.map V.ref) (i : Int) = some (V.ref (rs.getD i 0)) := fun i hi => atI_nat (by rw [List.getElem?_map, qat i hi]; rfl)
  have s2 := n2.same
  refine ⟨_, rfl, _, _, rfl, ⟨by omega, by omega, by omega, by omega⟩, ?_⟩
  refine for_range (lo := 1) (n := _) (fun i σ H' => ∃ (kk cc jj oo : Option V) (T : Nat → Nat → Bool), σ = [some (.ref a), some (.int n), some (.ref ro), some (.ref pn), kk, cc, jj, oo, none, none, none, none, none] ∧ Same H2 H' ∧ H' pn = some (.lst (rs.map V.ref)) ∧ TabL H' rs n T) ⟨none, none, none, none, _, rfl, sG, nG.here, tl0.same fun q _ u e => nG.same _ _ e⟩ ?_ ?_
  · rintro i σ H3 hi ⟨kk, cc, jj, oo, T, rfl, s3, hpn3, tl3⟩
    have ei : (1 : Int) + (i : Int) = ((i + 1 : Nat) : Int) := by omega
    rw [ei]
    have i1 : i + 1 < n := by omega
    have hS3 : Scr K H3 a ns := (hS.same s2).same s3
    refine ⟨_, rfl, _, rfl, _, _, rfl, rfl, a, ns, _, rfl, hS3, h63, (by omega), (by omega), fun z => ?_⟩
    have w0 := Int.emod_nonneg z (show (6 : Int) ≠ 0 by decide)
    have w4 := Int.emod_lt_of_pos z (show (0 : Int) < 6 by decide)
    refine ⟨(by show 6 ≤ 1000; decide), fun p3 H3' n3 => ⟨_, rfl, _, _, rfl, rfl, (show (0 : Int) < _ by decide), ?_⟩⟩
    obtain ⟨c, hc, c4⟩ : ∃ c : Nat, atI [V.int 1, V.int 2, V.int 2, V.int 3, V.int 3, V.int 4] (z % 6) = some (.int (c : Int)) ∧ c ≤ 4 := by
      obtain ⟨d, ed⟩ : ∃ d : Nat, z % 6 = (d : Int) := ⟨(z % 6).toNat, by omega⟩
      rw [ed]
      have : d = 0 ∨ d = 1 ∨ d = 2 ∨ d = 3 ∨ d = 4 ∨ d = 5 := by omega
      rcases this with rfl | rfl | rfl | rfl | rfl | rfl
      · exact ⟨1, atI_nat rfl, by decide⟩
      · exact ⟨2, atI_nat rfl, by decide⟩
      · exact ⟨2, atI_nat rfl, by decide⟩
      · exact ⟨3, atI_nat rfl, by decide⟩
      · exact ⟨3, atI_nat rfl, by decide⟩
      · exact ⟨4, atI_nat rfl, by decide⟩
    have s3' := s3.trans n3.same
    have hpn3' := n3.same _ _ hpn3
    have tl3' : TabL H3' rs n T := tl3.same fun q _ u e => n3.same _ _ e
    refine ⟨p3, _, _, _, rfl, rfl, SqL.of n3.here, hc, _, rfl, by omega, by omega, ?_⟩
    rw [Int.toNat_natCast]
    refine for_range (n := c) (fun j σ H' => ∃ (jj oo : Option V) (T : Nat → Nat → Bool), σ = [some (.ref a), some (.int n), some (.ref ro), some (.ref pn), some (.int ((i + 1 : Nat) : Int)), some (.int z), jj, oo, none, none, none, none, none] ∧ Same H2 H' ∧ H' pn = some (.lst (rs.map V.ref)) ∧ TabL H' rs n T) ⟨jj, oo, T, rfl, s3', hpn3', tl3'⟩ ?_ ?_
    · rintro j σ H4 hj ⟨jj, oo, T, rfl, s4, hpn4, tl4⟩
      have hro4 : SqL K H4 ro (natV os) := SqL.of (s4 _ _ n2.here)
      refine ⟨_, rfl, _, rfl, _, _, rfl, rfl, ⟨by decide, by decide⟩, _, _, rfl, rfl, (show (0 : Int) < _ by decide), _, rfl, _, _, rfl, rfl, _, rfl, _, _, rfl, rfl, (show (0 : Int) < ((i + 1 : Nat) : Int) by omega), ?_⟩
      have y0 := Int.emod_nonneg (z / 6 % 997 + (0 + (j : Int))) (show ((i + 1 : Nat) : Int) ≠ 0 by omega)
      have y1 := Int.emod_lt_of_pos (z / 6 % 997 + (0 + (j : Int))) (show (0 : Int) < ((i + 1 : Nat) : Int) by omega)
      obtain ⟨y, ey⟩ : ∃ y : Nat, (z / 6 % 997 + (0 + (j : Int))) % ((i + 1 : Nat) : Int) = (y : Int) := ⟨((z / 6 % 997 + (0 + (j : Int))) % ((i + 1 : Nat) : Int)).toNat, by omega⟩
      have yn : y < n := by omega
      refine ⟨ro, _, _, V.int ((os.getD y 0 : Nat) : Int), rfl, rfl, hro4, (by rw [ey]; exact natV_at (show y < os.length by omega)), ?_⟩
      generalize hb : os.getD y 0 = b
      have bn : b < n := by rw [← hb]; exact osn y yn
      have ak : atI (natV os) ((i + 1 : Nat) : Int) = some (.int ((os.getD (i + 1) 0 : Nat) : Int)) := natV_at (show i + 1 < os.length by omega)
      generalize ha : os.getD (i + 1) 0 = a' at ak
      have an : a' < n := by rw [← ha]; exact osn (i + 1) i1
      have e1 : (if (b : Int) < (a' : Int) then (b : Int) else (a' : Int)) = ((min a' b : Nat) : Int) := by split <;> omega
      have e2 : (if (b : Int) > (a' : Int) then (b : Int) else (a' : Int)) = ((max a' b : Nat) : Int) := by split <;> omega
      have mn : min a' b < n := by omega
      have mx : max a' b < n := by omega
      refine ⟨_, rfl, _, rfl, _, rfl, ro, _, _, _, rfl, rfl, hro4, ak, _, rfl, _, _, rfl, pn, _, _, V.ref (rs.getD (min a' b) 0), rfl, rfl, SqL.of hpn4, (by rw [e1]; exact qref _ mn), _, rfl, _, rfl, ro, _, _, _, rfl, rfl, hro4, ak, _, rfl, _, _, rfl, rs.getD (min a' b) 0, _, _, max a' b, rfl, rfl, tl4.at_ _ _ (qat _ mn), (by rw [e2]; exact ixN_nat (by rw [rowT_len]; exact mx)), fun H5 c6 => ?_⟩
      exact ⟨_, _, _, rfl, s4.chg (fq _ (qmem _ mn)) c6, (c6.rest pn fun z => pq (by rw [z]; exact qmem _ mn)).trans hpn4, tl4.set (qat _ mn) c6⟩
    · rintro σ H4 ⟨jj, oo, T, rfl, s4, hpn4, tl4⟩
      exact ⟨_, _, jj, oo, T, rfl, s4, hpn4, tl4⟩
  rintro σ H3 ⟨kk, cc, jj, oo, T, rfl, s3, hpn3, tl3⟩
  refine ⟨(by show 3 ≤ 1000; decide), fun p4 H4 n4 => ?_⟩
  have s4 : Same H2 H4 := s3.trans n4.same
  refine ⟨_, rfl, a, ns, 1, rfl, (hS.same s2).same s4, h63, by decide, by decide, fun z => ⟨_, _, rfl, rfl, (show (0 : Int) < _ by decide), ?_⟩⟩
  have w0 := Int.emod_nonneg z (show (3 : Int) ≠ 0 by decide)
  have w3 := Int.emod_lt_of_pos z (show (0 : Int) < 3 by decide)
  obtain ⟨sh, hsh⟩ : ∃ lim : Int, atI [V.int 0, V.int 1, V.int 3] (z % 3) = some (.int lim) := by
    obtain ⟨c, ec⟩ : ∃ c : Nat, z % 3 = (c : Int) := ⟨(z % 3).toNat, by omega⟩
    rw [ec]
    have : c = 0 ∨ c = 1 ∨ c = 2 := by omega
    rcases this with rfl | rfl | rfl
    · exact ⟨_, atI_nat rfl⟩
    · exact ⟨_, atI_nat rfl⟩
    · exact ⟨_, atI_nat rfl⟩
  refine ⟨p4, _, _, V.int sh, rfl, rfl, SqL.of n4.here, hsh, ?_⟩
  refine ⟨(by show 0 ≤ 1000; decide), fun r H5 n5 => ?_⟩
  have s5 : Same H2 H5 := s4.trans n5.same
  have fr : H r = none := (s2.trans s4).free n5.fresh
  have s5' : Same H H5 := s2.trans s5
  have hpn5 : H5 pn = some (.lst (rs.map V.ref)) := n5.same _ _ (n4.same _ _ hpn3)
  have tl5 : TabL H5 rs n T := tl3.same fun q _ u e => n5.same _ _ (n4.same _ _ e)
  have nrp : pn ≠ r := n5.ne (n4.same _ _ hpn3)
  have nrq : ∀ x ∈ rs, x ≠ r := fun x hx => by
    obtain ⟨j, hj, ej⟩ := List.getElem_of_mem hx
    exact n5.ne (n4.same _ _ (tl3.at_ j x (by rw [← ej]; exact List.getElem?_eq_getElem hj)))
  refine ⟨_, rfl, _, rfl, by omega, by omega, ?_⟩
  rw [Int.toNat_natCast]
  refine for_range (n := n) (fun i σ H2 => ∃ (aa bb mm : Option V) (xs : List V) (ts : List (Int × Int)), σ = [some (.ref a), some (.int n), some (.ref ro), some (.ref pn), kk, cc, jj, oo, some (.int sh), some (.ref r), aa, bb, mm] ∧ Same H H2 ∧ H2 pn = some (.lst (rs.map V.ref)) ∧ TabL H2 rs n T ∧ H2 r = some (.lst xs) ∧ Paired (TieL H2) xs ts ∧ ts.length ≤ 10 * i ∧ (∀ t ∈ ts, 0 ≤ t.1 ∧ t.1 < t.2 ∧ t.2 < (n : Int)) ∧ ts.Nodup ∧ ∀ t ∈ ts, t.1 < (i : Int))
    ⟨none, none, none, [], [], rfl, s5', hpn5, tl5, n5.here, .nil, Nat.zero_le _, (fun t h => absurd h List.not_mem_nil), .nil, fun t h => absurd h List.not_mem_nil⟩ ?_ ?_
  · rintro i σ H6 hi ⟨aa, bb, mm, xs, ts, rfl, sm, hpn6, tl6, hr6, hp, hz, hw, nd, bd⟩
    have ei : (0 + (i : Int)) = ((i : Nat) : Int) := by omega
    rw [ei]
    refine ⟨_, rfl, _, _, rfl, rfl, _, rfl, _, _, rfl, ⟨by omega, by omega, by omega, by omega⟩, ?_⟩
    refine for_range (n := _) (fun j σ H3 => ∃ (bb mm : Option V) (xs : List V) (ts : List (Int × Int)), σ = [some (.ref a), some (.int n), some (.ref ro), some (.ref pn), kk, cc, jj, oo, some (.int sh), some (.ref r), some (.int (i : Int)), bb, mm] ∧ Same H H3 ∧ H3 pn = some (.lst (rs.map V.ref)) ∧ TabL H3 rs n T ∧ H3 r = some (.lst xs) ∧ Paired (TieL H3) xs ts ∧ ts.length ≤ 10 * i + j ∧ (∀ t ∈ ts, 0 ≤ t.1 ∧ t.1 < t.2 ∧ t.2 < (n : Int)) ∧ ts.Nodup ∧ ∀ t ∈ ts, t.1 < (i : Int) ∨ (t.1 = (i : Int) ∧ t.2 < ((i + 1 + j : Nat) : Int)))
      ⟨bb, mm, xs, ts, rfl, sm, hpn6, tl6, hr6, hp, by omega, hw, nd, fun t ht => .inl (bd t ht)⟩ ?_ ?_
    · rintro j σ H7 hj ⟨bb, mm, xs, ts, rfl, sm, hpn7, tl7, hr7, hp, hz, hw, nd, bd⟩
      have jn : i + 1 + j < n := by omega
      have ej : (i : Int) + 1 + (j : Int) = ((i + 1 + j : Nat) : Int) := by omega
      rw [ej]
      refine ⟨_, rfl, _, rfl, _, _, rfl, rfl, .inl ⟨by decide, by decide⟩, _, _, rfl, rfl, _, rfl, _, _, rfl, rfl, a, ns, _, rfl, hS.same sm, h63, (by omega), (by omega), fun z1 => ⟨_, _, rfl, rfl, (show (0 : Int) < _ by decide), _, rfl, _, _, rfl, rfl, .inl ⟨by decide, by decide⟩, _, _, rfl, rfl, _, rfl, _, _, rfl, rfl, _, _, rfl, rfl, .inr ⟨by decide, by decide⟩, _, _, rfl, rfl, (show (0 : Int) < _ by decide), ?_⟩⟩
      have hl : xs.length = ts.length := Paired.length hp
      have app : ∀ p8 H8, New H7 p8 (.tup [.int (i : Int), .int ((i + 1 + j : Nat) : Int)]) H8 → ∀ H9, Chg H8 r (.lst (xs ++ [.ref p8])) H9 → Same H H9 ∧ H9 pn = some (.lst (rs.map V.ref)) ∧ TabL H9 rs n T ∧ H9 r = some (.lst (xs ++ [.ref p8])) ∧ Paired (TieL H9) (xs ++ [.ref p8]) (ts ++ [((i : Int), ((i + 1 + j : Nat) : Int))]) ∧ (ts ++ [((i : Int), ((i + 1 + j : Nat) : Int))]).length ≤ 10 * i + (j + 1) ∧ (∀ t ∈ ts ++ [((i : Int), ((i + 1 + j : Nat) : Int))], 0 ≤ t.1 ∧ t.1 < t.2 ∧ t.2 < (n : Int)) ∧ (ts ++ [((i : Int), ((i + 1 + j : Nat) : Int))]).Nodup ∧ ∀ t ∈ ts ++ [((i : Int), ((i + 1 + j : Nat) : Int))], t.1 < (i : Int) ∨ (t.1 = (i : Int) ∧ t.2 < ((i + 1 + (j + 1) : Nat) : Int)) := fun p8 H8 n8 H9 c9 => by
        refine ⟨(sm.trans n8.same).chg fr c9, (c9.rest pn nrp).trans (n8.same _ _ hpn7), tl7.same fun q hq u e => (c9.rest q (nrq q hq)).trans (n8.same _ _ e), c9.here, ?_, ?_, fun t ht => ?_, ?_, fun t ht => ?_⟩
        · refine paired_snoc (Paired.mapP hp fun v t q => (q.same n8.same).chg (n8.same _ _ hr7) c9) ?_
          exact TieL.chg (n8.same _ _ hr7) c9 ⟨p8, rfl, n8.here⟩
        · rw [List.length_append]; show ts.length + 1 ≤ _; omega
        · rcases List.mem_append.mp ht with ht | ht
          · exact hw t ht
          · rw [List.mem_singleton.mp ht]
            exact ⟨by show (0 : Int) ≤ (i : Int); omega, by show (i : Int) < ((i + 1 + j : Nat) : Int); omega, by show ((i + 1 + j : Nat) : Int) < n; omega⟩
        · refine List.nodup_append.mpr ⟨nd, by simp, fun x hx y hy z => ?_⟩
          have b := bd x hx
          rw [z, List.mem_singleton.mp hy] at b
          dsimp only at b
          omega
        · rcases List.mem_append.mp ht with ht | ht
          · rcases bd t ht with b | b
            · exact .inl b
            · exact .inr ⟨b.1, by omega⟩
          · rw [List.mem_singleton.mp ht]
            exact .inr ⟨rfl, by show ((i + 1 + j : Nat) : Int) < _; omega⟩
      have bd' : ∀ t ∈ ts, t.1 < (i : Int) ∨ (t.1 = (i : Int) ∧ t.2 < ((i + 1 + (j + 1) : Nat) : Int)) := fun t ht => (bd t ht).elim .inl fun b => .inr ⟨b.1, by omega⟩
      unfold gName
      dsimp only
      refine if_andor (b1 := T i (i + 1 + j)) (fun Q h => ⟨_, rfl, _, rfl, pn, _, _, _, rfl, rfl, SqL.of hpn7, qref i hi, _, rfl, rs.getD i 0, _, _, _, rfl, rfl, SqL.of (tl7.at_ i _ (qat i hi)), rowT_at jn, _, rfl, h⟩) (fun Q h => ⟨_, rfl, _, _, rfl, rfl, ⟨by decide, by decide⟩, _, _, rfl, rfl, (show (0 : Int) < _ by decide), _, rfl, _, _, rfl, rfl, _, rfl, h _⟩) (fun Q h => ⟨_, rfl, _, rfl, _, rfl, _, rfl, a, ns, n, i, i + 1 + j, rfl, hS.same sm, h63, n10, by omega, by omega, fun b => ⟨_, rfl, h _⟩⟩) (fun b => ?_)
      cases b with
      | true =>
        refine iteT ?_
        refine ⟨_, rfl, .inl ⟨rfl, _, SqL.of hr7⟩, _, rfl, _, rfl, (by show 2 ≤ 1000; decide), fun p8 H8 n8 => ?_⟩
        refine ⟨r, _, _, rfl, rfl, n8.same _ _ hr7, by omega, fun H9 c9 => ?_⟩
        exact ⟨_, _, _, _, rfl, app p8 H8 n8 H9 c9⟩
      | false => exact iteF ⟨_, _, xs, ts, rfl, sm, hpn7, tl7, hr7, hp, by omega, hw, nd, bd'⟩
    · rintro σ H7 ⟨bb, mm, xs, ts, rfl, sm, hpn7, tl7, hr7, hp, hz, hw, nd, bd⟩
      exact ⟨_, bb, mm, xs, ts, rfl, sm, hpn7, tl7, hr7, hp, by omega, hw, nd, fun t ht => by have b := bd t ht; omega⟩
  · rintro σ H6 ⟨aa, bb, mm, xs, ts, rfl, sm, hpn6, tl6, hr6, hp, hz, hw, nd, bd⟩
    exact ⟨_, rfl, q r xs ts H6 sm fr hr6 hp hw (by omega) nd⟩
end

end K


namespace K
open PySem L2 Lw Bg
abbrev s__law_folds : Stmt := top 31
theorem sc__law_folds : FnScope ["_law_n", "_law_ties_here", "_law_near", "_law_a", "_law_b", "_law_left", "_law_slack", "_law_v", "_law_some", "_law_one", "_law_fresh"] ["_law_n", "_law_ties_here"] (defScope s__law_folds) := ⟨rfl, rfl, rfl, by decide +kernel, rfl, by decide +kernel, by decide +kernel⟩
/-- who is near whom, as lists -/
structure NrL (H : Hp) (pn : Addr) (n : Nat) (rs : List Addr) (N : Nat → List Int) : Prop where
  lst : H pn = some (.lst (rs.map V.ref))
  len : rs.length = n
  at_ : ∀ i, i < n → H (rs.getD i 0) = some (.lst ((N i).map V.int))
theorem NrL.ne {H : Hp} {pn : Addr} {n : Nat} {rs : List Addr} {N : Nat → List Int} (h : NrL H pn n rs N) {i : Nat} (hi : i < n) : rs.getD i 0 ≠ pn := fun e => by
  have h1 := h.at_ i hi
  rw [e, h.lst] at h1
  injection h1 with h1
  injection h1 with h1
  have l := h.len
  cases rs with
  | nil => rw [List.length_nil] at l; omega
  | cons a r =>
    cases hN : N i with
    | nil => rw [hN] at h1; cases h1
    | cons b s =>
      rw [hN, List.map_cons, List.map_cons] at h1
      injection h1 with h1 _
      cases h1
theorem NrL.same {H H' : Hp} {pn : Addr} {n : Nat} {rs : List Addr} {N : Nat → List Int} (h : NrL H pn n rs N) (s : Same H H') : NrL H' pn n rs N := ⟨s _ _ h.lst, h.len, fun i hi => s _ _ (h.at_ i hi)⟩
theorem NrL.ref {H : Hp} {pn : Addr} {n : Nat} {rs : List Addr} {N : Nat → List Int} (h : NrL H pn n rs N) {i : Nat} (hi : i < n) : atI (rs.map V.ref) (i : Int) = some (V.ref (rs.getD i 0)) := by
  have l := h.len
  refine atI_nat ?_
  rw [List.getElem?_map, List.getD_eq_getElem?_getD, List.getElem?_eq_getElem (by omega)]
  rfl
/-- what near lists tell of the places left -/
def NearP (n : Nat) (V : Int → Prop) (R : Int → Int → Prop) (N : Nat → List Int) : Prop := ∀ i : Nat, i < n → V (i : Int) → (N i).Nodup ∧ ∀ u, u ∈ N i ↔ V u ∧ u ≠ (i : Int) ∧ R (i : Int) u
def spFoldsL (K : PySem.W.Frag) : Sp := fun vs H Q _ => ∃ (n : Nat) (r : Addr) (xs : List V) (ts : List (Int × Int)), vs = [.int n, .ref r] ∧ H r = some (.lst xs) ∧ Paired (TieL H) xs ts ∧ (∀ t ∈ ts, 0 ≤ t.1 ∧ t.1 < t.2 ∧ t.2 < (n : Int)) ∧ ts.Nodup ∧ ts.length ≤ 100 ∧ n ≤ 10 ∧
  ∀ H' b, Same H H' → (b = true ↔ FoG n ts) → Q (.bl b) H'
def nearT (ts : List (Int × Int)) (i : Nat) : List Int := ts.flatMap fun t => if t.1 = (i : Int) then [t.2] else if t.2 = (i : Int) then [t.1] else []
theorem nearT_len (ts : List (Int × Int)) (i : Nat) : (nearT ts i).length ≤ ts.length := by
  induction ts with
  | nil => exact Nat.le_refl _
  | cons t r ih =>
    have e : nearT (t :: r) i = (if t.1 = (i : Int) then [t.2] else if t.2 = (i : Int) then [t.1] else []) ++ nearT r i := by unfold nearT; rw [List.flatMap_cons]
    rw [e, List.length_append, List.length_cons]
    split
    · show 1 + _ ≤ _; omega
    · split
      · show 1 + _ ≤ _; omega
      · show 0 + _ ≤ _; omega
theorem nearT_snoc (ts : List (Int × Int)) (t : Int × Int) (i : Nat) : nearT (ts ++ [t]) i = nearT ts i ++ (if t.1 = (i : Int) then [t.2] else if t.2 = (i : Int) then [t.1] else []) := by
  unfold nearT
  rw [List.flatMap_append, List.flatMap_cons, List.flatMap_nil, List.append_nil]
theorem mem_nearT {ts : List (Int × Int)} {i : Nat} (ok : ∀ t ∈ ts, t.1 < t.2) {u : Int} : u ∈ nearT ts i ↔ Adj ts (i : Int) u := by
  unfold nearT Adj
  rw [List.mem_flatMap]
  constructor
  · rintro ⟨t, ht, h⟩
    split at h
    · rename_i c
      rw [List.mem_singleton.mp h, ← c]; exact .inl ht
    · split at h
      · rename_i c
        rw [List.mem_singleton.mp h, ← c]; exact .inr ht
      · exact absurd h List.not_mem_nil
  · rintro (h | h)
    · exact ⟨_, h, by rw [if_pos rfl]; exact List.mem_cons_self⟩
    · refine ⟨_, h, ?_⟩
      have := ok _ h
      rw [if_neg (by intro z; dsimp only at this z; omega), if_pos rfl]
      exact List.mem_cons_self
theorem nearT_nodup {i : Nat} : ∀ {ts : List (Int × Int)}, ts.Nodup → (∀ t ∈ ts, t.1 < t.2) → (nearT ts i).Nodup
  | [], _, _ => .nil
  | t :: r, nd, ok => by
    obtain ⟨n1, n2⟩ := List.nodup_cons.mp nd
    have ok' : ∀ t ∈ r, t.1 < t.2 := fun x hx => ok x (List.mem_cons_of_mem _ hx)
    have ih := nearT_nodup (i := i) n2 ok'
    have ot := ok t List.mem_cons_self
    have e : nearT (t :: r) i = (if t.1 = (i : Int) then [t.2] else if t.2 = (i : Int) then [t.1] else []) ++ nearT r i := by unfold nearT; rw [List.flatMap_cons]
    rw [e]
    split
    · rename_i c
      refine List.nodup_cons.mpr ⟨fun z => ?_, ih⟩
      rcases (mem_nearT ok').mp z with h | h
      · exact n1 (by rw [show t = ((i : Int), t.2) from Prod.ext c rfl]; exact h)
      · have := ok' _ h
        dsimp only at this
        omega
    · split
      · rename_i c
        refine List.nodup_cons.mpr ⟨fun z => ?_, ih⟩
        rcases (mem_nearT ok').mp z with h | h
        · have := ok' _ h
          dsimp only at this
          omega
        · exact n1 (by rw [show t = (t.1, (i : Int)) from Prod.ext rfl c]; exact h)
      · exact ih
/-- near lists behind a place is gone -/
def nearO (N : Nat → List Int) (v : Nat) (i : Nat) : List Int := (N i ++ (N v).filter fun u => !decide (u ∈ N i)).filter fun u => decide (u ≠ (i : Int)) && decide (u ≠ (v : Int))
theorem nearO_ok {n : Nat} {V : Int → Prop} {R : Int → Int → Prop} {N : Nat → List Int} {v : Nat} (vn : v < n) (bd : ∀ x, V x → 0 ≤ x ∧ x < (n : Int)) (sym : ∀ x y, R x y → R y x) (h : NearP n V R N) (hv : V (v : Int)) : NearP n (Wo V (v : Int)) (El R (v : Int)) (fun i => if (i : Int) ∈ N v then nearO N v i else N i) := by
  intro i hi ⟨hVi, iv⟩
  obtain ⟨nd, mem⟩ := h i hi hVi
  obtain ⟨ndv, memv⟩ := h v vn hv
  dsimp only
  by_cases c : (i : Int) ∈ N v
  · rw [if_pos c]
    have Riv : R (i : Int) (v : Int) := sym _ _ ((memv _).mp c).2.2
    unfold nearO
    refine ⟨(List.nodup_append.mpr ⟨nd, ndv.sublist List.filter_sublist, fun a ha b hb z => ?_⟩).sublist List.filter_sublist, fun u => ?_⟩
    · have := (List.mem_filter.mp hb).2
      rw [← z] at this
      simp at this
      exact this ha
    · rw [List.mem_filter, List.mem_append, List.mem_filter, Bool.and_eq_true, decide_eq_true_iff, decide_eq_true_iff]
      constructor
      · rintro ⟨h1 | ⟨h1, _⟩, h2, h3⟩
        · have h1 := (mem u).mp h1
          exact ⟨⟨h1.1, h3⟩, h2, .inl h1.2.2⟩
        · have h1 := (memv u).mp h1
          exact ⟨⟨h1.1, h3⟩, h2, .inr ⟨Riv, h1.2.2⟩⟩
      · rintro ⟨⟨h1, h2⟩, h3, h4⟩
        by_cases d : u ∈ N i
        · exact ⟨.inl d, h3, h2⟩
        · rcases h4 with h4 | ⟨_, h4⟩
          · exact absurd ((mem u).mpr ⟨h1, h3, h4⟩) d
          · exact ⟨.inr ⟨(memv u).mpr ⟨h1, h2, h4⟩, by simpa using d⟩, h3, h2⟩
  · rw [if_neg c]
    have nR : ¬ R (i : Int) (v : Int) := fun z => c ((memv _).mpr ⟨hVi, iv, sym _ _ z⟩)
    refine ⟨nd, fun u => ?_⟩
    rw [mem]
    constructor
    · rintro ⟨h1, h2, h3⟩
      exact ⟨⟨h1, fun z => nR (z ▸ h3)⟩, h2, .inl h3⟩
    · rintro ⟨⟨h1, _⟩, h2, h3⟩
      exact ⟨h1, h2, h3.resolve_right fun z => nR z.1⟩
theorem few_near {n : Nat} {V : Int → Prop} {R : Int → Int → Prop} {N : Nat → List Int} {v : Nat} (vn : v < n) (h : NearP n V R N) (hv : V (v : Int)) (l : (N v).length < 3) : Few V R (v : Int) := fun U nd hU => by
  have := pigN (U := N v) nd fun u hu => ((h v vn hv).2 u).mpr (hU u hu)
  omega
theorem near_few {n : Nat} {V : Int → Prop} {R : Int → Int → Prop} {N : Nat → List Int} {v : Nat} (vn : v < n) (h : NearP n V R N) (hv : V (v : Int)) (few : Few V R (v : Int)) : (N v).length < 3 := by
  have := few (N v) (h v vn hv).1 fun u hu => ((h v vn hv).2 u).mp hu
  omega
def slackF (N : Nat → List Int) (L : List Int) : List Int := L.filter fun v => decide ((N v.toNat).length < 3)
theorem if_var {b : Bool} {A A' B : Prop} (h : if b = true then A else B) (f : A → A') : if b = true then A' else B := by
  cases b with
  | true => exact iteT (f h)
  | false => exact iteF h
theorem neI (y o : Int) : (!decide (V.int y = V.int o)) = decide (y ≠ o) := by
  by_cases c : y = o
  · rw [c]; simp
  · rw [decide_eq_false (fun z => c (by injection z)), decide_eq_true c]; rfl
theorem and_pure {ta tb : TT} {σ : St} {H : Hp} {b1 b2 : Bool} {Q : Bool → Hp → Prop} (h1 : ∀ Q : Bool → Hp → Prop, Q b1 H → ta σ H Q) (h2 : ∀ Q : Bool → Hp → Prop, Q b2 H → tb σ H Q) (h : Q (b1 && b2) H) : tAnd ta tb σ H Q := by
  refine h1 _ ?_
  cases b1 with
  | true => exact iteT (h2 _ h)
  | false => exact iteF h
theorem NrL.neI {H : Hp} {pn p : Addr} {n : Nat} {rs : List Addr} {N : Nat → List Int} (h : NrL H pn n rs N) {l : List Int} (n0 : 0 < n) (hp : H p = some (.lst (l.map V.int))) : p ≠ pn := fun e => by
  rw [e, h.lst] at hp
  injection hp with h1
  injection h1 with h1
  have ll := h.len
  cases rs with
  | nil => rw [List.length_nil] at ll; omega
  | cons a r =>
    cases l with
    | nil => cases h1
    | cons b s =>
      rw [List.map_cons, List.map_cons] at h1
      injection h1 with h1 _
      cases h1
theorem lc_slack {K : PySem.W.Frag} {a pn : Addr} {L : List Int} {n : Nat} {rs : List Addr} {N : Nat → List Int} {ix : List (Option Nat)} {g : TG} {tt : TT} {te : TE} {σ : St} {H : Hp} {Q : VK} (hx : H a = some (.lst (L.map V.int))) (hL : ∀ x ∈ L, 0 ≤ x ∧ x < (n : Int)) (l10 : L.length ≤ 10) (NL : NrL H pn n rs N)
    (hs : ∀ (v : Nat) (M : V → Hp → Prop) (R : Hp → Prop) (H1 : Hp), v < n → NrL H1 pn n rs N → (∀ b : Bool, b = decide ((N v).length < 3) → if b = true then M (.int (v : Int)) H1 else R H1) → g (.int (v : Int)) (capt ix σ) H1 fun σ2 H2 => tt σ2 H2 fun b H3 => if b = true then te σ2 H3 fun x H4 => M x H4 else R H3)
    (hd : ∀ p H1 H', Same H H1 → New H1 p (.lst ((slackF N L).map V.int)) H' → Q (.ref p) H') : LcGoal ix g tt te σ H Q (Itl K a) := by
  refine lc_list (K := K) (a := a) (xs := L.map V.int) (fun i ys H' => H' = H ∧ ys = (slackF N (L.take i)).map V.int) ⟨rfl, rfl⟩ (fun i ys H' hi ⟨e, e2⟩ => ⟨e ▸ SqL.of hx, ?_⟩) (fun i x ys H3 hx3 ⟨e3, e4⟩ => ?_) (fun ys H3 ⟨e3, e4⟩ p4 hp4 => ?_)
  · rw [e2, List.length_map]
    have := List.length_filter_le (fun v => decide ((N v.toNat).length < 3)) (L.take i)
    rw [List.length_take] at this
    unfold slackF
    exact Nat.le_of_lt (small1000 (by omega))
  · subst e3
    rw [List.getElem?_map] at hx3
    obtain ⟨v, hv, rfl⟩ := Option.map_eq_some_iff.mp hx3
    have vb := hL v (List.mem_of_getElem? hv)
    obtain ⟨k, rfl⟩ : ∃ k : Nat, v = (k : Int) := ⟨v.toNat, by omega⟩
    refine hs k (fun x H4 => H4 = H3 ∧ ys ++ [x] = (slackF N (L.take (i + 1))).map V.int) (fun H4 => H4 = H3 ∧ ys = (slackF N (L.take (i + 1))).map V.int) H3 (by omega) NL fun b hb => ?_
    have et : slackF N (L.take (i + 1)) = slackF N (L.take i) ++ (if b = true then [(k : Int)] else []) := by
      unfold slackF
      rw [List.take_succ, hv, List.filter_append]
      congr 1
      show List.filter _ [(k : Int)] = _
      rw [List.filter_cons, hb, Int.toNat_natCast]
      split <;> rfl
    rw [et, e4]
    cases b with
    | true => exact ⟨rfl, by rw [List.map_append]; rfl⟩
    | false => exact ⟨rfl, by rw [if_neg Bool.false_ne_true, List.append_nil]⟩
  · subst e3
    rw [e4, List.length_map, List.take_length]
    exact hd _ _ _ (Same.refl _) (New.mk0 hp4)
section
variable {P : Program} {w : World} {K : PySem.W.Frag} {mg : Str → Option Value} {base : Heap}
set_option maxHeartbeats 16000000 in
theorem ok__law_folds (B : Bl mg) (d__law_folds : Dn K mg "_law_folds" s__law_folds ["_law_n", "_law_ties_here"]) : FnOk P w K mg base CX0 1 d__law_folds.f d__law_folds.fd ["_law_n", "_law_ties_here"] (spFoldsL K) := by
  refine d__law_folds.F.ok sc__law_folds (fun vs H Q E h => ?_) (fun cdv A outer s H vs Q E hr h => ?_)
  · obtain ⟨n, r, xs, ts, rfl, _⟩ := h
    rfl
  obtain ⟨n, r, xs, ts, rfl, hR, pR, okt, ndt, l100, n10, q⟩ := h
  have hv : (A.deeper (PyProof.Rows.envOfC "_law_folds" (defScope s__law_folds) s.heap.objs.size d__law_folds.f cdv)).units + 65 < cLine := by have := hr.un; omega
  have okt' : ∀ t ∈ ts, t.1 < t.2 := fun t ht => (okt t ht).2.1
  refine ⟨_, (pss_cons (ps_set (i := 2) sc__law_folds.nd rfl (Or.inr rfl) (pe_lc ["_law_k"] [none]  (by kernel_rfl) rfl (pi_range1 rfl B.range (pa_cons (pv 0) pa_nil)) (fun _ _ _ _ _ => (pg_name (i := 0) (show (["_law_k"] : List Str).Nodup by decide +kernel) rfl (Or.inl rfl))) (fun _ _ _ _ _ => pts_nil) (fun _ _ _ _ _ => (pe_lstN pa_nil))))
      (pss_cons (ps_for PassesOwn.never rfl (pi_listK (K := K) rfl (pv 1)) (pg_tupK (K := K) (n := 2) rfl rfl (pgs_cons (pg_name (i := 3) sc__law_folds.nd rfl (Or.inl rfl)) (pgs_cons (pg_name (i := 4) sc__law_folds.nd rfl (Or.inl rfl)) pgs_nil)))
      (pss_cons (ps_expr (pe_bmK (K := K) rfl PySem.F.plainAttrs_list PySem.F.slot_list_append PySem.F.type_list_append mt_appendN (pe_ix (ix_listK (K := K) rfl) (pv 2) (pv 3) (fun _ _ => rfl)) (pa_cons (pv 4) pa_nil)))
      (pss_one (ps_expr (pe_bmK (K := K) rfl PySem.F.plainAttrs_list PySem.F.slot_list_append PySem.F.type_list_append mt_appendN (pe_ix (ix_listK (K := K) rfl) (pv 2) (pv 4) (fun _ _ => rfl)) (pa_cons (pv 3) pa_nil))))))
      (pss_cons (ps_set (i := 5) sc__law_folds.nd rfl (Or.inl rfl) (pe_listR rfl B.list B.range (pa_cons (pv 0) pa_nil)))
      (pss_cons (ps_setLC (i := 6) ["_law_v", "_law_near"] [none, some 2] sc__law_folds.nd rfl rfl (by kernel_rfl) rfl (pi_listK (K := K) rfl (pv 5)) (fun _ _ _ _ _ => (pg_name (i := 0) (show (["_law_v", "_law_near"] : List Str).Nodup by decide +kernel) rfl (Or.inl rfl))) (fun _ _ _ _ _ => (pts_one (pt_cmpR op_lt (pe_callB (call_lenK (K := K) rfl) rfl B.len (by decide +kernel) (pa_cons (pe_ix (ix_listK (K := K) rfl) (pv 1) (pv 0) (fun _ _ => rfl)) pa_nil)) pe_int (nomark _)))) (fun _ _ _ _ _ => (pv 0)) (by rfl))
      (pss_cons (ps_while PassesOwn.never (pt_cmpR op_gt (pe_callB (call_lenK (K := K) rfl) rfl B.len (by decide +kernel) (pa_cons (pv 6) pa_nil)) pe_int (nomark _))
      (pss_cons (ps_set (i := 7) sc__law_folds.nd rfl (Or.inr rfl) (pe_ix (ix_listK (K := K) rfl) (pv 6) (pe_un un_neg pe_int) (fun _ _ => rfl)))
      (pss_cons (ps_set (i := 8) sc__law_folds.nd rfl (Or.inl rfl) (pe_callTy (call_listN (K := K) rfl) rfl B.list (by decide +kernel) (pa_cons (pe_ix (ix_listK (K := K) rfl) (pv 2) (pv 7) (fun _ _ => rfl)) pa_nil)))
      (pss_cons (ps_for PassesOwn.never rfl (pi_listK (K := K) rfl (pv 8)) (pg_name (i := 9) sc__law_folds.nd rfl (Or.inr rfl))
      (pss_cons (ps_set (i := 10) sc__law_folds.nd rfl (Or.inl rfl) (pe_op op_catN (pe_ix (ix_listK (K := K) rfl) (pv 2) (pv 9) (fun _ _ => rfl)) (pe_lc ["_law_u", "_law_near", "_law_one"] [none, some 2, some 9]  (by kernel_rfl) rfl (pi_listK (K := K) rfl (pv 8)) (fun _ _ _ _ _ => (pg_name (i := 0) (show (["_law_u", "_law_near", "_law_one"] : List Str).Nodup by decide +kernel) rfl (Or.inl rfl))) (fun _ _ _ _ _ => (pts_one (pt_cmpR (op_notInDK (K := K) rfl hv) (pv 0) (pe_ix (ix_listK (K := K) rfl) (pv 1) (pv 2) (fun _ _ => rfl)) (by with_unfolding_all rfl)))) (fun _ _ _ _ _ => (pv 0)))))
      (pss_one (ps_asg (pe_lc ["_law_u", "_law_one", "_law_v"] [none, some 9, some 7]  (by kernel_rfl) rfl (pi_listK (K := K) rfl (pv 10)) (fun _ _ _ _ _ => (pg_name (i := 0) (show (["_law_u", "_law_one", "_law_v"] : List Str).Nodup by decide +kernel) rfl (Or.inl rfl))) (fun _ _ _ _ _ => (pts_one (PW.pt (pw_and (pt_cmpR op_ne (pv 0) (pv 1) (nomark _)) (pw_and1 (pt_cmpR op_ne (pv 0) (pv 2) (nomark _))))))) (fun _ _ _ _ _ => (pv 0))) (pg_sub (pv 2) (pv 9) set_listN)))))
      (pss_cons (ps_setLC (i := 5) ["_law_u", "_law_v"] [none, some 7] sc__law_folds.nd rfl rfl (by kernel_rfl) rfl (pi_listK (K := K) rfl (pv 5)) (fun _ _ _ _ _ => (pg_name (i := 0) (show (["_law_u", "_law_v"] : List Str).Nodup by decide +kernel) rfl (Or.inl rfl))) (fun _ _ _ _ _ => (pts_one (pt_cmpR op_ne (pv 0) (pv 1) (nomark _)))) (fun _ _ _ _ _ => (pv 0)) (by rfl))
      (pss_one (ps_setLC (i := 6) ["_law_u", "_law_near"] [none, some 2] sc__law_folds.nd rfl rfl (by kernel_rfl) rfl (pi_listK (K := K) rfl (pv 5)) (fun _ _ _ _ _ => (pg_name (i := 0) (show (["_law_u", "_law_near"] : List Str).Nodup by decide +kernel) rfl (Or.inl rfl))) (fun _ _ _ _ _ => (pts_one (pt_cmpR op_lt (pe_callB (call_lenK (K := K) rfl) rfl B.len (by decide +kernel) (pa_cons (pe_ix (ix_listK (K := K) rfl) (pv 1) (pv 0) (fun _ _ => rfl)) pa_nil)) pe_int (nomark _)))) (fun _ _ _ _ _ => (pv 0)) (by rfl))))))))
      (pss_one (ps_ret (pe_cmpR op_eq (pe_callB (call_lenK (K := K) rfl) rfl B.len (by decide +kernel) (pa_cons (pv 5) pa_nil)) pe_int (nomark _))))))))), ?_⟩
  refine ⟨_, rfl, _, rfl, by omega, by omega, ?_⟩
  rw [Int.toNat_natCast]
  refine lc_range (lo := 0) (n := n) (fun i ys G => Same H G ∧ ∃ qs : List Addr, ys = qs.map V.ref ∧ qs.length = i ∧ qs.Nodup ∧ ∀ q ∈ qs, H q = none ∧ G q = some (.lst [])) ⟨Same.refl _, [], rfl, rfl, .nil, fun q h => absurd h List.not_mem_nil⟩ (fun i ys G hi ⟨s, qs, e, l, _⟩ => ?_) (fun i ys G hi ⟨s, qs, e, l, nd, at_⟩ => ?_) ?_
  · rw [e, List.length_map, l]
    exact Nat.le_of_lt (small1000 (by omega))
  · refine ⟨(by show 0 ≤ 1000; decide), fun p6 H6 n6 => ?_⟩
    refine ⟨s.trans n6.same, qs ++ [p6], by rw [e, List.map_append]; rfl, by rw [List.length_append, l]; rfl, List.nodup_append.mpr ⟨nd, by simp, fun x hx y hy z => ?_⟩, fun q hq => ?_⟩
    · rw [List.mem_singleton.mp hy] at z
      have := (at_ x hx).2
      rw [z, n6.fresh] at this; cases this
    · rcases List.mem_append.mp hq with hq | hq
      · exact ⟨(at_ q hq).1, n6.same _ _ (at_ q hq).2⟩
      · rw [List.mem_singleton.mp hq]; exact ⟨s.free n6.fresh, n6.here⟩
  rintro ys G0 ⟨s0, rs, rfl, lr, ndr, at0⟩ pn hfree
  have nG : New G0 pn (.lst (rs.map V.ref)) (upd G0 pn (.lst (rs.map V.ref))) := New.mk0 hfree
  generalize upd G0 pn (.lst (rs.map V.ref)) = G at nG ⊢
  have sG : Same H G := s0.trans nG.same
  have fpn : H pn = none := s0.free hfree
  have qat : ∀ i, i < n → rs[i]? = some (rs.getD i 0) := fun i hi => by
    rw [List.getD_eq_getElem?_getD, List.getElem?_eq_getElem (by omega)]; rfl
  have frs : ∀ i, i < n → H (rs.getD i 0) = none := fun i hi => (at0 _ (List.mem_of_getElem? (qat i hi))).1
  have NL0 : NrL G pn n rs (nearT []) := ⟨nG.here, lr, fun i hi => nG.same _ _ (at0 _ (List.mem_of_getElem? (qat i hi))).2⟩
  refine ⟨_, rfl, r, rfl, ⟨_, SqL.of (sG _ _ hR)⟩, ?_⟩
  refine for_list (xs := xs) (fun j σ H' => (∃ v3 v4 : Option V, σ = [some (.int n), some (.ref r), some (.ref pn), v3, v4, none, none, none, none, none, none]) ∧ Same H H' ∧ NrL H' pn n rs (nearT (ts.take j))) ⟨⟨_, _, rfl⟩, sG, NL0⟩ (fun j σ H' _ ⟨_, s', _⟩ => SqL.of (s' _ _ hR)) ?_ ?_
  · rintro j x σ H1 hx ⟨⟨v3, v4, rfl⟩, s1, NL⟩
    obtain ⟨t, ht, ⟨pt, ept, htp⟩⟩ := paired_get pR hx
    subst ept
    have tm := List.mem_of_getElem? ht
    have et : ts.take (j + 1) = ts.take j ++ [t] := by rw [List.take_succ, ht]; rfl
    obtain ⟨o1, o2, o3⟩ := okt t tm
    obtain ⟨ta, eta⟩ : ∃ ta : Nat, t.1 = (ta : Int) := ⟨t.1.toNat, by omega⟩
    obtain ⟨tb, etb⟩ : ∃ tb : Nat, t.2 = (tb : Int) := ⟨t.2.toNat, by omega⟩
    have an : ta < n := by omega
    have bn : tb < n := by omega
    have nab : ta ≠ tb := by omega
    refine ⟨pt, _, rfl, SqT.of (s1 _ _ htp), rfl, _, _, rfl, _, _, rfl, rfl, ?_⟩
    rw [eta, etb]
    have lN : ∀ i, (nearT (ts.take j) i).length ≤ 100 := fun i => Nat.le_trans (nearT_len _ i) (by rw [List.length_take]; omega)
    refine ⟨_, rfl, _, rfl, pn, _, _, _, rfl, rfl, SqL.of NL.lst, NL.ref an, .inl ⟨rfl, _, SqL.of (NL.at_ ta an)⟩, _, rfl, rs.getD ta 0, _, _, rfl, rfl, NL.at_ ta an, (by rw [List.length_map]; have := lN ta; omega), fun H2 c2 => ?_⟩
    have inj : ∀ i k, i < n → k < n → rs.getD i 0 = rs.getD k 0 → i = k := fun i k hi hk e => by
      have h1 := qat i hi
      have h2 := qat k hk
      rw [e] at h1
      exact (List.getElem?_inj (show i < rs.length by omega) ndr).mp (h1.trans h2.symm)
    have NL2 : NrL H2 pn n rs (fun i => if i = ta then nearT (ts.take j) ta ++ [(tb : Int)] else nearT (ts.take j) i) := by
      refine ⟨(c2.rest pn (Ne.symm (NL.ne an))).trans NL.lst, NL.len, fun i hi => ?_⟩
      by_cases c : i = ta
      · rw [if_pos c, c, c2.here, List.map_append]; rfl
      · rw [if_neg c]
        exact (c2.rest _ fun z => c (inj i ta hi an z)).trans (NL.at_ i hi)
    have hb2 := NL2.at_ tb bn
    rw [if_neg (Ne.symm nab)] at hb2
    refine ⟨_, rfl, _, rfl, pn, _, _, _, rfl, rfl, SqL.of NL2.lst, NL2.ref bn, .inl ⟨rfl, _, SqL.of hb2⟩, _, rfl, rs.getD tb 0, _, _, rfl, rfl, hb2, (by rw [List.length_map]; have := lN tb; omega), fun H3 c3 => ?_⟩
    refine ⟨⟨_, _, rfl⟩, (s1.chg (frs ta an) c2).chg (frs tb bn) c3, (c3.rest pn (Ne.symm (NL2.ne bn))).trans NL2.lst, NL2.len, fun i hi => ?_⟩
    rw [et, nearT_snoc, eta, etb]
    by_cases c : i = tb
    · subst c
      rw [if_neg (by omega), if_pos rfl, c3.here, List.map_append]; rfl
    · have := NL2.at_ i hi
      rw [(c3.rest _ fun z => c (inj i tb hi bn z)).trans this]
      by_cases d : i = ta
      · subst d
        rw [if_pos rfl, if_pos rfl]
      · rw [if_neg d, if_neg (by omega), if_neg (by omega), List.append_nil]
  rintro σ H1 ⟨⟨v3, v4, rfl⟩, s1, NL⟩
  have lx := Paired.length pR
  rw [lx, List.take_length] at NL
  dsimp only
  have NP : NearP n (fun x : Int => 0 ≤ x ∧ x < (n : Int)) (Adj ts) (nearT ts) := fun i hi _ => by
    refine ⟨nearT_nodup ndt okt', fun u => ?_⟩
    rw [mem_nearT okt']
    constructor
    · intro h
      rcases id h with z | z
      · have := okt _ z
        dsimp only at this
        exact ⟨by omega, by omega, h⟩
      · have := okt _ z
        dsimp only at this
        exact ⟨by omega, by omega, h⟩
    · exact fun h => h.2.2
  refine ⟨_, rfl, n, rfl, (by omega), fun pl H2 n2 => ?_⟩
  have eL : (List.range n).map (fun i => V.int ((i : Nat) : Int)) = (rng n).map V.int := by rw [List.map_map]; rfl
  rw [eL] at n2
  have NL2 := NL.same n2.same
  have bR : ∀ x ∈ rng n, 0 ≤ x ∧ x < (n : Int) := fun x hx => mem_rng.mp hx
  have lR : (rng n).length ≤ 10 := by rw [List.length_map, List.length_range]; exact n10
  refine ⟨_, rfl, pl, rfl, ⟨_, SqL.of n2.here⟩, ?_⟩
  refine lc_slack n2.here bR lR NL2 (fun v M R H3 vn NL3 h => ⟨_, rfl, _, rfl, pn, _, _, _, rfl, rfl, SqL.of NL3.lst, NL3.ref vn, rs.getD v 0, _, rfl, .inl (SqL.of (NL3.at_ v vn)), _, _, rfl, rfl, _, rfl, ?_⟩) (fun ps H3 H4 s3 n4 => ?_)
  · have e : decide ((((((nearT ts v).map V.int).length : Nat) : Int)) < 3) = decide ((nearT ts v).length < 3) := by
      rw [List.length_map]
      exact decide_eq_decide.mpr ⟨fun z => by omega, fun z => by omega⟩
    have h' := h _ e
    revert h'
    generalize decide ((((((nearT ts v).map V.int).length : Nat) : Int)) < 3) = b
    intro h'
    cases b with
    | true => exact iteT ⟨_, rfl, h'⟩
    | false => exact iteF h'
  have s24 := s3.trans n4.same
  have s14 := n2.same.trans s24
  refine ⟨fun m σ H' => ∃ (pl ps : Addr) (L : List Int) (rs : List Addr) (N : Nat → List Int) (W : Int → Prop) (R : Int → Int → Prop) (v7 v8 v9 v10 : Option V), σ = [some (.int n), some (.ref r), some (.ref pn), v3, v4, some (.ref pl), some (.ref ps), v7, v8, v9, v10] ∧ Same H H' ∧ H' pl = some (.lst (L.map V.int)) ∧ H' ps = some (.lst ((slackF N L).map V.int)) ∧ NrL H' pn n rs N ∧ L.Nodup ∧ (∀ x, x ∈ L ↔ W x) ∧ (∀ x ∈ L, 0 ≤ x ∧ x < (n : Int)) ∧ (∀ x y, R x y → R y x) ∧ NearP n W R N ∧ (Fo W R ↔ FoG n ts) ∧ m = L.length, ⟨_, pl, ps, rng n, rs, nearT ts, _, Adj ts, none, none, none, none, rfl, s1.trans s14, s24 _ _ n2.here, n4.here, NL.same s14, nodup_rng n, (fun x => mem_rng), bR, (fun x y h => h.symm), NP, Iff.rfl, rfl⟩, ?_⟩
  rintro m σ H5 ⟨pl, ps, L, rs, N, W, R, v7, v8, v9, v10, rfl, s5, hl, hs, NL, ndL, mem, bL, sym, NP, fo, em⟩
  have l10 : L.length ≤ 10 := bag10 n10 ndL bL
  refine ⟨_, rfl, ps, _, rfl, .inl (SqL.of hs), _, _, rfl, rfl, _, rfl, ite2 (fun c => ?_) (fun c => ?_)⟩
  · have c' : (0 : Int) < ((((slackF N L).map V.int).length : Nat) : Int) := of_decide_eq_true c
    rw [List.length_map] at c'
    have ne : slackF N L ≠ [] := fun z => by rw [z] at c'; exact absurd c' (by decide)
    obtain ⟨S0, v, eS⟩ : ∃ S0 v, slackF N L = S0 ++ [v] := ⟨_, _, (List.dropLast_concat_getLast ne).symm⟩
    have vS : v ∈ slackF N L := by rw [eS]; exact List.mem_append_right _ List.mem_cons_self
    have vS' := List.mem_filter.mp vS
    have vb := bL v vS'.1
    obtain ⟨k, rfl⟩ : ∃ k : Nat, v = (k : Int) := ⟨v.toNat, by omega⟩
    have kn : k < n := by omega
    have lk : (N k).length < 3 := by have := of_decide_eq_true vS'.2; rwa [Int.toNat_natCast] at this
    have Vk := (mem _).mp vS'.1
    have few := few_near kn NP Vk lk
    have lN : ∀ i : Nat, i < n → W (i : Int) → (N i).length ≤ 10 := fun i hi hV => bag10 n10 (NP i hi hV).1 fun u hu => bL u ((mem u).mpr (((NP i hi hV).2 u).mp hu).1)
    refine ⟨fun σ' H' => ∃ m', m' < m ∧ ∃ (pl ps : Addr) (L : List Int) (rs : List Addr) (N : Nat → List Int) (W : Int → Prop) (R : Int → Int → Prop) (v7 v8 v9 v10 : Option V), σ' = [some (.int n), some (.ref r), some (.ref pn), v3, v4, some (.ref pl), some (.ref ps), v7, v8, v9, v10] ∧ Same H H' ∧ H' pl = some (.lst (L.map V.int)) ∧ H' ps = some (.lst ((slackF N L).map V.int)) ∧ NrL H' pn n rs N ∧ L.Nodup ∧ (∀ x, x ∈ L ↔ W x) ∧ (∀ x ∈ L, 0 ≤ x ∧ x < (n : Int)) ∧ (∀ x y, R x y → R y x) ∧ NearP n W R N ∧ (Fo W R ↔ FoG n ts) ∧ m' = L.length, fun _ _ h => h, ?_⟩
    refine ⟨_, rfl, _, rfl, ps, _, _, _, rfl, rfl, SqL.of hs, (show atI ((slackF N L).map V.int) (-1) = some (.int (k : Int)) by rw [eS, List.map_append]; exact atI_last _ _), ?_⟩
    refine ⟨_, rfl, _, rfl, pn, _, _, _, rfl, rfl, SqL.of NL.lst, NL.ref kn, rs.getD k 0, _, rfl, .inl (SqL.of (NL.at_ k kn)), fun p8 H8 n8 => ?_⟩
    have NL8 := NL.same n8.same
    refine ⟨_, rfl, p8, rfl, ⟨_, SqL.of n8.here⟩, ?_⟩
    refine for_list (xs := (N k).map V.int) (fun j σ H' => ∃ (rs : List Addr) (v9 v10 : Option V), σ = [some (.int n), some (.ref r), some (.ref pn), v3, v4, some (.ref pl), some (.ref ps), some (.int (k : Int)), some (.ref p8), v9, v10] ∧ Same H H' ∧ H' pl = some (.lst (L.map V.int)) ∧ H' p8 = some (.lst ((N k).map V.int)) ∧ NrL H' pn n rs (fun i => if (i : Int) ∈ (N k).take j then nearO N k i else N i)) ⟨rs, _, _, rfl, s5.trans n8.same, n8.same _ _ hl, n8.here, NL8⟩ (fun j σ H' _ ⟨_, _, _, _, _, _, h8, _⟩ => SqL.of h8) ?_ ?_
    · rintro j x σ H9 hx ⟨rs, v9, v10, rfl, s9, hl9, h89, NL9⟩
      rw [List.getElem?_map] at hx
      obtain ⟨u, hu, rfl⟩ := Option.map_eq_some_iff.mp hx
      have um := List.mem_of_getElem? hu
      have uV := ((NP k kn Vk).2 u).mp um
      have ub := bL u ((mem u).mpr uV.1)
      obtain ⟨o, rfl⟩ : ∃ o : Nat, u = (o : Int) := ⟨u.toNat, by omega⟩
      have on : o < n := by omega
      have et : (N k).take (j + 1) = (N k).take j ++ [(o : Int)] := by rw [List.take_succ, hu]; rfl
      have no : (o : Int) ∉ (N k).take j := fun z => by
        have h2 : ((N k).take (j + 1)).Nodup := (NP k kn Vk).1.sublist (List.take_sublist _ _)
        rw [et] at h2
        exact (List.nodup_append.mp h2).2.2 _ z _ List.mem_cons_self rfl
      have ho := NL9.at_ o on
      rw [if_neg no] at ho
      have lo := lN o on uV.1
      refine ⟨_, rfl, _, rfl, pn, _, _, _, rfl, rfl, SqL.of NL9.lst, NL9.ref on, ?_⟩
      refine ⟨_, rfl, p8, rfl, ⟨_, SqL.of h89⟩, ?_⟩
      refine lc_fmN (fun x => match x with | .int v => if !decide (v ∈ N o) then some (.int v) else none | _ => none) (SqL.of h89) (by rw [List.length_map]; omega) (fun x H1 M hx sm hM => ?_) (fun H1 p10 H10 sm n10' => ?_)
      · obtain ⟨y, hy, rfl⟩ := List.mem_map.mp hx
        have hM' := hM H1 sm
        refine ⟨_, rfl, _, rfl, _, rfl, pn, _, _, _, rfl, rfl, SqL.of (sm _ _ NL9.lst), NL9.ref on, notInInts (SqL.of (sm _ _ ho)) ⟨_, rfl, ?_⟩⟩
        dsimp only at hM'
        cases d : decide (y ∈ N o) with
        | true => rw [d] at hM'; exact iteF hM'
        | false => rw [d] at hM'; exact iteT ⟨_, rfl, hM'⟩
      have e10 : ((N k).map V.int).filterMap (fun x => match x with | .int v => if !decide (v ∈ N o) then some (V.int v) else none | _ => none) = ((N k).filter fun u => !decide (u ∈ N o)).map V.int := fm_filter fun v _ => rfl
      rw [e10] at n10'
      have s910 := sm.trans n10'.same
      refine ⟨rs.getD o 0, p10, _, _, rfl, rfl, s910 _ _ ho, n10'.here, ?_, fun p11 H11 n11 => ?_⟩
      · rw [List.length_map, List.length_map]
        have := List.length_filter_le (fun u => !decide (u ∈ N o)) (N k)
        omega
      rw [← List.map_append] at n11
      have s911 := s910.trans n11.same
      have lf : (N o ++ (N k).filter fun u => !decide (u ∈ N o)).length ≤ 20 := by
        rw [List.length_append]
        have := List.length_filter_le (fun u => !decide (u ∈ N o)) (N k)
        omega
      refine ⟨_, rfl, p11, rfl, ⟨_, SqL.of n11.here⟩, ?_⟩
      refine lc_fmN (fun x => match x with | .int v => if decide (v ≠ (o : Int)) && decide (v ≠ (k : Int)) then some (.int v) else none | _ => none) (SqL.of n11.here) (by rw [List.length_map]; omega) (fun x H1 M hx sm2 hM => ?_) (fun H1 p12 H12 sm2 n12 => ?_)
      · obtain ⟨y, hy, rfl⟩ := List.mem_map.mp hx
        have hM' := hM H1 sm2
        refine and_pure (b1 := decide (y ≠ (o : Int))) (b2 := decide (y ≠ (k : Int))) (fun Q h => ⟨_, rfl, _, rfl, rfl, _, rfl, by rw [neI]; exact h⟩) (fun Q h => ⟨_, rfl, _, rfl, rfl, _, rfl, by rw [neI]; exact h⟩) ?_
        dsimp only at hM'
        cases d : (decide (y ≠ (o : Int)) && decide (y ≠ (k : Int))) with
        | true => rw [d] at hM'; exact iteT ⟨_, rfl, hM'⟩
        | false => rw [d] at hM'; exact iteF hM'
      have e12 : ((N o ++ (N k).filter fun u => !decide (u ∈ N o)).map V.int).filterMap (fun x => match x with | .int v => if decide (v ≠ (o : Int)) && decide (v ≠ (k : Int)) then some (V.int v) else none | _ => none) = (nearO N k o).map V.int := fm_filter fun v _ => rfl
      rw [e12] at n12
      have s912 := s911.trans (sm2.trans n12.same)
      have NL12 := NL9.same s912
      have lr9 := NL9.len
      refine ⟨_, rfl, _, rfl, pn, _, _, o, rfl, rfl, NL12.lst, ixN_nat (by rw [List.length_map]; omega), fun H13 c13 => ?_⟩
      have np8 : p8 ≠ pn := NL12.neI (by omega) (s912 _ _ h89)
      have npl : pl ≠ pn := NL12.neI (by omega) (s912 _ _ hl9)
      have n12ne : p12 ≠ pn := NL12.neI (by omega) n12.here
      refine ⟨rs.set o p12, _, _, rfl, (s9.trans s912).chg fpn c13, (c13.rest pl npl).trans (s912 _ _ hl9), (c13.rest p8 np8).trans (s912 _ _ h89), ?_, by rw [List.length_set]; exact lr9, fun i hi => ?_⟩
      · rw [c13.here, List.map_set]
      · rw [et]
        by_cases d : i = o
        · subst d
          have eg : (rs.set i p12).getD i 0 = p12 := by rw [List.getD_eq_getElem?_getD, List.getElem?_set_self (by omega)]; rfl
          rw [eg, if_pos (List.mem_append_right _ List.mem_cons_self)]
          exact (c13.rest p12 n12ne).trans n12.here
        · have eg : (rs.set o p12).getD i 0 = rs.getD i 0 := by rw [List.getD_eq_getElem?_getD, List.getElem?_set_ne (fun z => d z.symm), ← List.getD_eq_getElem?_getD]
          rw [eg]
          refine (c13.rest _ (NL12.ne hi)).trans ((NL12.at_ i hi).trans ?_)
          have : ((i : Int) ∈ (N k).take j ++ [(o : Int)]) ↔ (i : Int) ∈ (N k).take j := by
            rw [List.mem_append, List.mem_singleton]
            exact ⟨fun z => z.resolve_right fun y => d (by omega), .inl⟩
          by_cases f : (i : Int) ∈ (N k).take j
          · rw [if_pos f, if_pos (this.mpr f)]
          · rw [if_neg f, if_neg fun z => f (this.mp z)]
    · rintro σ H9 ⟨rs, v9, v10, rfl, s9, hl9, h89, NL9⟩
      rw [List.length_map, List.take_length] at NL9
      dsimp only
      refine ⟨_, rfl, pl, rfl, ⟨_, SqL.of hl9⟩, ?_⟩
      refine lc_fmN (fun x => match x with | .int v => if decide (v ≠ (k : Int)) then some (.int v) else none | _ => none) (SqL.of hl9) (by rw [List.length_map]; omega) (fun x H1 M hx sm2 hM => ?_) (fun H1 p12 H12 sm2 n12 => ?_)
      · obtain ⟨y, hy, rfl⟩ := List.mem_map.mp hx
        have hM' := hM H1 sm2
        refine ⟨_, rfl, _, rfl, rfl, _, rfl, ?_⟩
        rw [neI]
        dsimp only at hM'
        cases d : decide (y ≠ (k : Int)) with
        | true => rw [d] at hM'; exact iteT ⟨_, rfl, hM'⟩
        | false => rw [d] at hM'; exact iteF hM'
      have e12 : (L.map V.int).filterMap (fun x => match x with | .int v => if decide (v ≠ (k : Int)) then some (V.int v) else none | _ => none) = (L.filter fun u => decide (u ≠ (k : Int))).map V.int := fm_filter fun v _ => rfl
      rw [e12] at n12
      have s912 := sm2.trans n12.same
      have NL12 := NL9.same s912
      have mem' : ∀ x, x ∈ (L.filter fun u => decide (u ≠ (k : Int))) ↔ Wo W (k : Int) x := fun x => by
        rw [List.mem_filter, decide_eq_true_iff, mem]; rfl
      have bL' : ∀ x ∈ (L.filter fun u => decide (u ≠ (k : Int))), 0 ≤ x ∧ x < (n : Int) := fun x hx => bL x (List.mem_filter.mp hx).1
      have ll : (L.filter fun u => decide (u ≠ (k : Int))).length < L.length := by
        have := pigN (l := (k : Int) :: L.filter fun u => decide (u ≠ (k : Int))) (U := L) (List.nodup_cons.mpr ⟨fun z => by have := (List.mem_filter.mp z).2; simp at this, ndL.sublist List.filter_sublist⟩) fun x hx => by
          rcases List.mem_cons.mp hx with rfl | hx
          · exact vS'.1
          · exact (List.mem_filter.mp hx).1
        rwa [List.length_cons] at this
      refine ⟨_, rfl, p12, rfl, ⟨_, SqL.of n12.here⟩, ?_⟩
      refine lc_slack n12.here bL' (by omega) NL12 (fun v M R H3 vn NL3 h => ⟨_, rfl, _, rfl, pn, _, _, _, rfl, rfl, SqL.of NL3.lst, NL3.ref vn, rs.getD v 0, _, rfl, .inl (SqL.of (NL3.at_ v vn)), _, _, rfl, rfl, _, rfl, ?_⟩) (fun pS H13 H14 s13 n14 => ?_)
      · have e : ∀ l : List Int, decide ((((l.map V.int).length : Nat) : Int) < 3) = decide (l.length < 3) := fun l => by
          rw [List.length_map]
          exact decide_eq_decide.mpr ⟨fun z => by omega, fun z => by omega⟩
        exact if_var (h _ (e _)) fun z => ⟨_, rfl, z⟩
      have s1214 := s13.trans n14.same
      have s914 := s912.trans s1214
      refine ⟨_, by omega, p12, pS, _, rs, _, _, _, _, _, _, _, rfl, s9.trans s914, s1214 _ _ n12.here, n14.here, NL12.same s1214, ndL.sublist List.filter_sublist, mem', bL', ?_, nearO_ok kn (fun x hx => bL x ((mem x).mpr hx)) sym NP Vk, ?_, rfl⟩
      · intro x y h
        rcases h with h | ⟨h1, h2⟩
        · exact .inl (sym _ _ h)
        · exact .inr ⟨sym _ _ h2, sym _ _ h1⟩
      · rw [← fo]
        exact ⟨fun h => .step _ Vk few h, fun h => h.out sym Vk few⟩
  · have c' : ¬ (0 : Int) < ((((slackF N L).map V.int).length : Nat) : Int) := of_decide_eq_false (Bool.eq_false_iff.mpr c)
    rw [List.length_map] at c'
    have eS : slackF N L = [] := List.eq_nil_of_length_eq_zero (by omega)
    dsimp only
    refine ⟨_, rfl, pl, _, rfl, .inl (SqL.of hl), rfl, ?_⟩
    refine q H5 _ s5 ?_
    rw [← fo, decide_eq_true_iff, List.length_map]
    constructor
    · intro z
      injection z with z
      have : L = [] := List.eq_nil_of_length_eq_zero (by omega)
      exact .nil fun x hx => by have := (mem x).mpr hx; rw [‹L = []›] at this; exact absurd this List.not_mem_nil
    · intro z
      cases L with
      | nil => rfl
      | cons x r =>
        obtain ⟨v, hv, few⟩ := z.some_few ((mem x).mp List.mem_cons_self)
        have vb := bL v ((mem v).mpr hv)
        have vm := (mem v).mpr hv
        obtain ⟨k, rfl⟩ : ∃ k : Nat, v = (k : Int) := ⟨v.toNat, by omega⟩
        have := near_few (by omega) NP hv few
        have : (k : Int) ∈ slackF N (x :: r) := List.mem_filter.mpr ⟨vm, decide_eq_true (by rw [Int.toNat_natCast]; exact this)⟩
        rw [eS] at this
        exact absurd this List.not_mem_nil
end

end K


namespace K
open PySem L2 Lw Bg
abbrev s__law_joined : Stmt := top 32
theorem sc__law_joined : FnScope ["_law_ties_here", "_law_part", "_law_seen", "_law_k", "_law_a", "_law_b"] ["_law_ties_here", "_law_part"] (defScope s__law_joined) := ⟨rfl, rfl, rfl, by decide +kernel, rfl, by decide +kernel, by decide +kernel⟩
abbrev s__law_tied : Stmt := top 33
theorem sc__law_tied : FnScope ["_law_ties_here", "_law_one", "_law_other", "_law_a", "_law_b"] ["_law_ties_here", "_law_one", "_law_other"] (defScope s__law_tied) := ⟨rfl, rfl, rfl, by decide +kernel, rfl, by decide +kernel, by decide +kernel⟩
def spJoinedL (K : PySem.W.Frag) : Sp := fun vs H Q _ => ∃ (r b : Addr) (xs : List V) (ts : List (Int × Int)) (p : List Int), vs = [.ref r, .ref b] ∧ SqL K H r xs ∧ Paired (TieV K H) xs ts ∧ SqL K H b (p.map V.int) ∧ p.Nodup ∧ p ≠ [] ∧ p.length ≤ 10 ∧ Jn ts p ∧ ∀ H', Same H H' → Q (.bl true) H'
def spTiedL (K : PySem.W.Frag) : Sp := fun vs H Q _ => ∃ (r b c : Addr) (xs : List V) (ts : List (Int × Int)) (p o : List Int), vs = [.ref r, .ref b, .ref c] ∧ SqL K H r xs ∧ Paired (TieV K H) xs ts ∧ SqL K H b (p.map V.int) ∧ SqL K H c (o.map V.int) ∧ TR ts p o ∧ (∀ v ∈ p, v ∉ o) ∧ ∀ H', Same H H' → Q (.bl true) H'
theorem cut_takeA (xs : List V) (k : Nat) : cutV xs none (some (k : Int)) = xs.take k := by
  unfold cutV
  have e1 : HT.sIx xs.length xs.length (some (k : Int)) = min k xs.length := HT.sIx_nat _ _ k
  have e2 : HT.sIx xs.length 0 none = 0 := rfl
  rw [e1, e2, List.drop_zero, Nat.sub_zero]
  rcases Nat.le_total k xs.length with c | c
  · rw [Nat.min_eq_left c]
  · rw [Nat.min_eq_right c, List.take_of_length_le (Nat.le_refl _), List.take_of_length_le c]
theorem neB (x y : Bool) : (!decide (V.bl x = V.bl y)) = (x != y) := by
  cases x <;> cases y <;> rfl
section
variable {P : Program} {w : World} {K : PySem.W.Frag} {mg : Str → Option Value} {base : Heap}
set_option maxHeartbeats 8000000 in
theorem ok__law_joined (B : Bl mg) (d__law_joined : Dn K mg "_law_joined" s__law_joined ["_law_ties_here", "_law_part"]) : FnOk P w K mg base CX0 1 d__law_joined.f d__law_joined.fd ["_law_ties_here", "_law_part"] (spJoinedL K) := by
  refine d__law_joined.F.ok sc__law_joined (fun vs H Q E h => ?_) (fun cdv A outer s H vs Q E hr h => ?_)
  · obtain ⟨r, b, xs, ts, p, rfl, _⟩ := h
    rfl
  obtain ⟨r, b, xs, ts, p, rfl, hR, pR, hB, ndp, nep, l10, jn, q⟩ := h
  have hv : (A.deeper (PyProof.Rows.envOfC "_law_joined" (defScope s__law_joined) s.heap.objs.size d__law_joined.f cdv)).units + 65 < cLine := by have := hr.un; omega
  have lx := Paired.length pR
  refine ⟨_, (pss_cons (ps_set (i := 2) sc__law_joined.nd rfl (Or.inr rfl) (pe_slice (sl_listN (K := K) rfl) (pv 1) po_none (po_some pe_int)))
      (pss_cons (ps_for PassesOwn.never rfl (pi_range1 rfl B.range (pa_cons (pe_callB (call_lenK (K := K) rfl) rfl B.len (by decide +kernel) (pa_cons (pv 1) pa_nil)) pa_nil)) (pg_name (i := 3) sc__law_joined.nd rfl (Or.inl rfl))
      (pss_one (ps_for PassesOwn.never rfl (pi_listK (K := K) rfl (pv 0)) (pg_tupK (K := K) (n := 2) rfl rfl (pgs_cons (pg_name (i := 4) sc__law_joined.nd rfl (Or.inl rfl)) (pgs_cons (pg_name (i := 5) sc__law_joined.nd rfl (Or.inl rfl)) pgs_nil)))
      (pss_one (ps_if (PW.pt (pw_and (pt_cmpR (op_inDK (K := K) rfl hv) (pv 4) (pv 1) (by with_unfolding_all rfl)) (pw_and (pt_cmpR (op_inDK (K := K) rfl hv) (pv 5) (pv 1) (by with_unfolding_all rfl)) (pw_and1 (pt_cmpR op_ne (pe_cmpR (op_inDK (K := K) rfl hv) (pv 4) (pv 2) (by with_unfolding_all rfl)) (pe_cmpR (op_inDK (K := K) rfl hv) (pv 5) (pv 2) (by with_unfolding_all rfl)) (nomark _))))))
      (pss_one (ps_set (i := 2) sc__law_joined.nd rfl (Or.inr rfl) (pe_op op_catN (pv 2) (pe_lc ["_law_u", "_law_seen"] [none, some 2]  (by kernel_rfl) rfl (pi_tupK (K := K) rfl (pe_tupN (pa_cons (pv 4) (pa_cons (pv 5) pa_nil)))) (fun _ _ _ _ _ => (pg_name (i := 0) (show (["_law_u", "_law_seen"] : List Str).Nodup by decide +kernel) rfl (Or.inl rfl))) (fun _ _ _ _ _ => (pts_one (pt_cmpR (op_notInDK (K := K) rfl hv) (pv 0) (pv 1) (by with_unfolding_all rfl)))) (fun _ _ _ _ _ => (pv 0))))))
      pss_nil)))))
      (pss_one (ps_ret (pe_cmpR op_eq (pe_callB (call_lenK (K := K) rfl) rfl B.len (by decide +kernel) (pa_cons (pv 2) pa_nil)) (pe_callB (call_lenK (K := K) rfl) rfl B.len (by decide +kernel) (pa_cons (pv 1) pa_nil)) (nomark _)))))), ?_⟩
  refine ⟨_, rfl, _, rfl, b, _, rfl, hB, fun p1 H1 n1 => ?_⟩
  rw [show (1 : Int) = ((1 : Nat) : Int) from rfl, cut_takeA, ← List.map_take] at n1
  refine ⟨_, rfl, b, _, rfl, .inl (n1.same.seq hB), _, rfl, by rw [List.length_map]; omega, by rw [List.length_map]; omega, ?_⟩
  rw [Int.toNat_natCast, List.length_map]
  obtain ⟨hd, tl, ep⟩ : ∃ hd tl, p = hd :: tl := by
    cases p with
    | nil => exact absurd rfl nep
    | cons a r => exact ⟨a, r, rfl⟩
  refine for_range (n := p.length) (fun i σ H' => ∃ (ps : Addr) (S : List Int) (v3 v4 v5 : Option V), σ = [some (.ref r), some (.ref b), some (.ref ps), v3, v4, v5] ∧ Same H H' ∧ H' ps = some (.lst (S.map V.int)) ∧ S.Nodup ∧ (∀ v ∈ S, v ∈ p) ∧ hd ∈ S ∧ (i + 1 ≤ S.length ∨ S.length = p.length)) ⟨p1, p.take 1, none, none, none, rfl, n1.same, n1.here, ndp.sublist (List.take_sublist _ _), (fun v hv => List.mem_of_mem_take hv), by rw [ep]; exact List.mem_cons_self, .inl (by rw [ep]; show 1 ≤ 1; omega)⟩ ?_ ?_
  · rintro i σ H2 hi ⟨ps, S, v3, v4, v5, rfl, s2, hps, ndS, sub, hdS, big⟩
    refine ⟨_, rfl, r, rfl, ⟨_, s2.seq hR⟩, ?_⟩
    refine for_list (xs := xs) (fun j σ H' => ∃ (ps : Addr) (S' : List Int) (v3 v4 v5 : Option V), σ = [some (.ref r), some (.ref b), some (.ref ps), v3, v4, v5] ∧ Same H H' ∧ H' ps = some (.lst (S'.map V.int)) ∧ S'.Nodup ∧ (∀ v ∈ S', v ∈ p) ∧ hd ∈ S' ∧ S.length ≤ S'.length ∧ (S.length < S'.length ∨ (S' = S ∧ ∀ t ∈ ts.take j, t.1 ∈ p → t.2 ∈ p → (t.1 ∈ S ↔ t.2 ∈ S)))) ⟨ps, S, _, _, _, rfl, s2, hps, ndS, sub, hdS, Nat.le_refl _, .inr ⟨rfl, fun t ht => absurd ht List.not_mem_nil⟩⟩ (fun j σ H' _ ⟨_, _, _, _, _, _, s', _⟩ => s'.seq hR) ?_ ?_
    · rintro j x σ H3 hx ⟨ps, S', v3, v4, v5, rfl, s3, hps, ndS', sub', hdS', le', gr⟩
      obtain ⟨t, ht, ⟨pt, ept, htp⟩⟩ := paired_get pR hx
      subst ept
      have et : ts.take (j + 1) = ts.take j ++ [t] := by rw [List.take_succ, ht]; rfl
      have l10' : S'.length ≤ 10 := Nat.le_trans (pigN ndS' sub') l10
      refine ⟨pt, _, rfl, s3.tupq htp, rfl, _, _, rfl, _, _, rfl, rfl, ?_⟩
      have hB3 := s3.seq hB
      have hS3 : SqL K H3 ps (S'.map V.int) := SqL.of hps
      refine and_pure (b1 := decide (t.1 ∈ p)) (b2 := decide (t.2 ∈ p) && (decide (t.1 ∈ S') != decide (t.2 ∈ S'))) (fun Q h => ⟨_, rfl, _, rfl, inInts hB3 ⟨_, rfl, h⟩⟩) (fun Q h => and_pure (b1 := decide (t.2 ∈ p)) (b2 := (decide (t.1 ∈ S') != decide (t.2 ∈ S'))) (fun Q h => ⟨_, rfl, _, rfl, inInts hB3 ⟨_, rfl, h⟩⟩) (fun Q h => ⟨_, rfl, _, rfl, inInts hS3 ⟨_, rfl, _, rfl, inInts hS3 ⟨rfl, _, rfl, by rw [neB]; exact h⟩⟩⟩) h) ?_
      have keep : ∀ (w4 w5 : Option V), (t.1 ∈ p → t.2 ∈ p → (t.1 ∈ S' ↔ t.2 ∈ S')) → ∃ (ps' : Addr) (S'' : List Int) (v3' v4' v5' : Option V), [some (V.ref r), some (.ref b), some (.ref ps), v3, w4, w5] = [some (.ref r), some (.ref b), some (.ref ps'), v3', v4', v5'] ∧ Same H H3 ∧ H3 ps' = some (.lst (S''.map V.int)) ∧ S''.Nodup ∧ (∀ v ∈ S'', v ∈ p) ∧ hd ∈ S'' ∧ S.length ≤ S''.length ∧ (S.length < S''.length ∨ (S'' = S ∧ ∀ t ∈ ts.take (j + 1), t.1 ∈ p → t.2 ∈ p → (t.1 ∈ S ↔ t.2 ∈ S))) := fun w4 w5 same => by
        refine ⟨ps, S', _, _, _, rfl, s3, hps, ndS', sub', hdS', le', gr.elim .inl fun g => .inr ⟨g.1, fun u hu => ?_⟩⟩
        rw [et] at hu
        rcases List.mem_append.mp hu with hu | hu
        · exact g.2 u hu
        · rw [List.mem_singleton.mp hu, ← g.1]; exact same
      cases d : (decide (t.1 ∈ p) && (decide (t.2 ∈ p) && (decide (t.1 ∈ S') != decide (t.2 ∈ S')))) with
      | false =>
        refine iteF (keep _ _ fun h1 h2 => ?_)
        rw [decide_eq_true h1, decide_eq_true h2, Bool.true_and, Bool.true_and, bne_eq_false_iff_eq] at d
        exact decide_eq_decide.mp d
      | true =>
        rw [Bool.and_eq_true, Bool.and_eq_true, decide_eq_true_iff, decide_eq_true_iff] at d
        obtain ⟨d1, d2, d3⟩ := d
        refine iteT ⟨_, rfl, _, rfl, _, rfl, (by show 2 ≤ 1000; decide), fun p4 H4 n4 => ⟨p4, rfl, ⟨_, SqT.of n4.here⟩, ?_⟩⟩
        refine lc_fmTN (fun x => match x with | .int v => if !decide (v ∈ S') then some (.int v) else none | _ => none) (SqT.of n4.here) (by show 2 ≤ 1000; decide) (fun x H5 M hx5 sm hM => ?_) (fun H5 p6 H6 sm n6 => ?_)
        · obtain ⟨y, rfl⟩ : ∃ y, x = V.int y := by
            rcases List.mem_cons.mp hx5 with e | e
            · exact ⟨_, e⟩
            · exact ⟨_, List.mem_singleton.mp e⟩
          have hM' := hM H5 sm
          refine ⟨_, rfl, _, rfl, notInInts (SqL.of (sm _ _ (n4.same _ _ hps))) ⟨_, rfl, ?_⟩⟩
          dsimp only at hM'
          cases e : decide (y ∈ S') with
          | true => rw [e] at hM'; exact iteF hM'
          | false => rw [e] at hM'; exact iteT ⟨_, rfl, hM'⟩
        have e6 : ([V.int t.1, V.int t.2] : List V).filterMap (fun x => match x with | .int v => if !decide (v ∈ S') then some (V.int v) else none | _ => none) = ([t.1, t.2].filter fun v => !decide (v ∈ S')).map V.int := fm_filter (ns := [t.1, t.2]) fun v _ => rfl
        obtain ⟨z, ez, zp, zS⟩ : ∃ z, ([t.1, t.2].filter fun v => !decide (v ∈ S')) = [z] ∧ z ∈ p ∧ z ∉ S' := by
          by_cases c1 : t.1 ∈ S'
          · by_cases c2 : t.2 ∈ S'
            · rw [decide_eq_true c1, decide_eq_true c2] at d3; cases d3
            · exact ⟨t.2, by simp [c1, c2], d2, c2⟩
          · by_cases c2 : t.2 ∈ S'
            · exact ⟨t.1, by simp [c1, c2], d1, c1⟩
            · rw [decide_eq_false c1, decide_eq_false c2] at d3; cases d3
        have n6' : New H5 p6 (.lst ([z].map V.int)) H6 := by
          rw [← ez, ← e6]; exact n6
        have s36 := n4.same.trans (sm.trans n6'.same)
        refine ⟨ps, p6, _, _, rfl, rfl, s36 _ _ hps, n6'.here, (by rw [List.length_map]; show S'.length + 1 ≤ 1000; omega), fun p7 H7 n7 => ?_⟩
        rw [← List.map_append] at n7
        refine ⟨p7, S' ++ [z], _, _, _, rfl, s3.trans (s36.trans n7.same), n7.here, List.nodup_append.mpr ⟨ndS', by simp, fun x hx y hy e => zS (by rw [← List.mem_singleton.mp hy, ← e]; exact hx)⟩, fun v hv => ?_, List.mem_append_left _ hdS', by rw [List.length_append]; omega, .inl (by rw [List.length_append]; show S.length < S'.length + 1; omega)⟩
        rcases List.mem_append.mp hv with hv | hv
        · exact sub' v hv
        · rw [List.mem_singleton.mp hv]; exact zp
    · rintro σ H3 ⟨ps, S', v3, v4, v5, rfl, s3, hps, ndS', sub', hdS', le', gr⟩
      rw [lx, List.take_length] at gr
      refine ⟨ps, S', _, _, _, rfl, s3, hps, ndS', sub', hdS', ?_⟩
      have lp := pigN ndS' sub'
      rcases gr with gr | ⟨eS, cl⟩
      · rcases big with big | big
        · exact .inl (by omega)
        · exact .inr (by omega)
      · refine .inr (Nat.le_antisymm lp (pigN ndp fun v hv => ?_))
        rw [eS] at hdS' ⊢
        refine jn (fun v => v ∈ S) ⟨hd, by rw [ep]; exact List.mem_cons_self, hdS'⟩ (fun a c ha hc h hS => ?_) v hv
        rcases h with h | h
        · exact (cl _ h ha hc).mp hS
        · exact (cl _ h hc ha).mpr hS
  · rintro σ H2 ⟨ps, S, v3, v4, v5, rfl, s2, hps, ndS, sub, hdS, big⟩
    dsimp only
    have lp := pigN ndS sub
    refine ⟨_, rfl, ps, _, rfl, .inl (SqL.of hps), _, rfl, b, _, rfl, .inl (s2.seq hB), rfl, ?_⟩
    rw [decide_eq_true (by rw [List.length_map, List.length_map]; congr 1; omega)]
    exact q H2 s2
set_option maxHeartbeats 8000000 in
theorem ok__law_tied (B : Bl mg) (d__law_tied : Dn K mg "_law_tied" s__law_tied ["_law_ties_here", "_law_one", "_law_other"]) : FnOk P w K mg base CX0 1 d__law_tied.f d__law_tied.fd ["_law_ties_here", "_law_one", "_law_other"] (spTiedL K) := by
  refine d__law_tied.F.ok sc__law_tied (fun vs H Q E h => ?_) (fun cdv A outer s H vs Q E hr h => ?_)
  · obtain ⟨r, b, c, xs, ts, p, o, rfl, _⟩ := h
    rfl
  obtain ⟨r, b, c, xs, ts, p, o, rfl, hR, pR, hB, hC, tr, dj, q⟩ := h
  have hv : (A.deeper (PyProof.Rows.envOfC "_law_tied" (defScope s__law_tied) s.heap.objs.size d__law_tied.f cdv)).units + 65 < cLine := by have := hr.un; omega
  have lx := Paired.length pR
  refine ⟨_, (pss_cons (ps_for PassesOwn.never rfl (pi_listK (K := K) rfl (pv 0)) (pg_tupK (K := K) (n := 2) rfl rfl (pgs_cons (pg_name (i := 3) sc__law_tied.nd rfl (Or.inl rfl)) (pgs_cons (pg_name (i := 4) sc__law_tied.nd rfl (Or.inl rfl)) pgs_nil)))
      (pss_one (ps_if (PW.pt (pw_or (PW.pt (pw_and (pt_cmpR (op_inDK (K := K) rfl hv) (pv 3) (pv 1) (by with_unfolding_all rfl)) (pw_and1 (pt_cmpR (op_inDK (K := K) rfl hv) (pv 4) (pv 2) (by with_unfolding_all rfl))))) (pw_or1 (PW.pt (pw_and (pt_cmpR (op_inDK (K := K) rfl hv) (pv 4) (pv 1) (by with_unfolding_all rfl)) (pw_and1 (pt_cmpR (op_inDK (K := K) rfl hv) (pv 3) (pv 2) (by with_unfolding_all rfl))))))))
      (pss_one (ps_ret pe_bl))
      pss_nil)))
      (pss_one (ps_ret pe_bl))), ?_⟩
  refine ⟨_, rfl, r, rfl, ⟨_, hR⟩, ?_⟩
  refine for_list (xs := xs) (fun j σ H' => (∃ v3 v4 : Option V, σ = [some (.ref r), some (.ref b), some (.ref c), v3, v4]) ∧ H' = H ∧ ∀ t ∈ ts.take j, ¬ (t.1 ∈ p ∧ t.2 ∈ o) ∧ ¬ (t.2 ∈ p ∧ t.1 ∈ o)) ⟨⟨_, _, rfl⟩, rfl, fun t ht => absurd ht List.not_mem_nil⟩ (fun j σ H' _ ⟨_, e, _⟩ => e ▸ hR) ?_ ?_
  · rintro j x σ H3 hx ⟨⟨v3, v4, rfl⟩, rfl, no⟩
    obtain ⟨t, ht, ⟨pt, ept, htp⟩⟩ := paired_get pR hx
    subst ept
    have et : ts.take (j + 1) = ts.take j ++ [t] := by rw [List.take_succ, ht]; rfl
    refine ⟨pt, _, rfl, htp, rfl, _, _, rfl, _, _, rfl, rfl, ?_⟩
    refine or_pure (b1 := decide (t.1 ∈ p) && decide (t.2 ∈ o)) (b2 := decide (t.2 ∈ p) && decide (t.1 ∈ o)) (fun Q h => and_pure (b1 := decide (t.1 ∈ p)) (b2 := decide (t.2 ∈ o)) (fun Q h => ⟨_, rfl, _, rfl, inInts hB ⟨_, rfl, h⟩⟩) (fun Q h => ⟨_, rfl, _, rfl, inInts hC ⟨_, rfl, h⟩⟩) h) (fun Q h => and_pure (b1 := decide (t.2 ∈ p)) (b2 := decide (t.1 ∈ o)) (fun Q h => ⟨_, rfl, _, rfl, inInts hB ⟨_, rfl, h⟩⟩) (fun Q h => ⟨_, rfl, _, rfl, inInts hC ⟨_, rfl, h⟩⟩) h) ?_
    cases d : ((decide (t.1 ∈ p) && decide (t.2 ∈ o)) || (decide (t.2 ∈ p) && decide (t.1 ∈ o))) with
    | true => exact iteT (q _ (Same.refl _))
    | false =>
      refine iteF ⟨⟨_, _, rfl⟩, rfl, fun u hu => ?_⟩
      rw [et] at hu
      rcases List.mem_append.mp hu with hu | hu
      · exact no u hu
      · rw [List.mem_singleton.mp hu]
        rw [Bool.or_eq_false_iff] at d
        constructor
        · rintro ⟨z1, z2⟩
          rw [decide_eq_true z1, decide_eq_true z2] at d
          exact absurd d.1 (by decide)
        · rintro ⟨z1, z2⟩
          rw [decide_eq_true z1, decide_eq_true z2] at d
          exact absurd d.2 (by decide)
  · rintro σ H3 ⟨⟨v3, v4, rfl⟩, rfl, no⟩
    rw [lx, List.take_length] at no
    obtain ⟨x, hx, y, hy, h⟩ := tr
    rcases h with h | h | h
    · exact absurd (h ▸ hy) (dj x hx)
    · exact absurd ⟨hx, hy⟩ (no _ h).1
    · exact absurd ⟨hx, hy⟩ (no _ h).2
end

end K


namespace K
open PySem L2 Lw Bg
theorem asc_ext : ∀ {xs ys : List Int}, xs.Pairwise (· < ·) → ys.Pairwise (· < ·) → (∀ v, v ∈ xs ↔ v ∈ ys) → xs = ys
  | [], [], _, _, _ => rfl
  | [], y :: ys, _, _, h => absurd ((h y).mpr List.mem_cons_self) List.not_mem_nil
  | x :: xs, [], _, _, h => absurd ((h x).mp List.mem_cons_self) List.not_mem_nil
  | x :: xs, y :: ys, hx, hy, h => by
    rw [List.pairwise_cons] at hx hy
    have e : x = y := by
      rcases List.mem_cons.mp ((h x).mp List.mem_cons_self) with h1 | h1
      · exact h1
      · rcases List.mem_cons.mp ((h y).mpr List.mem_cons_self) with h2 | h2
        · exact h2.symm
        · have a := hy.1 x h1
          have b := hx.1 y h2
          omega
    subst e
    rw [asc_ext hx.2 hy.2 fun v => ⟨fun hv => ?_, fun hv => ?_⟩]
    · rcases List.mem_cons.mp ((h v).mp (List.mem_cons_of_mem _ hv)) with h1 | h1
      · exact absurd (hx.1 v hv) (by omega)
      · exact h1
    · rcases List.mem_cons.mp ((h v).mpr (List.mem_cons_of_mem _ hv)) with h1 | h1
      · exact absurd (hy.1 v hv) (by omega)
      · exact h1
/-- the step lays a bag -/

abbrev s__law_four : Stmt := top 34
theorem sc__law_four : FnScope ["_law_found", "_law_n", "_law_ties_here", "_law_seen", "_law_part", "_law_k", "_law_j"] ["_law_found", "_law_n", "_law_ties_here"] (defScope s__law_four) := ⟨rfl, rfl, rfl, by decide +kernel, rfl, by decide +kernel, by decide +kernel⟩
theorem kitLL {K : PySem.W.Frag} : PySem.W.kitOne K (.type "list") (.type "list") = some true := by rfl
def spLFour (K : PySem.W.Frag) : Sp := fun vs H Q _ => ∃ (l r : Addr) (H0 : Hp) (xs tx : List V) (F : List (List Int)) (ts : List (Int × Int)) (n : Nat), vs = [.ref l, .int n, .ref r] ∧ H l = some (.lst xs) ∧ Paired (PtL H0 H) xs F ∧ SqL K H r tx ∧ Paired (TieV K H) tx ts ∧ Prt n ts F ∧ n ≤ 10 ∧ F.length = 4 ∧ (∀ p ∈ F, ∀ q ∈ F, p ≠ q → TR ts p q) ∧ ∀ H', Same H H' → Q (.bl true) H'
theorem tieV_same {K : PySem.W.Frag} {H H' : Hp} {v : V} {t : Int × Int} (s : Same H H') (h : TieV K H v t) : TieV K H' v t := by
  obtain ⟨p, e, q⟩ := h
  exact ⟨p, e, s.tupq q⟩
theorem flat_nodup {n : Nat} {ts : List (Int × Int)} : ∀ {F : List (List Int)}, Prt n ts F → F.flatten.Nodup
  | [], _ => .nil
  | p :: r, G => by
    rw [List.flatten_cons]
    have G' := G.sub (List.sublist_cons_self p r)
    obtain ⟨d1, _⟩ := List.pairwise_cons.mp G.dj
    refine List.nodup_append.mpr ⟨(G.asc p List.mem_cons_self).imp fun h => by omega, flat_nodup G', fun a ha b hb e => ?_⟩
    obtain ⟨q, hq, hb'⟩ := List.mem_flatten.mp hb
    exact d1 q hq a ha (e ▸ hb')
theorem asc_sorted {p zs : List Int} (h : p.Pairwise (· < ·)) (pm : zs.Perm p) (le : zs.Pairwise (· ≤ ·)) : zs = p := by
  have nd : zs.Nodup := pm.nodup_iff.mpr (h.imp fun h => by omega)
  refine asc_ext ((List.pairwise_and_iff.mpr ⟨le, nd⟩).imp fun {a b} z => by have := z.1; have := z.2; omega) h fun v => pm.mem_iff
section
variable {P : Program} {w : World} {K : PySem.W.Frag} {mg : Str → Option Value} {base : Heap}
set_option maxHeartbeats 16000000 in
theorem ok__law_four (B : Bl mg) (d__law_whole : Dn K mg "_law_whole" s__law_whole ["_law_thing"]) (d__law_joined : Dn K mg "_law_joined" s__law_joined ["_law_ties_here", "_law_part"]) (d__law_tied : Dn K mg "_law_tied" s__law_tied ["_law_ties_here", "_law_one", "_law_other"]) (d__law_four : Dn K mg "_law_four" s__law_four ["_law_found", "_law_n", "_law_ties_here"]) : FnOk P w K mg base CX0 2 d__law_four.f d__law_four.fd ["_law_found", "_law_n", "_law_ties_here"] (spLFour K) := by
  have G__law_whole : FnOk P w K mg base CX0 1 _ _ _ _ := ok__law_whole B d__law_whole
  have G__law_joined : FnOk P w K mg base CX0 1 _ _ _ _ := ok__law_joined B d__law_joined
  have G__law_tied : FnOk P w K mg base CX0 1 _ _ _ _ := ok__law_tied B d__law_tied
  refine d__law_four.F.ok sc__law_four (fun vs H Q E h => ?_) (fun cdv A outer s H vs Q E hr h => ?_)
  · obtain ⟨l, r, H0, xs, tx, F, ts, n, rfl, _⟩ := h
    rfl
  obtain ⟨l, r, H0, xs, tx, F, ts, n, rfl, hL, pF, hR, pR, G, n10, l4, tr, q⟩ := h
  have hu : (A.deeper (PyProof.Rows.envOfC "_law_four" (defScope s__law_four) s.heap.objs.size d__law_four.f cdv)).units + 64 < cLine := by have := hr.un; omega
  have lx := Paired.length pF
  refine ⟨_, (pss_cons (ps_if (PW.pt (pw_or (pt_not (pt_truthK (K := K) rfl (pe_callB (call_isinstK (K := K) rfl) rfl B.isinstance (by decide +kernel) (pa_cons (pv 0) (pa_cons (pe_bltn (v := .ty "list") (u := .type "list") rfl B.list (by decide +kernel) rfl) pa_nil))) (fun _ => rfl))) (pw_or1 (pt_cmpR op_ne (pe_callB (call_lenK (K := K) rfl) rfl B.len (by decide +kernel) (pa_cons (pv 0) pa_nil)) pe_int (nomark _)))))
      (pss_one (ps_ret pe_bl))
      pss_nil)
      (pss_cons (ps_set (i := 3) sc__law_four.nd rfl (Or.inl rfl) (pe_lstN pa_nil))
      (pss_cons (ps_for PassesOwn.never rfl (pi_listK (K := K) rfl (pv 0)) (pg_name (i := 4) sc__law_four.nd rfl (Or.inl rfl))
      (pss_cons (ps_if (PW.pt (pw_or (pt_not (pt_truthK (K := K) rfl (pe_callB (call_isinstK (K := K) rfl) rfl B.isinstance (by decide +kernel) (pa_cons (pv 4) (pa_cons (pe_bltn (v := .ty "list") (u := .type "list") rfl B.list (by decide +kernel) rfl) pa_nil))) (fun _ => rfl))) (pw_or (pt_cmpR op_eq (pe_callB (call_lenK (K := K) rfl) rfl B.len (by decide +kernel) (pa_cons (pv 4) pa_nil)) pe_int (nomark _)) (pw_or1 (pt_not (pt_truthK (K := K) rfl (pe_callB (call_allK (K := K) rfl rfl) rfl B.all (by decide +kernel) (pa_cons (pe_lc ["_law_v"] [none]  (by kernel_rfl) rfl (pi_listK (K := K) rfl (pv 4)) (fun _ _ _ _ _ => (pg_name (i := 0) (show (["_law_v"] : List Str).Nodup by decide +kernel) rfl (Or.inl rfl))) (fun _ _ _ _ _ => pts_nil) (fun _ _ _ _ _ => (pe_call G__law_whole hr rfl d__law_whole.m d__law_whole.F.kp d__law_whole.b .nil pass0 (pa_cons (pv 0) pa_nil)))) pa_nil)) (fun _ => rfl)))))))
      (pss_one (ps_ret pe_bl))
      pss_nil)
      (pss_cons (ps_if (PW.pt (pw_or (pt_cmpR (op_neDK (K := K) rfl hu) (pv 4) (pe_callB (call_sortedI (K := K) rfl) rfl B.sorted (by decide +kernel) (pa_cons (pv 4) pa_nil)) (nomark _)) (pw_or (pt_cmpR op_lt (pe_ix (ix_listK (K := K) rfl) (pv 4) pe_int (fun _ _ => rfl)) pe_int (nomark _)) (pw_or (pt_cmpR op_ge (pe_ix (ix_listK (K := K) rfl) (pv 4) (pe_un un_neg pe_int) (fun _ _ => rfl)) (pv 1) (nomark _)) (pw_or1 (pt_not (pt_truthK (K := K) rfl (pe_call G__law_joined hr rfl d__law_joined.m d__law_joined.F.kp d__law_joined.b .nil pass0 (pa_cons (pv 2) (pa_cons (pv 4) pa_nil))) (fun _ => rfl))))))))
      (pss_one (ps_ret pe_bl))
      pss_nil)
      (pss_one (ps_expr (pe_bmK (K := K) rfl PySem.F.plainAttrs_list PySem.F.slot_list_extend PySem.F.type_list_extend mt_extendN (pv 3) (pa_cons (pv 4) pa_nil)))))))
      (pss_cons (ps_if (pt_cmpR op_ne (pe_callB (call_lenS2 (w := w) rfl) rfl B.len (by decide +kernel) (pa_cons (pe_callTy (call_setS (K := K) (w := w) rfl rfl rfl) rfl B.set (by decide +kernel) (pa_cons (pv 3) pa_nil)) pa_nil)) (pe_callB (call_lenK (K := K) rfl) rfl B.len (by decide +kernel) (pa_cons (pv 3) pa_nil)) (nomark _))
      (pss_one (ps_ret pe_bl))
      pss_nil)
      (pss_cons (ps_for PassesOwn.never rfl (pi_range1 rfl B.range (pa_cons pe_int pa_nil)) (pg_name (i := 5) sc__law_four.nd rfl (Or.inl rfl))
      (pss_one (ps_for PassesOwn.never rfl (pi_range1 rfl B.range (pa_cons (pv 5) pa_nil)) (pg_name (i := 6) sc__law_four.nd rfl (Or.inl rfl))
      (pss_one (ps_if (pt_not (pt_truthK (K := K) rfl (pe_call G__law_tied hr rfl d__law_tied.m d__law_tied.F.kp d__law_tied.b .nil pass0 (pa_cons (pv 2) (pa_cons (pe_ix (ix_listK (K := K) rfl) (pv 0) (pv 6) (fun _ _ => rfl)) (pa_cons (pe_ix (ix_listK (K := K) rfl) (pv 0) (pv 5) (fun _ _ => rfl)) pa_nil)))) (fun _ => rfl)))
      (pss_one (ps_ret pe_bl))
      pss_nil)))))
      (pss_one (ps_ret pe_bl))))))), ?_⟩
  refine or_pure (b1 := false) (b2 := false) (fun Q h => ⟨_, rfl, _, _, _, _, _, rfl, rfl, TyOf.lst hL, kitLL, _, rfl, h⟩) (fun Q h => ⟨_, rfl, l, _, rfl, .inl (SqL.of hL), rfl, _, rfl, by rw [lx, l4]; exact h⟩) (iteF ?_)
  refine ⟨(by show 0 ≤ 1000; decide), fun p1 H1 n1 => ?_⟩
  refine ⟨_, rfl, l, rfl, ⟨_, SqL.of (n1.same _ _ hL)⟩, ?_⟩
  refine for_list (xs := xs) (fun j σ H' => (∃ v4 : Option V, σ = [some (.ref l), some (.int n), some (.ref r), some (.ref p1), v4, none, none]) ∧ Same H H' ∧ H' p1 = some (.lst ((F.take j).flatten.map V.int))) ⟨⟨_, rfl⟩, n1.same, n1.here⟩ (fun j σ H' _ ⟨_, s', _⟩ => SqL.of (s' _ _ hL)) ?_ ?_
  · rintro j x σ H2 hx ⟨⟨v4, rfl⟩, s2, h12⟩
    obtain ⟨p, hp, ⟨b, eb, hb, fb⟩⟩ := paired_get pF hx
    subst eb
    have pm := List.mem_of_getElem? hp
    have hb2 := s2 _ _ hb
    have asc := G.asc p pm
    have lt := G.lt p pm
    have ndp : p.Nodup := asc.imp fun h => by omega
    have l10 := bag10 n10 ndp lt
    have nep := G.ne p pm
    have et : F.take (j + 1) = F.take j ++ [p] := by rw [List.take_succ, hp]; rfl
    obtain ⟨hd, tl, ep⟩ : ∃ hd tl, p = hd :: tl := by
      cases p with
      | nil => exact absurd rfl nep
      | cons a r => exact ⟨a, r, rfl⟩
    have e1 : (p.map V.int).filterMap (fun _ => some (V.bl true)) = (p.map fun _ => true).map V.bl := by
      rw [List.filterMap_map, List.map_map]
      exact fm_some fun _ _ => rfl
    have e2 : ((p.map fun _ => true).all id) = true := by simp
    refine ⟨_, rfl, _, _, _, _, _, rfl, rfl, TyOf.lst hb2, kitLL, _, rfl, iteF ?_⟩
    refine ⟨_, rfl, b, _, rfl, .inl (SqL.of hb2), rfl, _, rfl, ?_⟩
    rw [decide_eq_false (by intro z; injection z with z; rw [List.length_map, ep, List.length_cons] at z; omega)]
    refine iteF ?_
    refine ⟨_, rfl, b, rfl, ⟨_, SqL.of hb2⟩, ?_⟩
    refine lc_fmN (fun x => some (.bl true)) (SqL.of hb2) (by rw [List.length_map]; omega) (fun x H3 N hx2 s3 hN => ?_) (fun H3 p3 H4 s3 n4 => ?_)
    · obtain ⟨y, _, rfl⟩ := List.mem_map.mp hx2
      exact ⟨_, rfl, _, _, _, _, rfl, TyOf.int _, kit_int_int, kit_int_bool, hN H3 s3⟩
    rw [e1] at n4
    refine ⟨p3, _, _, rfl, SqL.of n4.here, Truths.bls _, ?_⟩
    rw [e2]
    refine ⟨_, rfl, iteF ?_⟩
    have s24 := s3.trans n4.same
    have hb4 := s24 _ _ hb2
    refine ⟨_, rfl, _, rfl, b, p, rfl, SqL.of hb4, (by omega), fun p5 H5 zs n5 pmz le => ?_⟩
    have ez := asc_sorted asc pmz le
    subst ez
    have s25 := s24.trans n5.same
    have hb5 := s25 _ _ hb2
    refine ⟨.list (zs.map PyData.int), .list (zs.map PyData.int), .lst (SqL.of hb5) (IsDs.ints _), .lst (SqL.of n5.here) (IsDs.ints _), shaped_ints _, shaped_ints _, _, rfl, ?_⟩
    rw [if_pos rfl, eqv_self (shaped_ints _)]
    refine iteF ?_
    have hd0 := lt hd (by rw [ep]; exact List.mem_cons_self)
    refine ⟨_, rfl, b, _, _, .int hd, rfl, rfl, SqL.of hb5, (by rw [ep]; exact atI_nat (j := 0) rfl), _, _, rfl, rfl, _, rfl, ?_⟩
    rw [decide_eq_false (by omega)]
    refine iteF ?_
    obtain ⟨ini, la, el⟩ : ∃ ini la, zs = ini ++ [la] := ⟨_, _, (List.dropLast_concat_getLast nep).symm⟩
    have la0 := lt la (by rw [el]; exact List.mem_append_right _ List.mem_cons_self)
    refine ⟨_, rfl, _, rfl, b, _, _, .int la, rfl, rfl, SqL.of hb5, (by rw [el, List.map_append]; exact atI_last _ _), _, rfl, _, _, rfl, rfl, _, rfl, ?_⟩
    rw [decide_eq_false (by omega)]
    refine iteF ?_
    have s5 := s2.trans s25
    refine ⟨_, rfl, _, rfl, r, b, tx, ts, zs, rfl, s5.seq hR, Paired.mapP pR fun _ _ h => tieV_same s5 h, SqL.of hb5, ndp, nep, l10, G.jn zs pm, fun H6 s6 => ⟨_, rfl, iteF ?_⟩⟩
    have s26 := s25.trans s6
    have fl : (F.take j).flatten.length ≤ 40 := by
      have h : ∀ (E : List (List Int)), (∀ p ∈ E, p.length ≤ 10) → E.flatten.length ≤ 10 * E.length := fun E => by
        induction E with
        | nil => exact fun _ => Nat.le_refl _
        | cons a r ih =>
          intro h
          rw [List.flatten_cons, List.length_append, List.length_cons]
          have := ih fun p hp => h p (List.mem_cons_of_mem _ hp)
          have := h a List.mem_cons_self
          omega
      have := h (F.take j) fun p hp => bag10 n10 ((G.asc p (List.mem_of_mem_take hp)).imp fun h => by omega) (G.lt p (List.mem_of_mem_take hp))
      rw [List.length_take] at this
      omega
    refine ⟨_, rfl, .inl ⟨rfl, _, SqL.of (s26 _ _ h12)⟩, _, rfl, p1, b, _, _, rfl, rfl, s26 _ _ h12, s26 _ _ hb2, (by rw [List.length_map, List.length_map]; omega), fun H7 c7 => ⟨⟨_, rfl⟩, (s2.trans s26).chg n1.fresh c7, ?_⟩⟩
    rw [c7.here, et, List.flatten_append, List.map_append, List.flatten_singleton]
  · rintro σ H2 ⟨⟨v4, rfl⟩, s2, h12⟩
    rw [lx, List.take_length] at h12
    dsimp only
    have ndF := flat_nodup G
    have smF : Small F.flatten := fun v hv => by
      obtain ⟨p, hp, hv⟩ := List.mem_flatten.mp hv
      have := G.lt p hp v hv
      exact ⟨this.1, by omega⟩
    refine ⟨_, rfl, p1, F.flatten, rfl, SqL.of h12, smF, fun pS L H3 n3 hL3 => ?_⟩
    refine ⟨pS, true, L, rfl, n3.here, fun ndL => ?_⟩
    have eL : L.length = F.flatten.length := by
      have h1 : (L.map fun u => ((u : Nat) : Int)).Perm F.flatten := (List.perm_ext_iff_of_nodup (nd_map ndL fun x y _ _ e => by omega) ndF).mpr fun v => by
        rw [List.mem_map]
        constructor
        · rintro ⟨u, hu, rfl⟩; exact (hL3 u).mp hu
        · intro hv
          have := smF v hv
          exact ⟨v.toNat, (hL3 _).mpr (by rwa [Int.toNat_of_nonneg this.1]), by omega⟩
      have := h1.length_eq
      rwa [List.length_map] at this
    refine ⟨_, rfl, p1, _, rfl, .inl (SqL.of (n3.same _ _ h12)), rfl, _, rfl, ?_⟩
    rw [List.length_map, eL, decide_eq_true rfl]
    refine iteF ?_
    have s3 := s2.trans n3.same
    refine ⟨_, rfl, by decide, by decide, ?_⟩
    refine for_range (n := 4) (fun i σ H' => (∃ v4 v5 v6 : Option V, σ = [some (.ref l), some (.int n), some (.ref r), some (.ref p1), v4, v5, v6]) ∧ Same H H') ⟨⟨_, _, _, rfl⟩, s3⟩ ?_ ?_
    · rintro i σ H4 hi ⟨⟨v4, v5, v6, rfl⟩, s4⟩
      have ei : (0 : Int) + (i : Int) = ((i : Nat) : Int) := by omega
      rw [ei]
      refine ⟨_, rfl, _, rfl, by omega, by omega, ?_⟩
      rw [Int.toNat_natCast]
      refine for_range (n := i) (fun j σ H' => (∃ v6 : Option V, σ = [some (.ref l), some (.int n), some (.ref r), some (.ref p1), v4, some (.int ((i : Nat) : Int)), v6]) ∧ Same H H') ⟨⟨_, rfl⟩, s4⟩ ?_ ?_
      · rintro j σ H5 hj ⟨⟨v6, rfl⟩, s5⟩
        have ej : (0 : Int) + (j : Int) = ((j : Nat) : Int) := by omega
        rw [ej]
        have il : i < F.length := by omega
        have jl : j < F.length := by omega
        obtain ⟨vi, hvi, ⟨bi, rfl, hbi, _⟩⟩ := paired_getr pF (List.getElem?_eq_getElem il)
        obtain ⟨vj, hvj, ⟨bj, rfl, hbj, _⟩⟩ := paired_getr pF (List.getElem?_eq_getElem jl)
        have ne : F[j] ≠ F[i] := fun e => by
          have := (List.getElem?_inj jl G.nd).mp (show F[j]? = F[i]? by rw [List.getElem?_eq_getElem jl, List.getElem?_eq_getElem il, e])
          omega
        refine ⟨_, rfl, _, rfl, _, rfl, l, _, _, _, rfl, rfl, SqL.of (s5 _ _ hL), atI_nat hvj, _, rfl, _, rfl, l, _, _, _, rfl, rfl, SqL.of (s5 _ _ hL), atI_nat hvi, r, bj, bi, tx, ts, F[j], F[i], rfl, s5.seq hR, Paired.mapP pR fun _ _ h => tieV_same s5 h, SqL.of (s5 _ _ hbj), SqL.of (s5 _ _ hbi), tr _ (List.getElem_mem jl) _ (List.getElem_mem il) ne, (fun v hv hw => ne (G.same (List.getElem_mem jl) (List.getElem_mem il) hv hw)), fun H6 s6 => ⟨_, rfl, iteF ⟨⟨_, rfl⟩, s5.trans s6⟩⟩⟩
      · rintro σ H5 ⟨⟨v6, rfl⟩, s5⟩
        exact ⟨⟨_, _, _, rfl⟩, s5⟩
    · rintro σ H4 ⟨⟨v4, v5, v6, rfl⟩, s4⟩
      exact q H4 s4
end

end K


namespace K
open PySem L2 Lw Bg
abbrev s_law : Stmt := top 35
theorem sc_law : FnScope ["_law_script", "_law_n", "_law_ties_here", "_law_none", "_law_k", "_law_web", "_law_found"] ["_law_script"] (defScope s_law) := ⟨rfl, rfl, rfl, by decide +kernel, rfl, by decide +kernel, by decide +kernel⟩
section
variable {P : Program} {w : World} {K : PySem.W.Frag} {mg : Str → Option Value} {base : Heap}
set_option maxHeartbeats 16000000 in
theorem ok_law (B : Bl mg) (d_is_whole : Dn K mg "is_whole" s_is_whole ["thing"]) (d_is_below : Dn K mg "is_below" s_is_below ["n", "thing"]) (d_common : Dn K mg "common" s_common ["one", "other"]) (d_less : Dn K mg "less" s_less ["one", "other"]) (d_joint : Dn K mg "joint" s_joint ["one", "other"]) (d_around : Dn K mg "around" s_around ["graph", "v"]) (d_rim : Dn K mg "rim" s_rim ["graph", "places"]) (d_touch : Dn K mg "touch" s_touch ["graph", "one", "other"]) (d_places_of : Dn K mg "places_of" s_places_of ["mask"]) (d_mask_sizes : Dn K mg "mask_sizes" s_mask_sizes ["n"]) (d_first_bags : Dn K mg "first_bags" s_first_bags ["graph"]) (d_taken_out : Dn K mg "taken_out" s_taken_out ["bags", "v"]) (d_folds : Dn K mg "folds" s_folds ["graph"]) (d_first_to_fold : Dn K mg "first_to_fold" s_first_to_fold ["bags", "sizes"]) (d_is_firm : Dn K mg "is_firm" s_is_firm ["graph", "parts"]) (d_firm_of : Dn K mg "firm_of" s_firm_of ["graph", "fewer", "parts"]) (d_made_one : Dn K mg "made_one" s_made_one ["parts", "a", "b"]) (d_four : Dn K mg "four" s_four ["graph"]) (d__law_cell : Dn K mg "_law_cell" s__law_cell ["_law_script", "_law_k"]) (d__law_whole : Dn K mg "_law_whole" s__law_whole ["_law_thing"]) (d__law_turned : Dn K mg "_law_turned" s__law_turned ["_law_script", "_law_n"]) (d__law_parted : Dn K mg "_law_parted" s__law_parted ["_law_script", "_law_n", "_law_a", "_law_b"]) (d__law_ties : Dn K mg "_law_ties" s__law_ties ["_law_script", "_law_n"]) (d__law_folds : Dn K mg "_law_folds" s__law_folds ["_law_n", "_law_ties_here"]) (d__law_joined : Dn K mg "_law_joined" s__law_joined ["_law_ties_here", "_law_part"]) (d__law_tied : Dn K mg "_law_tied" s__law_tied ["_law_ties_here", "_law_one", "_law_other"]) (d__law_four : Dn K mg "_law_four" s__law_four ["_law_found", "_law_n", "_law_ties_here"]) (d_law : Dn K mg "law" s_law ["_law_script"]) : FnOk P w K mg base CX0 9 d_law.f d_law.fd ["_law_script"] (spLaw K) := by
  have G__law_cell : FnOk P w K mg base CX0 8 _ _ _ _ := (ok__law_cell B d__law_cell).mono (by decide)
  have G__law_ties : FnOk P w K mg base CX0 8 _ _ _ _ := (ok__law_ties B d__law_cell d__law_turned d__law_parted d__law_ties).mono (by decide)
  have G__law_folds : FnOk P w K mg base CX0 8 _ _ _ _ := (ok__law_folds B d__law_folds).mono (by decide)
  have G__law_four : FnOk P w K mg base CX0 8 _ _ _ _ := (ok__law_four B d__law_whole d__law_joined d__law_tied d__law_four).mono (by decide)
  have G_four : FnOk P w K mg base CX0 8 _ _ _ _ := ok_four B d_is_whole d_is_below d_common d_less d_joint d_around d_rim d_touch d_places_of d_mask_sizes d_first_bags d_taken_out d_folds d_first_to_fold d_is_firm d_firm_of d_made_one d_four
  refine d_law.F.ok sc_law (fun vs H Q E h => ?_) (fun cdv A outer s H vs Q E hr h => ?_)
  · obtain ⟨a, ns, rfl, _⟩ := h
    rfl
  obtain ⟨a, ns, rfl, hS, h63, q⟩ := h
  have hu : (A.deeper (PyProof.Rows.envOfC "law" (defScope s_law) s.heap.objs.size d_law.f cdv)).units + 64 < cLine := by have := hr.un; omega
  refine ⟨_, (pss_cons (ps_set (i := 1) sc_law.nd rfl (Or.inl rfl) (pe_op op_mod (pe_call G__law_cell hr rfl d__law_cell.m d__law_cell.F.kp d__law_cell.b .nil pass0 (pa_cons (pv 0) (pa_cons pe_int pa_nil))) pe_int))
      (pss_cons (ps_set (i := 2) sc_law.nd rfl (Or.inl rfl) (pe_call G__law_ties hr rfl d__law_ties.m d__law_ties.F.kp d__law_ties.b .nil pass0 (pa_cons (pv 0) (pa_cons (pv 1) pa_nil))))
      (pss_cons (ps_set (i := 3) sc_law.nd rfl (Or.inl rfl) (pe_call G__law_folds hr rfl d__law_folds.m d__law_folds.F.kp d__law_folds.b .nil pass0 (pa_cons (pv 1) (pa_cons (pv 2) pa_nil))))
      (pss_cons (ps_for PassesOwn.never rfl (pi_range1 rfl B.range (pa_cons pe_int pa_nil)) (pg_name (i := 4) sc_law.nd rfl (Or.inl rfl))
      (pss_cons (ps_set (i := 5) sc_law.nd rfl (Or.inl rfl) (pe_tupN (pa_cons (pv 1) (pa_cons (pe_callTy (call_listN (K := K) rfl) rfl B.list (by decide +kernel) (pa_cons (pv 2) pa_nil)) pa_nil))))
      (pss_cons (ps_set (i := 6) sc_law.nd rfl (Or.inl rfl) (pe_call G_four hr rfl d_four.m d_four.F.kp d_four.b .nil pass0 (pa_cons (pv 5) pa_nil)))
      (pss_cons (ps_if (PW.pt (pw_or (pt_cmpR (op_neDK (K := K) rfl hu) (pv 5) (pe_tupN (pa_cons (pv 1) (pa_cons (pv 2) pa_nil))) (nomark _)) (pw_or1 (pt_cmpR op_ne (pe_cmpR op_isN (pv 6) pe_non (nomark _)) (pv 3) (nomark _)))))
      (pss_one (ps_ret pe_bl))
      pss_nil)
      (pss_one (ps_if (pt_cmpR op_notN (pv 6) pe_non (nomark _))
      (pss_cons (ps_if (pt_not (pt_truthK (K := K) rfl (pe_call G__law_four hr rfl d__law_four.m d__law_four.F.kp d__law_four.b .nil pass0 (pa_cons (pv 6) (pa_cons (pv 1) (pa_cons (pv 2) pa_nil)))) (fun _ => rfl)))
      (pss_one (ps_ret pe_bl))
      pss_nil)
      (pss_cons (ps_expr (pe_bmK (K := K) rfl PySem.F.plainAttrs_list PySem.F.slot_list_append PySem.F.type_list_append mt_appendN (pe_ix (ix_listK (K := K) rfl) (pv 6) pe_int (fun _ _ => rfl)) (pa_cons pe_int pa_nil)))
      (pss_one (ps_expr (pe_bmK (K := K) rfl PySem.F.plainAttrs_list PySem.F.slot_list_append PySem.F.type_list_append mt_appendN (pv 6) (pa_cons (pe_lstN (pa_cons pe_int pa_nil)) pa_nil))))))
      pss_nil))))))
      (pss_one (ps_ret pe_bl)))))), ?_⟩
  refine ⟨_, rfl, a, ns, 0, rfl, hS, h63, by decide, by decide, fun z0 => ⟨_, _, rfl, rfl, (show (0 : Int) < _ by decide), ?_⟩⟩
  have w0 := Int.emod_nonneg z0 (show (11 : Int) ≠ 0 by decide)
  have w1 := Int.emod_lt_of_pos z0 (show (0 : Int) < 11 by decide)
  obtain ⟨n, en⟩ : ∃ n : Nat, z0 % 11 = (n : Int) := ⟨(z0 % 11).toNat, by omega⟩
  dsimp only
  rw [en]
  have n10 : n ≤ 10 := by omega
  refine ⟨_, rfl, _, rfl, a, ns, n, rfl, hS, h63, n10, fun r tx ts H1 s1 fr hr1 pt okt l100 nd => ?_⟩
  refine ⟨_, rfl, _, rfl, n, r, tx, ts, rfl, hr1, pt, okt, nd, l100, n10, fun H2 b s2 hb => ?_⟩
  have ltx := Paired.length pt
  refine ⟨_, rfl, by decide, by decide, ?_⟩
  refine for_range (n := 2) (fun i σ H' => (∃ v4 v5 v6 : Option V, σ = [some (.ref a), some (.int (n : Int)), some (.ref r), some (.bl b), v4, v5, v6]) ∧ Same H2 H') ⟨⟨_, _, _, rfl⟩, Same.refl _⟩ ?_ ?_
  · rintro i σ H3 hi ⟨⟨v4, v5, v6, rfl⟩, s3⟩
    have s13 := s2.trans s3
    have hr3 := s13 _ _ hr1
    have pt3 := Paired.mapP pt fun _ _ h => TieL.same s13 h
    refine ⟨_, rfl, _, rfl, r, _, rfl, .inl (SqL.of hr3), fun p4 H4 n4 => ⟨(by show 2 ≤ 1000; decide), fun pw H5 n5 => ?_⟩⟩
    have s35 := n4.same.trans n5.same
    have pt5 := Paired.mapP pt3 fun _ _ h => TieL.same s35 h
    have gA : GraphV K H5 (.ref pw) n ts := ⟨pw, p4, rfl, SqT.of n5.here, tx, SqL.of (n5.same _ _ n4.here), Paired.mapP pt5 fun _ _ h => h.v, by omega⟩
    have datas : ∀ {H' : Hp} {x : Addr}, Same H5 H' → H' x = some (.lst tx) → TiesAt K H' x ts := fun {H' x} s h => ⟨tx, SqL.of h, Paired.mapP pt5 fun _ _ q => (TieL.same s q).v, by omega⟩
    refine ⟨_, rfl, .ref pw, n, ts, rfl, gA, n10, by omega, okt, fun fo H6 s6 => ?_, fun nfo l xs F H6 s6 fl hl pF G l4 tr => ?_⟩
    · have s36 := s35.trans s6
      refine ⟨_, rfl, _, rfl, _, rfl, (by show 2 ≤ 1000; decide), fun p9 H9 n9 => ?_⟩
      have s39 := s36.trans n9.same
      have s59 := s6.trans n9.same
      have gg : GraphV K H9 (.ref p9) n ts := ⟨p9, r, rfl, SqT.of n9.here, datas s59 (s39 _ _ hr3)⟩
      refine ⟨_, _, (gA.same s59).isD, gg.isD, shaped_web _ _, shaped_web _ _, _, rfl, ?_⟩
      rw [if_pos rfl, eqv_self (shaped_web _ _)]
      refine iteF ?_
      have eb := hb.mpr fo
      subst eb
      refine ⟨_, rfl, rfl, _, rfl, rfl, _, rfl, ?_⟩
      rw [neB]
      refine iteF ?_
      refine ⟨_, rfl, rfl, _, rfl, iteF ⟨⟨_, _, _, rfl⟩, s3.trans s39⟩⟩
    · have s36 := s35.trans s6
      refine ⟨_, rfl, _, rfl, _, rfl, (by show 2 ≤ 1000; decide), fun p9 H9 n9 => ?_⟩
      have s39 := s36.trans n9.same
      have s59 := s6.trans n9.same
      have gg : GraphV K H9 (.ref p9) n ts := ⟨p9, r, rfl, SqT.of n9.here, datas s59 (s39 _ _ hr3)⟩
      refine ⟨_, _, (gA.same s59).isD, gg.isD, shaped_web _ _, shaped_web _ _, _, rfl, ?_⟩
      rw [if_pos rfl, eqv_self (shaped_web _ _)]
      refine iteF ?_
      have eb : b = false := Bool.eq_false_iff.mpr fun z => nfo (hb.mp z)
      subst eb
      refine ⟨_, rfl, rfl, _, rfl, rfl, _, rfl, ?_⟩
      rw [neB]
      refine iteF ?_
      refine ⟨_, rfl, rfl, _, rfl, iteT ?_⟩
      have pF9 := Paired.mapP pF fun _ _ h => PtL.same n9.same h
      have hl9 := n9.same _ _ hl
      refine ⟨_, rfl, _, rfl, _, rfl, l, r, H5, xs, tx, F, ts, n, rfl, hl9, pF9, SqL.of (s39 _ _ hr3), Paired.mapP pt5 fun _ _ h => (TieL.same s59 h).v, G, n10, l4, tr, fun H10 s10 => ⟨_, rfl, iteF ?_⟩⟩
      have lF := Paired.length pF
      obtain ⟨v0, hv0, ⟨b0, rfl, hb0, fb0⟩⟩ := paired_getr pF9 (List.getElem?_eq_getElem (show 0 < F.length by omega))
      have lb0 : F[0].length ≤ 10 := bag10 n10 ((G.asc _ (List.getElem_mem (by omega))).imp fun h => by omega) (G.lt _ (List.getElem_mem (by omega)))
      refine ⟨_, rfl, l, _, _, _, rfl, rfl, SqL.of (s10 _ _ hl9), atI_nat (j := 0) hv0, .inl ⟨rfl, _, SqL.of (s10 _ _ hb0)⟩, b0, _, _, rfl, rfl, s10 _ _ hb0, (by rw [List.length_map]; omega), fun H11 c11 => ?_⟩
      have nl : l ≠ b0 := fun e => by
        rw [e] at hl9
        rw [hl9] at hb0
        injection hb0 with z
        injection z with z
        have h0 : xs[0]? = ((F[0]).map V.int)[0]? := by rw [z]
        rw [hv0, List.getElem?_map] at h0
        cases hq : F[0][0]? with
        | none => rw [hq] at h0; cases h0
        | some y => rw [hq] at h0; cases h0
      have hl11 := (c11.rest l nl).trans (s10 _ _ hl9)
      have s5b : Same H5 H11 := (s59.trans s10).chg fb0 c11
      refine ⟨_, rfl, .inl ⟨rfl, _, SqL.of hl11⟩, (by show 1 ≤ 1000; decide), fun p12 H12 n12 => ?_⟩
      refine ⟨l, _, _, rfl, rfl, n12.same _ _ hl11, (by omega), fun H13 c13 => ⟨⟨_, _, _, rfl⟩, ?_⟩⟩
      exact s3.trans (s35.trans ((s5b.trans n12.same).chg fl c13))
  · rintro σ H3 ⟨⟨v4, v5, v6, rfl⟩, s3⟩
    exact q _
end

end K

open PySem PySem.W PyProof.Rows
set_option maxRecDepth 100000 in
set_option maxHeartbeats 0 in
theorem PySem.Challenge.cw_bagwood_k48_four_that_touch_holds : PySem.Challenge.rw_bagwood_k48_four_that_touch.Holds := by
  w_on; o_law; k_head; (case hw => w_witness2)
  k_fill
  refine L2.walk_ofK (l := PySem.Challenge.rw_bagwood_k48_four_that_touch) (n := 63) (k := 9) (x := "_law_script") (CX := L2.CX0) (sp := Lw.spLaw) rfl (by decide) rfl ⟨rfl, by decide, by decide⟩ (fun w h Y => PySem.W.kIn_of Y) ?F ?S ?C
  case F =>
    intro w mg fa h KX G hmg
    have B : L2.Bl mg := by
      refine' L2.bl_mk KX G ?z1 ?z2 ?z3 ?z4 ?z5 ?z6 ?z7 ?z8 ?z9 ?z10 ?z11 ?z12 ?z13 ?z14 ?z15 ?z16 ?z17
      all_goals k_is
    have d_is_whole : Nonempty (L2.Dn (L2.KOf KX) mg "is_whole" K.s_is_whole ["thing"]) := by
      dsimp only [L2.KOf]
      refine' L2.dn_mk1 KX G ?a ?l ?c ?k rfl (fun _ _ _ _ _ _ _ => rfl)
      (case a => k_is); (case l => k_is); (case c => k_is); (case k => k_is)
    obtain ⟨d_is_whole⟩ := d_is_whole
    have d_is_below : Nonempty (L2.Dn (L2.KOf KX) mg "is_below" K.s_is_below ["n", "thing"]) := by
      dsimp only [L2.KOf]
      refine' L2.dn_mk2 KX G ?a ?l ?c ?k rfl (fun _ _ _ _ _ _ _ _ => rfl)
      (case a => k_is); (case l => k_is); (case c => k_is); (case k => k_is)
    obtain ⟨d_is_below⟩ := d_is_below
    have d_common : Nonempty (L2.Dn (L2.KOf KX) mg "common" K.s_common ["one", "other"]) := by
      dsimp only [L2.KOf]
      refine' L2.dn_mk2 KX G ?a ?l ?c ?k rfl (fun _ _ _ _ _ _ _ _ => rfl)
      (case a => k_is); (case l => k_is); (case c => k_is); (case k => k_is)
    obtain ⟨d_common⟩ := d_common
    have d_less : Nonempty (L2.Dn (L2.KOf KX) mg "less" K.s_less ["one", "other"]) := by
      dsimp only [L2.KOf]
      refine' L2.dn_mk2 KX G ?a ?l ?c ?k rfl (fun _ _ _ _ _ _ _ _ => rfl)
      (case a => k_is); (case l => k_is); (case c => k_is); (case k => k_is)
    obtain ⟨d_less⟩ := d_less
    have d_joint : Nonempty (L2.Dn (L2.KOf KX) mg "joint" K.s_joint ["one", "other"]) := by
      dsimp only [L2.KOf]
      refine' L2.dn_mk2 KX G ?a ?l ?c ?k rfl (fun _ _ _ _ _ _ _ _ => rfl)
      (case a => k_is); (case l => k_is); (case c => k_is); (case k => k_is)
    obtain ⟨d_joint⟩ := d_joint
    have d_around : Nonempty (L2.Dn (L2.KOf KX) mg "around" K.s_around ["graph", "v"]) := by
      dsimp only [L2.KOf]
      refine' L2.dn_mk2 KX G ?a ?l ?c ?k rfl (fun _ _ _ _ _ _ _ _ => rfl)
      (case a => k_is); (case l => k_is); (case c => k_is); (case k => k_is)
    obtain ⟨d_around⟩ := d_around
    have d_rim : Nonempty (L2.Dn (L2.KOf KX) mg "rim" K.s_rim ["graph", "places"]) := by
      dsimp only [L2.KOf]
      refine' L2.dn_mk2 KX G ?a ?l ?c ?k rfl (fun _ _ _ _ _ _ _ _ => rfl)
      (case a => k_is); (case l => k_is); (case c => k_is); (case k => k_is)
    obtain ⟨d_rim⟩ := d_rim
    have d_touch : Nonempty (L2.Dn (L2.KOf KX) mg "touch" K.s_touch ["graph", "one", "other"]) := by
      dsimp only [L2.KOf]
      refine' L2.dn_mk3 KX G ?a ?l ?c ?k rfl (fun _ _ _ _ _ _ _ _ _ => rfl)
      (case a => k_is); (case l => k_is); (case c => k_is); (case k => k_is)
    obtain ⟨d_touch⟩ := d_touch
    have d_places_of : Nonempty (L2.Dn (L2.KOf KX) mg "places_of" K.s_places_of ["mask"]) := by
      dsimp only [L2.KOf]
      refine' L2.dn_mk1 KX G ?a ?l ?c ?k rfl (fun _ _ _ _ _ _ _ => rfl)
      (case a => k_is); (case l => k_is); (case c => k_is); (case k => k_is)
    obtain ⟨d_places_of⟩ := d_places_of
    have d_mask_sizes : Nonempty (L2.Dn (L2.KOf KX) mg "mask_sizes" K.s_mask_sizes ["n"]) := by
      dsimp only [L2.KOf]
      refine' L2.dn_mk1 KX G ?a ?l ?c ?k rfl (fun _ _ _ _ _ _ _ => rfl)
      (case a => k_is); (case l => k_is); (case c => k_is); (case k => k_is)
    obtain ⟨d_mask_sizes⟩ := d_mask_sizes
    have d_first_bags : Nonempty (L2.Dn (L2.KOf KX) mg "first_bags" K.s_first_bags ["graph"]) := by
      dsimp only [L2.KOf]
      refine' L2.dn_mk1 KX G ?a ?l ?c ?k rfl (fun _ _ _ _ _ _ _ => rfl)
      (case a => k_is); (case l => k_is); (case c => k_is); (case k => k_is)
    obtain ⟨d_first_bags⟩ := d_first_bags
    have d_taken_out : Nonempty (L2.Dn (L2.KOf KX) mg "taken_out" K.s_taken_out ["bags", "v"]) := by
      dsimp only [L2.KOf]
      refine' L2.dn_mk2 KX G ?a ?l ?c ?k rfl (fun _ _ _ _ _ _ _ _ => rfl)
      (case a => k_is); (case l => k_is); (case c => k_is); (case k => k_is)
    obtain ⟨d_taken_out⟩ := d_taken_out
    have d_folds : Nonempty (L2.Dn (L2.KOf KX) mg "folds" K.s_folds ["graph"]) := by
      dsimp only [L2.KOf]
      refine' L2.dn_mk1 KX G ?a ?l ?c ?k rfl (fun _ _ _ _ _ _ _ => rfl)
      (case a => k_is); (case l => k_is); (case c => k_is); (case k => k_is)
    obtain ⟨d_folds⟩ := d_folds
    have d_first_to_fold : Nonempty (L2.Dn (L2.KOf KX) mg "first_to_fold" K.s_first_to_fold ["bags", "sizes"]) := by
      dsimp only [L2.KOf]
      refine' L2.dn_mk2 KX G ?a ?l ?c ?k rfl (fun _ _ _ _ _ _ _ _ => rfl)
      (case a => k_is); (case l => k_is); (case c => k_is); (case k => k_is)
    obtain ⟨d_first_to_fold⟩ := d_first_to_fold
    have d_is_firm : Nonempty (L2.Dn (L2.KOf KX) mg "is_firm" K.s_is_firm ["graph", "parts"]) := by
      dsimp only [L2.KOf]
      refine' L2.dn_mk2 KX G ?a ?l ?c ?k rfl (fun _ _ _ _ _ _ _ _ => rfl)
      (case a => k_is); (case l => k_is); (case c => k_is); (case k => k_is)
    obtain ⟨d_is_firm⟩ := d_is_firm
    have d_firm_of : Nonempty (L2.Dn (L2.KOf KX) mg "firm_of" K.s_firm_of ["graph", "fewer", "parts"]) := by
      dsimp only [L2.KOf]
      refine' L2.dn_mk3 KX G ?a ?l ?c ?k rfl (fun _ _ _ _ _ _ _ _ _ => rfl)
      (case a => k_is); (case l => k_is); (case c => k_is); (case k => k_is)
    obtain ⟨d_firm_of⟩ := d_firm_of
    have d_made_one : Nonempty (L2.Dn (L2.KOf KX) mg "made_one" K.s_made_one ["parts", "a", "b"]) := by
      dsimp only [L2.KOf]
      refine' L2.dn_mk3 KX G ?a ?l ?c ?k rfl (fun _ _ _ _ _ _ _ _ _ => rfl)
      (case a => k_is); (case l => k_is); (case c => k_is); (case k => k_is)
    obtain ⟨d_made_one⟩ := d_made_one
    have d_four : Nonempty (L2.Dn (L2.KOf KX) mg "four" K.s_four ["graph"]) := by
      dsimp only [L2.KOf]
      refine' L2.dn_mk1 KX G ?a ?l ?c ?k rfl (fun _ _ _ _ _ _ _ => rfl)
      (case a => k_is); (case l => k_is); (case c => k_is); (case k => k_is)
    obtain ⟨d_four⟩ := d_four
    have d__law_cell : Nonempty (L2.Dn (L2.KOf KX) mg "_law_cell" K.s__law_cell ["_law_script", "_law_k"]) := by
      dsimp only [L2.KOf]
      refine' L2.dn_mk2 KX G ?a ?l ?c ?k rfl (fun _ _ _ _ _ _ _ _ => rfl)
      (case a => k_is); (case l => k_is); (case c => k_is); (case k => k_is)
    obtain ⟨d__law_cell⟩ := d__law_cell
    have d__law_whole : Nonempty (L2.Dn (L2.KOf KX) mg "_law_whole" K.s__law_whole ["_law_thing"]) := by
      dsimp only [L2.KOf]
      refine' L2.dn_mk1 KX G ?a ?l ?c ?k rfl (fun _ _ _ _ _ _ _ => rfl)
      (case a => k_is); (case l => k_is); (case c => k_is); (case k => k_is)
    obtain ⟨d__law_whole⟩ := d__law_whole
    have d__law_turned : Nonempty (L2.Dn (L2.KOf KX) mg "_law_turned" K.s__law_turned ["_law_script", "_law_n"]) := by
      dsimp only [L2.KOf]
      refine' L2.dn_mk2 KX G ?a ?l ?c ?k rfl (fun _ _ _ _ _ _ _ _ => rfl)
      (case a => k_is); (case l => k_is); (case c => k_is); (case k => k_is)
    obtain ⟨d__law_turned⟩ := d__law_turned
    have d__law_parted : Nonempty (L2.Dn (L2.KOf KX) mg "_law_parted" K.s__law_parted ["_law_script", "_law_n", "_law_a", "_law_b"]) := by
      dsimp only [L2.KOf]
      refine' L2.dn_mk4 KX G ?a ?l ?c ?k rfl (fun _ _ _ _ _ _ _ _ _ _ => rfl)
      (case a => k_is); (case l => k_is); (case c => k_is); (case k => k_is)
    obtain ⟨d__law_parted⟩ := d__law_parted
    have d__law_ties : Nonempty (L2.Dn (L2.KOf KX) mg "_law_ties" K.s__law_ties ["_law_script", "_law_n"]) := by
      dsimp only [L2.KOf]
      refine' L2.dn_mk2 KX G ?a ?l ?c ?k rfl (fun _ _ _ _ _ _ _ _ => rfl)
      (case a => k_is); (case l => k_is); (case c => k_is); (case k => k_is)
    obtain ⟨d__law_ties⟩ := d__law_ties
    have d__law_folds : Nonempty (L2.Dn (L2.KOf KX) mg "_law_folds" K.s__law_folds ["_law_n", "_law_ties_here"]) := by
      dsimp only [L2.KOf]
      refine' L2.dn_mk2 KX G ?a ?l ?c ?k rfl (fun _ _ _ _ _ _ _ _ => rfl)
      (case a => k_is); (case l => k_is); (case c => k_is); (case k => k_is)
    obtain ⟨d__law_folds⟩ := d__law_folds
    have d__law_joined : Nonempty (L2.Dn (L2.KOf KX) mg "_law_joined" K.s__law_joined ["_law_ties_here", "_law_part"]) := by
      dsimp only [L2.KOf]
      refine' L2.dn_mk2 KX G ?a ?l ?c ?k rfl (fun _ _ _ _ _ _ _ _ => rfl)
      (case a => k_is); (case l => k_is); (case c => k_is); (case k => k_is)
    obtain ⟨d__law_joined⟩ := d__law_joined
    have d__law_tied : Nonempty (L2.Dn (L2.KOf KX) mg "_law_tied" K.s__law_tied ["_law_ties_here", "_law_one", "_law_other"]) := by
      dsimp only [L2.KOf]
      refine' L2.dn_mk3 KX G ?a ?l ?c ?k rfl (fun _ _ _ _ _ _ _ _ _ => rfl)
      (case a => k_is); (case l => k_is); (case c => k_is); (case k => k_is)
    obtain ⟨d__law_tied⟩ := d__law_tied
    have d__law_four : Nonempty (L2.Dn (L2.KOf KX) mg "_law_four" K.s__law_four ["_law_found", "_law_n", "_law_ties_here"]) := by
      dsimp only [L2.KOf]
      refine' L2.dn_mk3 KX G ?a ?l ?c ?k rfl (fun _ _ _ _ _ _ _ _ _ => rfl)
      (case a => k_is); (case l => k_is); (case c => k_is); (case k => k_is)
    obtain ⟨d__law_four⟩ := d__law_four
    have d_law : Nonempty (L2.Dn (L2.KOf KX) mg "law" K.s_law ["_law_script"]) := by
      dsimp only [L2.KOf]
      refine' L2.dn_mk1 KX G ?a ?l ?c ?k rfl (fun _ _ _ _ _ _ _ => rfl)
      (case a => k_is); (case l => k_is); (case c => k_is); (case k => k_is)
    obtain ⟨d_law⟩ := d_law
    exact L2.law_at hmg d_law fun base => K.ok_law B d_is_whole d_is_below d_common d_less d_joint d_around d_rim d_touch d_places_of d_mask_sizes d_first_bags d_taken_out d_folds d_first_to_fold d_is_firm d_firm_of d_made_one d_four d__law_cell d__law_whole d__law_turned d__law_parted d__law_ties d__law_folds d__law_joined d__law_tied d__law_four d_law
  case S => exact fun K H a ns hl hO hS => ⟨a, ns, rfl, Lw.Scr.of hO hS, hl, fun _ => rfl⟩
  case C => exact fun _ _ _ _ z => z

