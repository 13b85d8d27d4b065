import PyProof.Rows.All
import Wide.All
import OpenK.AllK
import Wide.FinOn
import Lean
import PyProof.EqAt
import PyProof.EqKinds
import PyProof.TupleCall
import PyProof.SetScanFacts
import PyProof.SetKind
import PyProof.DictKinds
import PyProof.FactsAll.set_0
import PyProof.FactsAll.set_1
import PyProof.FactsAll.set_2
import PyProof.FactsAll.set_3
import PyProof.FactsSeq
import PyProof.CollectWalk
import PyProof.ListRange
import PyProof.ZipIter
import PyProof.MeetsSeq
import PyProof.IsRules
import PyProof.Rows.ZipGen
import PyProof.SumWalkG
import PyProof.DictWalks
import PyProof.Rows.SortShell
import PyProof.Rows.SetFrom
import PyProof.SetRoads
import KE.KIntText
import KE.IntTextLaws
import PyProof.StrWalks
import PyProof.StrOps2
import PyProof.SliceStr2
import PyProof.PureStr
import PyProof.StrCalls3
import PyProof.Rows.StrMadeLen
import PyProof.StrLawsIn
import PyProof.Rows.StrWeight2
import PyProof.Rows.StrNews2
import PyProof.StrLawsTight
import PyProof.Rows.StrItems
import PyProof.StrCalls6
import PyProof.StrLawsReplace
import PySem.Challenge.RW_bagwood_k82_bags_read
set_option Elab.async false
set_option linter.all false
set_option maxRecDepth 100000
local macro_rules | `(tactic| omega) => `(tactic| first | lia | omega (config := {}))
/-! THE HAND LAYER, for ints, bools, texts, own classes, LISTS and tuples (index, slices, in, append, pop ..), calls, loops. Paste it whole ahead of your own text; what your proof does not reach may be deleted. -/
namespace L2
open PySem PySem.Spec PyProof.Rows

/-- a key: an int or a str -/
abbrev Key := Sum Int Str
def keyIs : Key → Value → Bool
  | .inl k, v => Value.isInt k v
  | .inr x, v => Value.isStrOf x v
def keyH (w : World) : Key → Int
  | .inl k => hashInt k
  | .inr x => hashStr w x
theorem keyIs_shape : ∀ {k : Key} {v : Value}, keyIs k v = true → (∃ i t, k = Sum.inl i ∧ v = Value.int i t) ∨ (∃ x t, k = Sum.inr x ∧ v = Value.str x t)
  | .inl i, v, h => by
    obtain ⟨t, e⟩ := Value.isInt_shape (k := i) (v := v) h
    exact .inl ⟨i, t, rfl, e⟩
  | .inr x, v, h => by
    obtain ⟨t, e⟩ := Value.isStrOf_shape (x := x) (v := v) h
    exact .inr ⟨x, t, rfl, e⟩
theorem key_ll (a b : Int) : decide ((Sum.inl a : Key) = Sum.inl b) = (a == b) := by
  by_cases e : a = b
  · subst e; simp
  · have h : ¬ (Sum.inl a : Key) = Sum.inl b := fun q => e (Sum.inl.inj q)
    rw [decide_eq_false h]
    exact (beq_eq_false_iff_ne.mpr e).symm
theorem key_rr (a b : Str) : decide ((Sum.inr a : Key) = Sum.inr b) = decide (a = b) := by
  by_cases e : a = b
  · subst e; simp
  · have h : ¬ (Sum.inr a : Key) = Sum.inr b := fun q => e (Sum.inr.inj q)
    rw [decide_eq_false h, decide_eq_false e]
theorem key_lr (a : Int) (b : Str) : decide ((Sum.inl a : Key) = Sum.inr b) = false := decide_eq_false (fun q => nomatch q)
theorem key_rl (a : Str) (b : Int) : decide ((Sum.inr a : Key) = Sum.inl b) = false := decide_eq_false (fun q => nomatch q)

def mixKind (prog : Program) (w : World) : PySem.KeyKind prog w Key where
  is := keyIs
  hash := keyH w
  inj := fun v a b ha hb => by
    rcases keyIs_shape ha with ⟨i, t, rfl, rfl⟩ | ⟨x, t, rfl, rfl⟩
    · rcases keyIs_shape hb with ⟨j, u, rfl, e⟩ | ⟨y, u, rfl, e⟩
      · injection e with e1 _; rw [e1]
      · exact nomatch e
    · rcases keyIs_shape hb with ⟨j, u, rfl, e⟩ | ⟨y, u, rfl, e⟩
      · exact nomatch e
      · injection e with e1 _; rw [e1]
  byValue := fun k v h => by
    rcases keyIs_shape h with ⟨i, t, rfl, rfl⟩ | ⟨x, t, rfl, rfl⟩ <;> rfl
  pyHash := fun hv h => by
    rcases keyIs_shape hv with ⟨i, t, rfl, rfl⟩ | ⟨x, t, rfl, rfl⟩
    · exact wpAny_pyHash_int h
    · exact wpAny_pyHash_str h
  eqBool := fun hu hv h => by
    rcases keyIs_shape hu with ⟨i, t, rfl, rfl⟩ | ⟨x, t, rfl, rfl⟩
    · rcases keyIs_shape hv with ⟨j, u, rfl, rfl⟩ | ⟨y, u, rfl, rfl⟩
      · rw [key_ll] at h; exact wpAny_eqBool_int h
      · rw [key_lr] at h; exact SeqAt.EqAt.int_str i t y u _ _ _ _ h
    · rcases keyIs_shape hv with ⟨j, u, rfl, rfl⟩ | ⟨y, u, rfl, rfl⟩
      · rw [key_rl] at h; exact SeqAt.EqAt.str_int x t j u _ _ _ _ h
      · rw [key_rr] at h; exact wpAny_eqBool_str h
  «strs» := fun k x t v h => by
    rcases keyIs_shape h with ⟨i, u, rfl, e⟩ | ⟨y, u, rfl, e⟩
    · exact nomatch e
    · injection e with e1 _
      subst e1
      cases v <;> rfl

end L2

namespace L2
open PySem PySem.Spec PyProof.Rows

/-- a value, without the heap -/
inductive V where
  | non | bl (b : Bool) | int (i : Int) | str (x : Str) | byt (b : Array UInt8) | flt (b : UInt64) | ref (a : Addr) | ty (n : String)
  deriving DecidableEq

def RelV : V → Value → Prop
  | .non, u => u = Value.none
  | .bl b, u => u = Value.bool b
  | .int i, u => ∃ t, u = Value.int i t
  | .str x, u => ∃ t, u = Value.str x t
  | .byt b, u => ∃ t, u = Value.bytes b t
  | .flt b, u => ∃ t, u = Value.float b t
  | .ref a, u => u = Value.ref a
  | .ty n, u => u = Value.type n

abbrev Vals : List V → List Value → Prop := Paired RelV
theorem Vals.length {xs : List V} {us : List Value} (r : Vals xs us) : xs.length = us.length := Paired.length r
theorem Vals.get : ∀ {xs : List V} {us : List Value} {i : Nat} {x : V}, Vals xs us → xs[i]? = some x → ∃ u, us[i]? = some u ∧ RelV x u
  | _, _, _, _, .nil, e => by simp at e
  | _, _, 0, _, .cons r _, e => by simp at e; subst e; exact ⟨_, rfl, r⟩
  | _, _, i + 1, x, .cons _ t, e => by
    obtain ⟨u, h1, h2⟩ := Vals.get (i := i) (x := x) t (by simpa using e)
    exact ⟨u, by simpa using h1, h2⟩
theorem Vals.set {x : V} {u : Value} (r : RelV x u) : ∀ {xs : List V} {us : List Value} (i : Nat), Vals xs us → Vals (xs.set i x) (us.set i u)
  | _, _, _, .nil => .nil
  | _, _, 0, .cons _ t => .cons r t
  | _, _, i + 1, .cons q t => .cons q (Vals.set r i t)
theorem Vals.append : ∀ {xs ys : List V} {us ws : List Value}, Vals xs us → Vals ys ws → Vals (xs ++ ys) (us ++ ws)
  | _, _, _, _, .nil, s => s
  | _, _, _, _, .cons r t, s => .cons r (Vals.append t s)
theorem Vals.take : ∀ {xs : List V} {us : List Value} (n : Nat), Vals xs us → Vals (xs.take n) (us.take n)
  | _, _, 0, _ => .nil
  | _, _, _ + 1, .nil => .nil
  | _, _, n + 1, .cons r t => .cons r (Vals.take n t)
theorem Vals.drop : ∀ {xs : List V} {us : List Value} (n : Nat), Vals xs us → Vals (xs.drop n) (us.drop n)
  | _, _, 0, r => r
  | _, _, _ + 1, .nil => .nil
  | _, _, n + 1, .cons _ t => Vals.drop n t

def RelO : Option V → Option Value → Prop
  | some v, some u => RelV v u
  | none, none => True
  | _, _ => False
def KV {κ : Type} : List (κ × V) → List (κ × Value) → Prop := Paired fun (p : κ × V) (q : κ × Value) => p.1 = q.1 ∧ RelV p.2 q.2

/-- a key of a dict (00_mix): an int or a text -/
def kV : Key → V
  | .inl i => .int i
  | .inr x => .str x

/-- what stands at a tracked address -/
inductive HO where
  /-- a list -/
  | lst (xs : List V)
  /-- a tuple (never changes) -/
  | tup (xs : List V)
  /-- a dict whose keys are ints and texts; one whose keys are tuples of ints and texts (the empty one is both) -/
  | dK (kvs : List (Key × V)) | dT (kvs : List (List Key × V))
  /-- a set of ints: its members, its size -/
  | set (S : Int → Bool) (n : Nat)
  /-- an instance of the class at C, its dict at dx, its attributes -/
  | ins (C dx : Addr) (fs : List (Str × V))
  /-- the dict of the instance at x -/
  | own (x : Addr)
  /-- the dict of an exception -/
  | xd (fs : List (Str × V))
  /-- a bound method, f of x -/
  | met (f x : Addr)
  /-- a range object lo, lo + 1, .. below hi -/
  | rng (lo hi : Int)
  /-- a thing that is known to the object (the script; a dict while a loop walks it): read, never written while it is so -/
  | frz (o : Obj) (u : HO)
  /-- a code object's table -/
  | tbl (ps : Array Value)
  /-- any other thing, by what is true of its one object (a def of one's own: SetO a S n := HO.ext fun h => ..) -/
  | ext (φ : Heap → Prop)

abbrev Hp := Addr → Option HO
def upd (H : Hp) (a : Addr) (o : HO) : Hp := fun b => if b = a then some o else H b
theorem upd_same {H : Hp} {a : Addr} {o : HO} : upd H a o a = some o := by unfold upd; rw [if_pos rfl]
theorem upd_ne {H : Hp} {a b : Addr} {o : HO} (h : b ≠ a) : upd H a o b = H b := by unfold upd; rw [if_neg h]
/-- two objects of different content stand apart -/
theorem ne_of {H : Hp} {a b : Addr} {o u : HO} (h : H a = some o) (h' : H b = some u) (d : o ≠ u) : a ≠ b := by
  intro e; subst e; rw [h] at h'; exact d (Option.some.inj h')
theorem ne_of_none {H : Hp} {a b : Addr} {o : HO} (h : H a = some o) (h' : H b = none) : a ≠ b := by
  intro e; subst e; rw [h] at h'; cases h'

section
variable (P : Program) (w : World)
def ObjOk (H : Hp) (h : Heap) (a : Addr) : HO → Prop
  | .lst xs => xs.length ≤ sizeLine ∧ ∃ (its : List Value) (n : Nat), Vals xs its ∧ h.get? a = some { cls := .type "list", data := .seq its.toArray n }
  | .tup xs => xs.length ≤ sizeLine ∧ ∃ its : List Value, Vals xs its ∧ IsTup h a its.toArray
  | .dK kvs => kvs.length ≤ sizeLine ∧ (a == sysModules) = false ∧ ∃ vs, KV kvs vs ∧ h.DictOf (mixKind P w) a vs
  | .dT kvs => kvs.length ≤ sizeLine ∧ (a == sysModules) = false ∧ ∃ xs : List (List Key × Addr × Value),
      Paired (fun (p : List Key × V) (q : List Key × Addr × Value) => p.1 = q.1 ∧ H q.2.1 = some (.tup (p.1.map kV)) ∧ RelV p.2 q.2.2) kvs xs ∧
      ∃ o es ep, h.get? a = some o ∧ o.ExactDict ∧ o.data = .dict es ep ∧ es.toList = xs.map (entryOfKey (tupleKind (mixKind P w))) ∧ (xs.map (·.1)).Nodup
  | .set S n => h.SetOf (intKind P w) a S n
  | .ins C dx fs => H dx = some (.own a) ∧ fs.length ≤ 1000 ∧ dx ≠ a ∧ h.get? a = some (PySem.W.instObj C dx) ∧
      ∃ mA, h.Ns1 dx mA ∧ (∀ f, RelO (fs.lookup f) (mA f)) ∧ PySem.Within mA (fs.map (·.1))
  | .own _ => ∃ o, h.get? a = some o
  | .xd fs => ∃ mA, h.Ns1 a mA ∧ ∀ f, RelO (fs.lookup f) (mA f)
  | .rng lo hi => ∃ t u v, h.get? a = some { cls := .type "range", data := .fields #[.int lo t, .int hi u, .int 1 v] }
  | .frz o u => h.get? a = some o ∧ ObjOk H h a u
  | .tbl ps => h.get? a = some { cls := .none, data := .fields ps }
  | .met f x => h.get? a = some (PySem.W.methodObj (.ref f) (.ref x))
  | .ext φ => φ h ∧ (∃ o, h.get? a = some o) ∧ ∀ h1 h2 : Heap, φ h1 → (∀ o, h1.get? a = some o → h2.get? a = some o) → φ h2
/-- the abstract heap is held -/
def HOk (H : Hp) (h : Heap) : Prop := ∀ a o, H a = some o → ObjOk P w H h a o
end

section
variable {P : Program} {w : World} {H H' : Hp} {h h' : Heap} {a : Addr} {o : HO}
theorem ObjOk.lt (x : ObjOk P w H h a o) : a < h.objs.size := by
  cases o with
  | lst xs => obtain ⟨_, _, _, _, e⟩ := x; exact Heap.lt_size e
  | tup xs => obtain ⟨_, _, _, p⟩ := x; exact p.lt
  | dK kvs => obtain ⟨_, _, _, _, o, _, _, e, _⟩ := x; exact Heap.lt_size e
  | dT kvs => obtain ⟨_, _, _, _, o, _, _, e, _⟩ := x; exact Heap.lt_size e
  | set S n => obtain ⟨o, _, _, _, e, _⟩ := x; exact Heap.lt_size e
  | ins C dx fs => obtain ⟨_, _, _, e, _⟩ := x; exact Heap.lt_size e
  | own y => obtain ⟨_, e⟩ := x; exact Heap.lt_size e
  | xd fs => obtain ⟨_, ⟨_, _, _, e, _⟩, _⟩ := x; exact Heap.lt_size e
  | rng lo hi => obtain ⟨_, _, _, e⟩ := x; exact Heap.lt_size e
  | frz ob u => obtain ⟨e, _⟩ := x; exact Heap.lt_size e
  | tbl ps => exact Heap.lt_size (show h.get? a = some _ from x)
  | met f y => exact Heap.lt_size (show h.get? a = some _ from x)
  | ext φ => obtain ⟨_, ⟨_, e⟩, _⟩ := x; exact Heap.lt_size e
theorem Paired.mapP {α β : Type} {F G : α → β → Prop} : ∀ {l₁ : List α} {l₂ : List β}, Paired F l₁ l₂ → (∀ a b, F a b → G a b) → Paired G l₁ l₂
  | _, _, .nil, _ => .nil
  | _, _, .cons r t, f => .cons (f _ _ r) (Paired.mapP t f)
/-- what an object's description leans on: its own object, its own dict, the tuples -/
theorem ObjOk.stay (x : ObjOk P w H h a o) (k : ∀ b u, (b = a ∨ H b = some (.own a)) → h.get? b = some u → h'.get? b = some u)
    (ho : ∀ b, H b = some (.own a) → H' b = some (.own a)) (ht : ∀ b xs, H b = some (.tup xs) → H' b = some (.tup xs)) : ObjOk P w H' h' a o := by
  induction o with
  | lst xs => obtain ⟨z, its, n, r, e⟩ := x; exact ⟨z, its, n, r, k _ _ (.inl rfl) e⟩
  | tup xs => obtain ⟨z, its, r, ob, e, c⟩ := x; exact ⟨z, its, r, ob, k _ _ (.inl rfl) e, c⟩
  | dK kvs => obtain ⟨z, y, vs, r, ob, es, ep, e, c⟩ := x; exact ⟨z, y, vs, r, ob, es, ep, k _ _ (.inl rfl) e, c⟩
  | dT kvs =>
    obtain ⟨z, y, xs, r, ob, es, ep, e, c⟩ := x
    exact ⟨z, y, xs, Paired.mapP r fun p q z => ⟨z.1, ht _ _ z.2.1, z.2.2⟩, ob, es, ep, k _ _ (.inl rfl) e, c⟩
  | set S n => obtain ⟨ob, es, ep, t, e, c⟩ := x; exact ⟨ob, es, ep, t, k _ _ (.inl rfl) e, c⟩
  | ins C dx fs =>
    obtain ⟨d, z, ne, e, mA, ⟨od, es, ep, e2, c⟩, r⟩ := x
    exact ⟨ho _ d, z, ne, k _ _ (.inl rfl) e, mA, ⟨od, es, ep, k _ _ (.inr d) e2, c⟩, r⟩
  | own y => obtain ⟨ob, e⟩ := x; exact ⟨ob, k _ _ (.inl rfl) e⟩
  | xd fs => obtain ⟨mA, ⟨od, es, ep, e, c⟩, r⟩ := x; exact ⟨mA, ⟨od, es, ep, k _ _ (.inl rfl) e, c⟩, r⟩
  | rng lo hi => obtain ⟨t, u, v, e⟩ := x; exact ⟨t, u, v, k _ _ (.inl rfl) e⟩
  | frz ob u ih => obtain ⟨e, q⟩ := x; exact ⟨k _ _ (.inl rfl) e, ih q⟩
  | tbl ps =>
    have e : h.get? a = some { cls := .none, data := .fields ps } := x
    show h'.get? a = some { cls := .none, data := .fields ps }
    exact k a _ (.inl rfl) e
  | met f y =>
    have e : h.get? a = some (PySem.W.methodObj (.ref f) (.ref y)) := x
    show h'.get? a = some (PySem.W.methodObj (.ref f) (.ref y))
    exact k a _ (.inl rfl) e
  | ext φ => obtain ⟨p, ⟨o, e⟩, st⟩ := x; exact ⟨st _ _ p fun o q => k _ _ (.inl rfl) q, ⟨o, k _ _ (.inl rfl) e⟩, st⟩
theorem HOk.lt (x : HOk P w H h) (e : H a = some o) : a < h.objs.size := (x a o e).lt
theorem HOk.fresh (x : HOk P w H h) (e : h.objs.size ≤ a) : H a = none := by
  cases q : H a with
  | none => rfl
  | some u => exact absurd (Nat.lt_of_lt_of_le (x.lt q) e) (Nat.lt_irrefl _)
/-- every object of the heap is kept -/
theorem HOk.kept (x : HOk P w H h) (k : ∀ b u, h.get? b = some u → h'.get? b = some u) : HOk P w H h' := fun a o e =>
  (x a o e).stay (fun b u _ q => k b u q) (fun _ q => q) fun _ _ q => q
/-- a new object is laid and tracked -/
theorem HOk.laid (x : HOk P w H h) (k : ∀ b u, h.get? b = some u → h'.get? b = some u) (hp : h.objs.size ≤ a) (new : ObjOk P w (upd H a o) h' a o) : HOk P w (upd H a o) h' := fun b u e => by
  have hn := x.fresh hp
  by_cases hb : b = a
  · subst hb; rw [upd_same] at e; cases e; exact new
  · rw [upd_ne hb] at e
    exact (x b u e).stay (fun c v _ q => k c v q) (fun c q => by rw [upd_ne (ne_of_none q hn)]; exact q) fun c xs q => by rw [upd_ne (ne_of_none q hn)]; exact q
end

/-- what may be read as u: it is u, or a known u -/
def Rd (H : Hp) (a : Addr) (u : HO) : Prop := H a = some u ∨ ∃ o, H a = some (.frz o u)
theorem Rd.ok {P : Program} {w : World} {H : Hp} {h : Heap} {a : Addr} {u : HO} (r : Rd H a u) (x : HOk P w H h) : ObjOk P w H h a u := by
  rcases r with r | ⟨o, r⟩
  · exact x a u r
  · obtain ⟨_, q⟩ := x a _ r
    exact q
/-- what may be written -/
def Mut : Option HO → Prop
  | some (.lst _) => True
  | some (.dK _) => True
  | some (.dT _) => True
  | some (.set _ _) => True
  | some (.ins _ _ _) => True
  | some (.ext _) => True
  | _ => False
section
variable {P : Program} {w : World} {H : Hp} {h h' : Heap} {x e : Addr} {o' : HO}
/-- the object at e is changed: x itself, or the dict of the instance x -/
theorem HOk.write (ok : HOk P w H h) (mu : Mut (H x)) (he : e = x ∨ H e = some (.own x)) (k : ∀ b u, b ≠ e → h.get? b = some u → h'.get? b = some u) (heo : ∃ u, h'.get? e = some u)
    (new : ObjOk P w (upd H x o') h' x o') : HOk P w (upd H x o') h' := fun b u q => by
  have nown : ∀ c y, H c = some (.own y) → c ≠ x := fun c y r z => by subst z; rw [r] at mu; exact mu
  have ntup : ∀ c xs, H c = some (.tup xs) → c ≠ x := fun c xs r z => by subst z; rw [r] at mu; exact mu
  by_cases hb : b = x
  · subst hb; rw [upd_same] at q; cases q; exact new
  · rw [upd_ne hb] at q
    by_cases hbe : b = e
    · have q' : H b = some (.own x) := by
        rcases he with z | z
        · exact absurd (hbe.trans z) hb
        · rw [hbe]; exact z
      rw [q] at q'; cases q'
      obtain ⟨v, hv⟩ := heo
      exact ⟨v, by rw [hbe]; exact hv⟩
    · refine (ok b u q).stay (fun c v hc r => k c v ?_ r) (fun c r => by rw [upd_ne (nown c b r)]; exact r) fun c xs r => by rw [upd_ne (ntup c xs r)]; exact r
      rcases hc with rfl | hc
      · exact hbe
      · rintro rfl
        rcases he with z | z
        · exact nown c b hc z
        · rw [hc] at z; cases z; exact hb rfl
end

/-! ### kept unless tracked; of the frames at fs (the callers') the slots may change (an exception that passes writes there); of the records at ex (iterators) nothing is said -/
structure Un (fs ex : List Addr) (H H' : Hp) (h h' : Heap) : Prop where
  keep : ∀ b o, h.get? b = some o → H b = none → b ∉ fs → b ∉ ex → h'.get? b = some o
  slot : ∀ b o, h.get? b = some o → H b = none → b ∈ fs → b ∉ ex → ∃ sl, h'.get? b = some { o with slots := sl }
  free : ∀ b o, h.get? b = some o → H b = none → b ∉ ex → H' b = none
  there : ∀ b o, h.get? b = some o → b ∉ ex → ∃ o', h'.get? b = some o'
  tups : ∀ b xs, H b = some (.tup xs) → H' b = some (.tup xs)
  frzs : ∀ b o u, H b = some (.frz o u) → H' b = some (.frz o u)
  tbls : ∀ b ps, H b = some (.tbl ps) → ∃ more, H' b = some (.tbl (ps ++ more))
section
variable {fs fs' ex ex' : List Addr} {H H1 H2 : Hp} {h h1 h2 h' : Heap} {a x e : Addr} {o : HO}
theorem Un.any (u : Un fs ex H H1 h h1) {b : Addr} {ob : Obj} (q : h.get? b = some ob) (n : H b = none) (hx : b ∉ ex) : ∃ sl, h1.get? b = some { ob with slots := sl } := by
  by_cases hb : b ∈ fs
  · exact u.slot b ob q n hb hx
  · exact ⟨ob.slots, u.keep b ob q n hb hx⟩
theorem Un.kept (k : ∀ b u, h.get? b = some u → h'.get? b = some u) : Un fs ex H H h h' :=
  ⟨fun b ob q _ _ _ => k b ob q, fun b ob q _ _ _ => ⟨ob.slots, k b ob q⟩, fun _ _ _ n _ => n, fun b ob q _ => ⟨ob, k b ob q⟩, fun _ _ q => q, fun _ _ _ q => q, fun _ ps q => ⟨#[], by rw [q]; simp⟩⟩
theorem Un.refl : Un fs ex H H h h := Un.kept fun _ _ q => q
theorem Un.laid (k : ∀ b u, h.get? b = some u → h'.get? b = some u) (hp : h.objs.size ≤ a) (hn : H a = none) : Un fs ex H (upd H a o) h h' where
  keep := fun b u q _ _ _ => k b u q
  slot := fun b u q _ _ _ => ⟨u.slots, k b u q⟩
  free := fun b u q n _ => by rw [upd_ne (Nat.ne_of_lt (Nat.lt_of_lt_of_le (Heap.lt_size q) hp))]; exact n
  there := fun b u q _ => ⟨u, k b u q⟩
  tups := fun b xs q => by rw [upd_ne (ne_of_none q hn)]; exact q
  frzs := fun b u xs q => by rw [upd_ne (ne_of_none q hn)]; exact q
  tbls := fun b ps q => ⟨#[], by rw [upd_ne (ne_of_none q hn), q]; simp⟩
theorem Un.write (mu : Mut (H x)) (he : e = x ∨ H e = some (.own x)) (k : ∀ b u, b ≠ e → h.get? b = some u → h'.get? b = some u) (heo : ∃ u, h'.get? e = some u) : Un fs ex H (upd H x o) h h' := by
  have hx : ∀ b, H b = none → b ≠ x := fun b n z => by subst z; rw [n] at mu; exact mu
  have hb : ∀ b, H b = none → b ≠ e := fun b n z => by
    subst z
    rcases he with r | r
    · exact hx b n r
    · rw [n] at r; cases r
  have hm : ∀ b u, H b = some u → ¬ Mut (some u) → b ≠ x := fun b u q nm z => by subst z; rw [q] at mu; exact nm mu
  refine ⟨fun b u q n _ _ => k b u (hb b n) q, fun b u q n _ _ => ⟨u.slots, k b u (hb b n) q⟩, fun b u q n _ => by rw [upd_ne (hx b n)]; exact n, fun b u q _ => ?_,
    fun b xs q => by rw [upd_ne (hm b _ q fun z => z)]; exact q, fun b u xs q => by rw [upd_ne (hm b _ q fun z => z)]; exact q, fun b ps q => ⟨#[], by rw [upd_ne (hm b _ q fun z => z), q]; simp⟩⟩
  by_cases hbe : b = e
  · subst hbe; exact heo
  · exact ⟨u, k b u hbe q⟩
end

/-! ### the heap without what is tracked -/
def trk (h : Heap) (H : Hp) : List Addr := (List.range h.objs.size).filter fun a => (H a).isSome
def hidT (h : Heap) (H : Hp) : Heap := PySem.W.hideAll h (trk h H)
theorem hidT_size (h : Heap) (H : Hp) : (hidT h H).objs.size = h.objs.size := PySem.W.hideAll_size _ _
theorem hidT_get {h : Heap} {H : Hp} {b : Addr} {o : Obj} (e : h.get? b = some o) (n : H b = none) : (hidT h H).get? b = some o :=
  PySem.W.hideAll_get _ e fun hm => by
    have q : (H b).isSome = true := (List.mem_filter.mp hm).2
    rw [n] at q; simp at q
theorem of_hidT {h : Heap} {H : Hp} {b : Addr} {o : Obj} (e : (hidT h H).get? b = some o) : h.get? b = some o ∧ H b = none := by
  have e' : h.get? b = some o := PySem.W.of_hideAll (trk h H) e
  refine ⟨e', ?_⟩
  cases q : H b with
  | none => rfl
  | some x =>
    have hm : b ∈ trk h H := List.mem_filter.mpr ⟨List.mem_range.mpr (Heap.lt_size e'), by simp [q]⟩
    have z : (hidT h H).get? b = none := PySem.W.hideAll_none (trk h H) hm
    rw [z] at e; cases e

/-! ### OpenK's ledger, filled with every new object but one -/
end L2

namespace L2
open PySem PySem.Spec PyProof.Rows

/-- the module's facts, over the base: the heap at the law's entry without what is tracked there -/
structure Mod (K : PySem.W.Frag) (mg : Str → Option Value) (base : Heap) : Prop where
  kin : K.In base
  glob : base.Ns mainGlobals mg
  blt : ∃ mb, base.Ns builtinsNs mb ∧ ∀ x : Str, x ≠ "__name__" → mb x = bootBuiltins x
  nolimit : base.NoLimit

/-- the context: a def's body (or a comprehension's block) running. base: fixed through the whole law; s₀, H₀: the entry; outer: the frames whose slots others may change (a def's callers); stack: all frames that run;
   ex: iterators that were made ahead of the entry and are walked here (a comprehension's); fn: the names whose cells were made at the entry (a def: all; a comprehension's block: its own); calm: not within an except suite; pn: pins that every state bears; xe: what is wanted of an exception that leaves the code -/
structure Cx where
  prog : Program
  w : World
  K : PySem.W.Frag
  mg : Str → Option Value
  base : Heap
  A : Around
  N : List Str
  s₀ : Shared
  H₀ : Hp
  env : Env
  outer : List Env
  stack : List Env
  ex : List Addr
  fn : Str → Bool
  calm : Bool
  pn : List (Addr × Obj)
  xe : Value → Shared → Prop
/-- the callers' frames -/
def frs (l : List Env) : List Addr := l.filterMap (·.frame)
abbrev Cx.fs (X : Cx) : List Addr := frs X.outer

def Vis (sc : Scope) (x : Str) : Prop := sc.names.lookup x = some .local ∨ sc.names.lookup x = some .cell ∨ sc.names.lookup x = some .free
def Loc (sc : Scope) (x : Str) : Prop := sc.names.lookup x = some .local ∨ sc.names.lookup x = some .cell
def Look (env : Env) (h : Heap) (m : Str → Option Value) (x : Str) (u : Value) : Prop :=
  (env.kindOf x = some .local ∧ m x = some u) ∨ ((env.kindOf x = some .cell ∨ env.kindOf x = some .free) ∧ ∃ c, env.cells.lookup x = some c ∧ h.IsCell c (some u))

structure Cx.Ok (X : Cx) : Prop where
  mod : Mod X.K X.mg X.base
  kind : X.env.scope.kind = .function
  glob : X.env.globals = mainGlobals
  blt : X.env.builtins = builtinsNs
  above : X.s₀.heap.objs.size ≤ X.env.locals
  inj : ∀ x y c, X.env.cells.lookup x = some c → X.env.cells.lookup y = some c → x = y
  has : ∀ x, (X.env.kindOf x = some .cell ∨ X.env.kindOf x = some .free) → ∃ c, X.env.cells.lookup x = some c
  cab : ∀ x c, X.fn x = true → X.env.cells.lookup x = some c → X.s₀.heap.objs.size ≤ c
  hd : X.calm = true → X.A.handled = none
  frames : X.A.frames = some X.stack
  stk : X.stack = X.outer ∨ (X.stack = X.env :: X.outer ∧ X.env.frame = some X.env.locals)
  exf : ∀ b ∈ X.ex, b ≠ X.env.locals ∧ ∀ x c, X.env.cells.lookup x = some c → c ≠ b
  bs : ∀ b o, X.base.get? b = some o → X.s₀.heap.get? b = some o ∧ X.H₀ b = none
  bsz : X.base.objs.size ≤ X.s₀.heap.objs.size
  noex : ∀ b o, X.base.get? b = some o → b ∉ X.ex
  exfs : ∀ b ∈ X.ex, b ∉ X.fs
  funs : X.s₀.heap.FunFrames X.base X.outer
  frf : ∀ b ∈ X.fs, X.H₀ b = none

structure Inv (X : Cx) (pins : List (Addr × Obj)) (σ : List (Option V)) (H : Hp) (s : Shared) : Prop where
  ok : X.Ok
  os : s.os = X.s₀.os
  bare : AllBare s.gens
  base : Un X.fs X.ex X.H₀ H X.s₀.heap s.heap
  loc : ∃ m, s.heap.Ns X.env.locals m ∧ ∀ (i : Nat) (x : Str) (v : V), X.N[i]? = some x → σ[i]? = some (some v) → Vis X.env.scope x → ∃ u, RelV v u ∧ Look X.env s.heap m x u
  cell : ∀ x c, X.env.cells.lookup x = some c → ∃ v, s.heap.IsCell c v
  free : H X.env.locals = none
  freeC : ∀ x c, X.env.cells.lookup x = some c → H c = none
  pin : ∀ p ∈ X.pn ++ pins, s.heap.get? p.1 = some p.2 ∧ H p.1 = none ∧ p.1 ≠ X.env.locals ∧ p.1 ∉ X.fs ∧ ∀ v, p.2.data ≠ .cell v
  hok : HOk X.prog X.w H s.heap
  len : σ.length = X.N.length

section
variable {X : Cx} {pins : List (Addr × Obj)} {σ : List (Option V)} {H H' : Hp} {s : Shared} {h' : Heap}

theorem Cx.Ok.nofr (ok : X.Ok) {b : Addr} {o : Obj} (e : X.base.get? b = some o) : b ∉ X.fs := fun hb => by
  have := (ok.funs.mem hb).1
  rw [e] at this; cases this
theorem Inv.bs (I : Inv X pins σ H s) : ∀ b o, X.base.get? b = some o → s.heap.get? b = some o ∧ H b = none := fun b o e =>
  ⟨I.base.keep b o (I.ok.bs b o e).1 (I.ok.bs b o e).2 (I.ok.nofr e) (I.ok.noex b o e), I.base.free b o (I.ok.bs b o e).1 (I.ok.bs b o e).2 (I.ok.noex b o e)⟩
theorem Inv.bk (I : Inv X pins σ H s) : ∀ b o, X.base.get? b = some o → s.heap.get? b = some o := fun b o e => (I.bs b o e).1
theorem Inv.mod (I : Inv X pins σ H s) : Mod X.K X.mg X.base := I.ok.mod
theorem Inv.kIn (I : Inv X pins σ H s) : X.K.In s.heap := I.ok.mod.kin.keeps I.bk
theorem Inv.lt (I : Inv X pins σ H s) : X.env.locals < s.heap.objs.size := let ⟨_, hn, _⟩ := I.loc; hn.lt
theorem Inv.sz (I : Inv X pins σ H s) : X.s₀.heap.objs.size ≤ s.heap.objs.size := Nat.le_trans I.ok.above (Nat.le_of_lt I.lt)
theorem Inv.nofs (I : Inv X pins σ H s) {a : Addr} (h : s.heap.objs.size ≤ a) : a ∉ X.fs := fun hb => by
  obtain ⟨_, o, ho, _⟩ := I.ok.funs.mem hb
  exact absurd (Nat.lt_of_lt_of_le (Heap.lt_size ho) (Nat.le_trans I.sz h)) (Nat.lt_irrefl _)
theorem Inv.cne (I : Inv X pins σ H s) : ∀ x c, X.env.cells.lookup x = some c → c ≠ X.env.locals := fun x c e z => by
  obtain ⟨v, o, ho, hd⟩ := I.cell x c e
  obtain ⟨m, ⟨o', es, ep, ho', hd', _⟩, _⟩ := I.loc
  rw [z, ho'] at ho; cases ho; rw [hd'] at hd; cases hd
theorem Inv.funs (I : Inv X pins σ H s) : s.heap.FunFrames X.base X.outer := by
  have all : ∀ (l : List Env), (∀ b ∈ frs l, b ∈ X.fs) → X.s₀.heap.FunFrames X.base l → s.heap.FunFrames X.base l := by
    intro l
    induction l with
    | nil => intro _ _; trivial
    | cons env r ih =>
      intro hs hl
      obtain ⟨hk, ⟨L, o, hf, hn, ho, hd⟩, hr⟩ := hl
      have hL : L ∈ X.fs := hs L (by unfold frs; rw [List.filterMap_cons, hf]; exact List.mem_cons_self)
      obtain ⟨sl, e⟩ := I.base.slot L o ho (I.ok.frf L hL) hL fun z => I.ok.exfs L z hL
      exact ⟨hk, ⟨L, _, hf, hn, e, hd⟩, ih (fun b hb => hs b (by unfold frs; rw [List.filterMap_cons, hf]; exact List.mem_cons_of_mem _ hb)) hr⟩
  exact all X.outer (fun _ hb => hb) I.ok.funs

/-- the frames that run, for a call -/
theorem Inv.stack (I : Inv X pins σ H s) : s.heap.FunFrames X.base X.stack := by
  rcases I.ok.stk with e | ⟨e, hf⟩
  · rw [e]; exact I.funs
  · rw [e]
    obtain ⟨m, hn, _⟩ := I.loc
    refine .cons (by rw [I.ok.kind]; decide) hf hn ?_ I.funs
    exact Heap.get?_none_of_le (Nat.le_trans I.ok.bsz I.ok.above)
theorem Inv.stkSub (I : Inv X pins σ H s) : ∀ b ∈ frs X.stack, b ∈ X.env.locals :: X.fs := fun b hb => by
  rcases I.ok.stk with e | ⟨e, hf⟩
  · rw [e] at hb; exact List.mem_cons_of_mem _ hb
  · rw [e] at hb
    unfold frs at hb
    rw [List.filterMap_cons, hf] at hb
    exact hb
theorem Inv.stkFree (I : Inv X pins σ H s) : ∀ b ∈ frs X.stack, H b = none := fun b hb => by
  rcases List.mem_cons.mp (I.stkSub b hb) with e | hb
  · rw [e]; exact I.free
  · obtain ⟨_, o, ho, _⟩ := I.ok.funs.mem hb
    exact I.base.free b o ho (I.ok.frf b hb) fun z => I.ok.exfs b z hb

/-- THE STEP: the untracked objects but the frame and the records at ch are kept (the callers' frames up to slots), the frame's map is kept, the new abstract heap is held -/
theorem Inv.step {g' : Array GenState} {t' : Nat} {d' : Drawn} {ch : List Addr} (I : Inv X pins σ H s)
    (hch : ∀ b ∈ ch, (b ∈ X.ex ∨ X.s₀.heap.objs.size ≤ b) ∧ b ≠ X.env.locals ∧ (∀ x c, X.env.cells.lookup x = some c → c ≠ b) ∧ ∀ p ∈ X.pn ++ pins, p.1 ≠ b)
    (keep : ∀ b o, b ≠ X.env.locals → b ∉ X.fs → b ∉ ch → s.heap.get? b = some o → H b = none → h'.get? b = some o)
    (slot : ∀ b o, b ≠ X.env.locals → b ∈ X.fs → b ∉ ch → s.heap.get? b = some o → H b = none → ∃ sl, h'.get? b = some { o with slots := sl }) (free : ∀ b o, b ∉ ch → s.heap.get? b = some o → H b = none → H' b = none)
    (there : ∀ b o, b ∉ ch → s.heap.get? b = some o → ∃ o', h'.get? b = some o')
    (tups : ∀ b xs, H b = some (.tup xs) → H' b = some (.tup xs)) (frzs : ∀ b o u, H b = some (.frz o u) → H' b = some (.frz o u)) (tbls : ∀ b ps, H b = some (.tbl ps) → ∃ more, H' b = some (.tbl (ps ++ more)))
    (ns : ∀ m, s.heap.Ns X.env.locals m → h'.Ns X.env.locals m) (hok : HOk X.prog X.w H' h') (hg : AllBare g') :
    Inv X pins σ H' { s with heap := h', gens := g', drawn := d', toks := t' } := by
  have neL : ∀ b o, X.s₀.heap.get? b = some o → b ≠ X.env.locals := fun b o e => Nat.ne_of_lt (Nat.lt_of_lt_of_le (Heap.lt_size e) I.ok.above)
  have neC : ∀ b o, X.s₀.heap.get? b = some o → b ∉ X.ex → b ∉ ch := fun b o e hx hb => by
    rcases (hch b hb).1 with z | z
    · exact hx z
    · exact absurd (Nat.lt_of_lt_of_le (Heap.lt_size e) z) (Nat.lt_irrefl _)
  have cellK : ∀ x c, X.env.cells.lookup x = some c → ∀ v, s.heap.IsCell c v → h'.IsCell c v := fun x c e v ⟨o, ho, hd⟩ => by
    have nch : c ∉ ch := fun z => (hch c z).2.2.1 x c e rfl
    by_cases hc : c ∈ X.fs
    · obtain ⟨sl, q⟩ := slot c o (I.cne x c e) hc nch ho (I.freeC x c e)
      exact ⟨_, q, hd⟩
    · exact ⟨o, keep c o (I.cne x c e) hc nch ho (I.freeC x c e), hd⟩
  refine ⟨I.ok, I.os, hg, ⟨fun b o e n hb hx => ?_, fun b o e n hb hx => ?_, fun b o e n hx => ?_, fun b o e hx => ?_, fun b xs e => tups b xs (I.base.tups b xs e), fun b o xs e => frzs b o xs (I.base.frzs b o xs e), fun b ps e => ?_⟩, ?_, fun x c e => ?_, ?_, fun x c e => ?_, fun p hp => ?_, hok, I.len⟩
  · exact keep b o (neL b o e) hb (neC b o e hx) (I.base.keep b o e n hb hx) (I.base.free b o e n hx)
  · obtain ⟨sl, e1⟩ := I.base.slot b o e n hb hx
    obtain ⟨sl', e2⟩ := slot b _ (neL b o e) hb (neC b o e hx) e1 (I.base.free b o e n hx)
    exact ⟨sl', e2⟩
  · obtain ⟨o', e1⟩ := I.base.there b o e hx
    exact free b o' (neC b o e hx) e1 (I.base.free b o e n hx)
  · obtain ⟨o', e1⟩ := I.base.there b o e hx
    exact there b o' (neC b o e hx) e1
  · obtain ⟨m1, e1⟩ := I.base.tbls b ps e
    obtain ⟨m2, e2⟩ := tbls b _ e1
    exact ⟨m1 ++ m2, by rw [e2, Array.append_assoc]⟩
  · obtain ⟨m, hn, hl⟩ := I.loc
    refine ⟨m, ns m hn, fun i x v e1 e2 e3 => ?_⟩
    obtain ⟨u, r, l⟩ := hl i x v e1 e2 e3
    refine ⟨u, r, ?_⟩
    rcases l with l | ⟨k, c, e, z⟩
    · exact .inl l
    · exact .inr ⟨k, c, e, cellK x c e _ z⟩
  · obtain ⟨v, z⟩ := I.cell x c e
    exact ⟨v, cellK x c e v z⟩
  · obtain ⟨m, ⟨o, _, _, ho, _⟩, _⟩ := I.loc
    exact free _ o (fun z => (hch _ z).2.1 rfl) ho I.free
  · obtain ⟨v, o, ho, hd⟩ := I.cell x c e
    exact free c o (fun z => (hch c z).2.2.1 x c e rfl) ho (I.freeC x c e)
  · obtain ⟨e, n, ne, nf, d⟩ := I.pin p hp
    have nch : p.1 ∉ ch := fun z => (hch p.1 z).2.2.2 p hp rfl
    exact ⟨keep p.1 p.2 ne nf nch e n, free p.1 p.2 nch e n, ne, nf, d⟩
/-- .. where the frame's own object is kept too -/
theorem Inv.un {t' : Nat} (I : Inv X pins σ H s) (u : Un X.fs [] H H' s.heap h') (hok : HOk X.prog X.w H' h') : Inv X pins σ H' { s with heap := h', toks := t' } := by
  obtain ⟨m, ⟨o, es, ep, ho, r⟩, _⟩ := id I.loc
  obtain ⟨sl, hL⟩ := u.any ho I.free (by simp)
  exact I.step (g' := s.gens) (d' := s.drawn) (ch := []) (fun _ z => nomatch z) (fun b o _ hb _ e n => u.keep b o e n hb (by simp)) (fun b o _ hb _ e n => u.slot b o e n hb (by simp)) (fun b o _ e n => u.free b o e n (by simp)) (fun b o _ e => u.there b o e (by simp)) u.tups u.frzs u.tbls (fun m' hm => by
    obtain ⟨o', es', ep', ho', r'⟩ := hm
    rw [ho] at ho'; cases ho'
    exact ⟨_, es', ep', hL, r'⟩) hok I.bare
/-- behind a call (or a comprehension's block): the slots of this frame may have changed too, the records at ch may have turned -/
theorem Inv.call {g' : Array GenState} {t' : Nat} {d' : Drawn} {ch : List Addr} (I : Inv X pins σ H s) (u : Un (frs X.stack) ch H H' s.heap h') (hok : HOk X.prog X.w H' h') (hg : AllBare g')
    (hch : ∀ b ∈ ch, (b ∈ X.ex ∨ X.s₀.heap.objs.size ≤ b) ∧ b ≠ X.env.locals ∧ (∀ x c, X.env.cells.lookup x = some c → c ≠ b) ∧ ∀ p ∈ X.pn ++ pins, p.1 ≠ b) :
    Inv X pins σ H' { s with heap := h', gens := g', drawn := d', toks := t' } := by
  obtain ⟨m, ⟨o, es, ep, ho, r⟩, _⟩ := id I.loc
  obtain ⟨sl, hL⟩ := u.any ho I.free fun z => (hch _ z).2.1 rfl
  exact I.step (ch := ch) hch (fun b o hL hb hc e n => u.keep b o e n (fun z => (List.mem_cons.mp (I.stkSub b z)).elim hL hb) hc) (fun b o _ _ hc e n => u.any e n hc) (fun b o hc e n => u.free b o e n hc) (fun b o hc e => u.there b o e hc) u.tups u.frzs u.tbls (fun m' hm => by
    obtain ⟨o', es', ep', ho', r'⟩ := hm
    rw [ho] at ho'; cases ho'
    exact ⟨_, es', ep', hL, r'⟩) hok hg
/-- an untracked record of ours (an iterator) has turned -/
theorem Inv.turned {t' : Nat} {it : Addr} (I : Inv X pins σ H s) (k : ∀ b o, b ≠ it → s.heap.get? b = some o → h'.get? b = some o) (hn : H it = none) (hL : it ≠ X.env.locals)
    (h1 : it ∈ X.ex ∨ X.s₀.heap.objs.size ≤ it) (h2 : ∀ x c, X.env.cells.lookup x = some c → c ≠ it) (h3 : ∀ p ∈ X.pn ++ pins, p.1 ≠ it) : Inv X pins σ H { s with heap := h', toks := t' } := by
  have nit : ∀ b u, H b = some u → b ≠ it := fun b u e z => by rw [z, hn] at e; cases e
  refine I.step (g' := s.gens) (d' := s.drawn) (ch := [it]) (fun b hb => ?_) (fun b o _ _ hc e _ => k b o (fun z => hc (by simp [z])) e) (fun b o _ _ hc e _ => ⟨o.slots, k b o (fun z => hc (by simp [z])) e⟩) (fun _ _ _ _ n => n)
    (fun b o hc e => ⟨o, k b o (fun z => hc (by simp [z])) e⟩) (fun _ _ e => e) (fun _ _ _ e => e) (fun b ps e => ⟨#[], by rw [e]; simp⟩) (fun m hm => ?_) (fun b u e => ?_) I.bare
  · have e : b = it := by simpa using hb
    subst e
    exact ⟨h1, hL, h2, h3⟩
  · obtain ⟨o, es, ep, ho, r⟩ := hm
    exact ⟨o, es, ep, k _ o (Ne.symm hL) ho, r⟩
  · refine (I.hok b u e).stay (fun c v hc q => k c v ?_ q) (fun _ q => q) fun _ _ q => q
    rcases hc with z | z
    · rw [z]; exact nit b u e
    · exact nit c _ z
theorem Inv.tok (I : Inv X pins σ H s) (t : Nat) : Inv X pins σ H { s with toks := t } := I.un (h' := s.heap) (t' := t) Un.refl I.hok
/-- all objects kept -/
theorem Inv.kept {t' : Nat} (I : Inv X pins σ H s) (k : ∀ b u, s.heap.get? b = some u → h'.get? b = some u) : Inv X pins σ H { s with heap := h', toks := t' } := I.un (Un.kept k) (I.hok.kept k)
/-- a new object laid and tracked -/
theorem Inv.laid {a : Addr} {o : HO} {t' : Nat} (I : Inv X pins σ H s) (k : ∀ b u, s.heap.get? b = some u → h'.get? b = some u) (hp : s.heap.objs.size ≤ a) (new : ObjOk X.prog X.w (upd H a o) h' a o) :
    Inv X pins σ (upd H a o) { s with heap := h', toks := t' } := I.un (Un.laid k hp (I.hok.fresh hp)) (I.hok.laid k hp new)
/-- an object written -/
theorem Inv.write {x e : Addr} {o : HO} {t' : Nat} (I : Inv X pins σ H s) (mu : Mut (H x)) (he : e = x ∨ H e = some (.own x)) (k : ∀ b u, b ≠ e → s.heap.get? b = some u → h'.get? b = some u) (heo : ∃ u, h'.get? e = some u)
    (new : ObjOk X.prog X.w (upd H x o) h' x o) : Inv X pins σ (upd H x o) { s with heap := h', toks := t' } := I.un (Un.write mu he k heo) (I.hok.write mu he k heo new)
theorem Inv.pins_of {pins' : List (Addr × Obj)} (I : Inv X pins σ H s) (h : ∀ p ∈ pins', s.heap.get? p.1 = some p.2 ∧ H p.1 = none ∧ p.1 ≠ X.env.locals ∧ p.1 ∉ X.fs ∧ ∀ v, p.2.data ≠ .cell v) : Inv X pins' σ H s :=
  ⟨I.ok, I.os, I.bare, I.base, I.loc, I.cell, I.free, I.freeC, fun p hp => (List.mem_append.mp hp).elim (fun z => I.pin p (List.mem_append_left _ z)) (h p), I.hok, I.len⟩

theorem nodup_ix {N : List Str} (hN : N.Nodup) {i j : Nat} {x : Str} (a : N[i]? = some x) (b : N[j]? = some x) : i = j := by
  obtain ⟨h1, e1⟩ := List.getElem?_eq_some_iff.mp a
  obtain ⟨h2, e2⟩ := List.getElem?_eq_some_iff.mp b
  exact (List.getElem_inj hN).mp (e1.trans e2.symm)

/-- a name is stored; what changed -/
theorem store_ok2 {M : Model} {A : Around} {E : Value → Shared → Prop} {i : Nat} {x : Str} {v : V} {u : Value} {Q : Unit → Shared → Prop} (I : Inv X pins σ H s) (hN : X.N.Nodup) (hi : X.N[i]? = some x) (hx : Loc X.env.scope x) (r : RelV v u)
    (h : ∀ s', Inv X pins (σ.set i (some v)) H s' → (∃ a, Heap.SameBut a s.heap s'.heap ∧ (a = X.env.locals ∨ X.env.cells.lookup x = some a)) → Q () s') (hf : X.fn x = true ∨ X.env.scope.names.lookup x = some .local := by first | exact .inl rfl | exact .inr rfl | assumption) : wpAny M A (storeName X.env x u) Q E s := by
  obtain ⟨m, hn, hl⟩ := id I.loc
  have hcls : (X.env.scope.kind == .class || (X.env.scope.kind == .module && X.env.locals != X.env.globals)) = false := by rw [I.ok.kind]; rfl
  have hiσ : i < σ.length := by rw [I.len]; exact (List.getElem?_eq_some_iff.mp hi).1
  have cne := I.cne
  have tracked : ∀ {a : Addr} {h' : Heap}, (∃ o, s.heap.get? a = some o ∧ H a = none) → Heap.SameBut a s.heap h' → HOk X.prog X.w H h' := fun {a h'} ha hs b ob e => by
    obtain ⟨_, _, hfree⟩ := ha
    refine (I.hok b ob e).stay (fun c w' hc q => (hs.2 c ?_).trans q) (fun _ q => q) fun _ _ q => q
    rintro rfl
    rcases hc with rfl | hc
    · rw [hfree] at e; cases e
    · rw [hfree] at hc; cases hc
  rcases hx with hk | hk
  · refine wpAny_storeName_local hk hn (fun h' hn' hs => ?_) hcls
    obtain ⟨oL, _, _, hoL, _⟩ := id hn
    refine h _ ⟨I.ok, I.os, I.bare, ⟨fun b o e n hb hx => ?_, fun b o e n hb hx => ?_, I.base.free, fun b o e hx => ?_, I.base.tups, I.base.frzs, I.base.tbls⟩, ⟨_, hn', fun j y v' e1 e2 e3 => ?_⟩, fun y c e => ?_, I.free, I.freeC, fun p hp => ?_, tracked ⟨oL, hoL, I.free⟩ hs, by simpa using I.len⟩ ⟨_, hs, .inl rfl⟩
    · exact (hs.2 b (Nat.ne_of_lt (Nat.lt_of_lt_of_le (Heap.lt_size e) I.ok.above))).trans (I.base.keep b o e n hb hx)
    · obtain ⟨sl, e1⟩ := I.base.slot b o e n hb hx
      exact ⟨sl, (hs.2 b (Nat.ne_of_lt (Nat.lt_of_lt_of_le (Heap.lt_size e) I.ok.above))).trans e1⟩
    · obtain ⟨o', e1⟩ := I.base.there b o e hx
      exact ⟨o', (hs.2 b (Nat.ne_of_lt (Nat.lt_of_lt_of_le (Heap.lt_size e) I.ok.above))).trans e1⟩
    · by_cases hj : j = i
      · subst hj
        rw [hi] at e1; cases e1
        rw [List.getElem?_set_self hiσ] at e2
        cases e2
        exact ⟨u, r, .inl ⟨hk, by simp⟩⟩
      · rw [List.getElem?_set_ne (Ne.symm hj)] at e2
        obtain ⟨u', r', q⟩ := hl j y v' e1 e2 e3
        refine ⟨u', r', ?_⟩
        rcases q with ⟨k, e⟩ | ⟨k, c, e, z⟩
        · refine .inl ⟨k, ?_⟩
          have : y ≠ x := fun e => hj (nodup_ix hN e1 (e ▸ hi))
          simp [this, e]
        · exact .inr ⟨k, c, e, z.sameBut hs (cne y c e)⟩
    · obtain ⟨w', z⟩ := I.cell y c e
      exact ⟨w', z.sameBut hs (cne y c e)⟩
    · obtain ⟨e, n, ne, nf, d⟩ := I.pin p hp
      exact ⟨(hs.2 p.1 ne).trans e, n, ne, nf, d⟩
  · have hfn : X.fn x = true := by
      rcases hf with z | z
      · exact z
      · rw [z] at hk; cases hk
    obtain ⟨c, hc⟩ := I.ok.has x (.inl hk)
    obtain ⟨w', z⟩ := I.cell x c hc
    refine wpAny_storeName_cell I.ok.kind hk hc z (fun h' hc' hs => ?_)
    obtain ⟨oc, hoc, hocd⟩ := id z
    refine h { s with heap := h' } ⟨I.ok, I.os, I.bare, ⟨fun b o e n hb hx => ?_, fun b o e n hb hx => ?_, I.base.free, fun b o e hx => ?_, I.base.tups, I.base.frzs, I.base.tbls⟩, ⟨m, hn.sameBut hs (Ne.symm (cne x c hc)), fun j y v' e1 e2 e3 => ?_⟩, fun y c' e => ?_, I.free, I.freeC, fun p hp => ?_, tracked ⟨oc, hoc, I.freeC x c hc⟩ hs, by simpa using I.len⟩ ⟨c, hs, .inr hc⟩
    · exact (hs.2 b (Nat.ne_of_lt (Nat.lt_of_lt_of_le (Heap.lt_size e) (I.ok.cab x c hfn hc)))).trans (I.base.keep b o e n hb hx)
    · obtain ⟨sl, e1⟩ := I.base.slot b o e n hb hx
      exact ⟨sl, (hs.2 b (Nat.ne_of_lt (Nat.lt_of_lt_of_le (Heap.lt_size e) (I.ok.cab x c hfn hc)))).trans e1⟩
    · obtain ⟨o', e1⟩ := I.base.there b o e hx
      exact ⟨o', (hs.2 b (Nat.ne_of_lt (Nat.lt_of_lt_of_le (Heap.lt_size e) (I.ok.cab x c hfn hc)))).trans e1⟩
    · by_cases hj : j = i
      · subst hj
        rw [hi] at e1; cases e1
        rw [List.getElem?_set_self hiσ] at e2
        cases e2
        exact ⟨u, r, .inr ⟨.inl hk, c, hc, hc'⟩⟩
      · rw [List.getElem?_set_ne (Ne.symm hj)] at e2
        obtain ⟨u', r', q⟩ := hl j y v' e1 e2 e3
        refine ⟨u', r', ?_⟩
        rcases q with q | ⟨k, c', e, z'⟩
        · exact .inl q
        · refine .inr ⟨k, c', e, z'.sameBut hs ?_⟩
          rintro rfl
          exact hj (nodup_ix hN e1 (I.ok.inj _ _ _ e hc ▸ hi))
    · by_cases hcc : c' = c
      · subst hcc; exact ⟨_, hc'⟩
      · obtain ⟨w2, z2⟩ := I.cell y c' e
        exact ⟨w2, z2.sameBut hs hcc⟩
    · obtain ⟨e, n, ne, nf, d⟩ := I.pin p hp
      refine ⟨(hs.2 p.1 ?_).trans e, n, ne, nf, d⟩
      intro q
      rw [q, hoc] at e
      have q' : oc = p.2 := Option.some.inj e
      exact d w' (by rw [← q']; exact hocd)
theorem store_ok {M : Model} {A : Around} {E : Value → Shared → Prop} {i : Nat} {x : Str} {v : V} {u : Value} {Q : Unit → Shared → Prop} (I : Inv X pins σ H s) (hN : X.N.Nodup) (hi : X.N[i]? = some x) (hx : Loc X.env.scope x) (r : RelV v u)
    (h : ∀ s', Inv X pins (σ.set i (some v)) H s' → Q () s') (hf : X.fn x = true ∨ X.env.scope.names.lookup x = some .local := by first | exact .inl rfl | exact .inr rfl | assumption) : wpAny M A (storeName X.env x u) Q E s :=
  store_ok2 I hN hi hx r (fun s' I' _ => h s' I') hf
/-- behind a call or a block, the state as it is -/
theorem Inv.call' {s' : Shared} {ch : List Addr} (I : Inv X pins σ H s) (ho : s'.os = s.os) (u : Un (frs X.stack) ch H H' s.heap s'.heap) (hok : HOk X.prog X.w H' s'.heap) (hg : AllBare s'.gens)
    (hch : ∀ b ∈ ch, (b ∈ X.ex ∨ X.s₀.heap.objs.size ≤ b) ∧ b ≠ X.env.locals ∧ (∀ x c, X.env.cells.lookup x = some c → c ≠ b) ∧ ∀ p ∈ X.pn ++ pins, p.1 ≠ b) : Inv X pins σ H' s' := by
  obtain ⟨h', g', d', t', o'⟩ := s'
  have e : o' = s.os := ho
  subst e
  exact I.call (g' := g') (t' := t') (d' := d') u hok hg hch
end

/-! ### the judgements -/
/-- an exception: its class, its own dict's address (where it has one), the abstract heap behind it -/
abbrev XK := Value → Option Addr → Hp → Prop
abbrev St := List (Option V)
abbrev VK := V → Hp → Prop
/-- an expression's reading; a test's; an argument list's -/
abbrev TE := St → Hp → VK → Prop
abbrev TT := St → Hp → (Bool → Hp → Prop) → Prop
abbrev TA := St → Hp → (List V → Hp → Prop) → Prop
/-- what is wanted behind a statement -/
structure Ends where
  nx : St → Hp → Prop
  rt : VK
  bk : St → Hp → Prop := fun _ _ => False
  ct : St → Hp → Prop := fun _ _ => False
abbrev TS := Ends → St → Hp → Prop

def EP (X : Cx) (pins : List (Addr × Obj)) (σ : St) (Q : VK) (u : Value) (s' : Shared) : Prop := ∃ v H', Inv X pins σ H' s' ∧ RelV v u ∧ Q v H'
def TP (X : Cx) (pins : List (Addr × Obj)) (σ : St) (Q : Bool → Hp → Prop) (b : Bool) (s' : Shared) : Prop := ∃ H', Inv X pins σ H' s' ∧ Q b H'
def AP (X : Cx) (pins : List (Addr × Obj)) (σ : St) (Q : List V → Hp → Prop) (us : List Value) (s' : Shared) : Prop := ∃ vs H', Inv X pins σ H' s' ∧ Vals vs us ∧ Q vs H'
def SP (X : Cx) (pins : List (Addr × Obj)) (D : Ends) (f : Flow) (s' : Shared) : Prop :=
  match f with
  | .next => ∃ σ' H', Inv X pins σ' H' s' ∧ D.nx σ' H'
  | .brk => ∃ σ' H', Inv X pins σ' H' s' ∧ D.bk σ' H'
  | .cont => ∃ σ' H', Inv X pins σ' H' s' ∧ D.ct σ' H'
  | .ret u => ∃ v σ' H', Inv X pins σ' H' s' ∧ RelV v u ∧ D.rt v H'

def PE (X : Cx) (e : Expr) (t : TE) : Prop :=
  ∀ (pins : List (Addr × Obj)) (s : Shared) (σ : St) (H : Hp) (Q : VK), Inv X pins σ H s → t σ H Q → wpAny (model X.prog X.w) X.A (eval e X.env) (EP X pins σ Q) X.xe s
def PT (X : Cx) (e : Expr) (t : TT) : Prop :=
  ∀ (pins : List (Addr × Obj)) (s : Shared) (σ : St) (H : Hp) (Q : Bool → Hp → Prop), Inv X pins σ H s → t σ H Q → wpAny (model X.prog X.w) X.A (isTrue e X.env (eval e X.env)) (TP X pins σ Q) X.xe s
/-- a test whatever its 'whole' is (and, or) -/
def PW (X : Cx) (e : Expr) (t : TT) : Prop :=
  ∀ (whole : Sem Value) (pins : List (Addr × Obj)) (s : Shared) (σ : St) (H : Hp) (Q : Bool → Hp → Prop), Inv X pins σ H s → t σ H Q → wpAny (model X.prog X.w) X.A (isTrue e X.env whole) (TP X pins σ Q) X.xe s
theorem PW.pt {X : Cx} {e : Expr} {t : TT} (h : PW X e t) : PT X e t := h _
/-- an argument list (no star), from the left -/
def PA (X : Cx) (es : List Expr) (t : TA) : Prop :=
  ∀ (pos : Pos) (pins : List (Addr × Obj)) (s : Shared) (σ : St) (H : Hp) (Q : List V → Hp → Prop), Inv X pins σ H s → t σ H Q → wpAny (model X.prog X.w) X.A (spliced (backTo pos (starEach es X.env))) (AP X pins σ Q) X.xe s
def PS (X : Cx) (st : Stmt) (t : TS) : Prop :=
  ∀ (pins : List (Addr × Obj)) (s : Shared) (σ : St) (H : Hp) (D : Ends), Inv X pins σ H s → t D σ H → wpAny (model X.prog X.w) X.A (exec st X.env) (SP X pins D) X.xe s
def PSs (X : Cx) (st : List Stmt) (t : TS) : Prop :=
  ∀ (pins : List (Addr × Obj)) (s : Shared) (σ : St) (H : Hp) (D : Ends), Inv X pins σ H s → t D σ H → wpAny (model X.prog X.w) X.A (execs st X.env) (SP X pins D) X.xe s
/-- weaken the end -/
theorem thn {α : Type} {t : Sem α} {Q Q' : α → Shared → Prop} {M : Model} {A : Around} {E : Value → Shared → Prop} {s : Shared} (h : wpAny M A t Q E s) (hQ : ∀ a s, Q a s → Q' a s) : wpAny M A t Q' E s := wpAny_mono h hQ fun _ _ x => x
end L2

namespace L2
open PySem PySem.Spec PyProof.Rows
section
variable {X : Cx}


/-! ### names and constants -/
def tVar (i : Nat) : TE := fun σ H Q => ∃ v, σ[i]? = some (some v) ∧ Q v H
def tC (v : V) : TE := fun _ H Q => Q v H
theorem pe_var {i : Nat} {x : Str} {pos : Pos} (hN : X.N[i]? = some x) (hv : Vis X.env.scope x) (hd : (x == ("__debug__" : Str)) = false := by decide) (hcd : (x == ("__classdict__" : Str)) = false := by decide) : PE X (.Name x pos) (tVar i) := by
  intro pins s σ H Q I h
  obtain ⟨v, e, h⟩ := h
  obtain ⟨m, hn, hl⟩ := I.loc
  obtain ⟨u, r, l⟩ := hl i x v hN e hv
  have fin : EP X pins σ Q u s := ⟨v, H, I, r, h⟩
  rcases l with ⟨hk, hm⟩ | ⟨hk, c, hc, hcell⟩
  · exact wpAny_Name (wpAny_loadName_local I.ok.kind hk hn hm fin) hd
  · rcases hk with hk | hk
    · exact wpAny_Name (wpAny_loadName_cell I.ok.kind hk hc hcell fin) hd
    · exact wpAny_Name (wpAny_loadName_free I.ok.kind hk hc hcell fin hcd) hd
theorem pe_int {i j pos} : PE X (.Constant (.int i) j pos) (tC (.int i)) := fun _ _ _ H _ I h => wpAny_Constant_int ⟨.int i, H, I.tok _, ⟨_, rfl⟩, h⟩
theorem pe_bl {b j pos} : PE X (.Constant (.bool b) j pos) (tC (.bl b)) := fun _ _ _ H _ I h => Constant_bool ⟨.bl b, H, I, rfl, h⟩
theorem pe_non {j pos} : PE X (.Constant .none j pos) (tC .non) := fun _ _ _ H _ I h => Constant_none ⟨.non, H, I, rfl, h⟩
theorem pe_str {x j pos} : PE X (.Constant (.str x) j pos) (tC (.str x)) := fun _ _ _ H _ I h => Calls.Constant_str ⟨.str x, H, I.tok _, ⟨_, rfl⟩, h⟩

/-- a global name of the def -/
def Gl (X : Cx) (x : Str) : Prop := X.env.kindOf x = some .globalImplicit
theorem ld_glob {E : Value → Shared → Prop} {pins : List (Addr × Obj)} {s : Shared} {σ : St} {H : Hp} {x : Str} {u : Value} {pos : Pos} {Q : Value → Shared → Prop} (I : Inv X pins σ H s) (hg : Gl X x) (hm : X.mg x = some u) (h : Q u s)
    (hd : (x == ("__debug__" : Str)) = false := by decide) : wpAny (model X.prog X.w) X.A (eval (.Name x pos) X.env) Q E s :=
  Calls.Name_function_global I.ok.kind hg (Calls.loadGlobal_global (by rw [I.ok.glob]; exact I.mod.glob.keeps I.bk) hm h) hd
theorem ld_blt {E : Value → Shared → Prop} {pins : List (Addr × Obj)} {s : Shared} {σ : St} {H : Hp} {x : Str} {u : Value} {pos : Pos} {Q : Value → Shared → Prop} (I : Inv X pins σ H s) (hg : Gl X x) (hm : X.mg x = none) (hv : bootBuiltins x = some u) (h : Q u s)
    (hn : x ≠ "__name__" := by decide) (hd : (x == ("__debug__" : Str)) = false := by decide) : wpAny (model X.prog X.w) X.A (eval (.Name x pos) X.env) Q E s := by
  obtain ⟨mb, h1, h2⟩ := I.mod.blt
  exact Calls.Name_function_global I.ok.kind hg (Calls.loadGlobal_builtin (by rw [I.ok.glob]; exact I.mod.glob.keeps I.bk) hm (by rw [I.ok.blt]; exact h1.keeps I.bk) ((h2 x hn).trans hv) h) hd
/-- a module's constant, a class, a function, as a value -/
theorem pe_glob {x : Str} {v : V} {u : Value} {pos : Pos} (hg : Gl X x) (hm : X.mg x = some u) (r : RelV v u) (hd : (x == ("__debug__" : Str)) = false := by decide) : PE X (.Name x pos) (tC v) :=
  fun _ _ _ H _ I h => ld_glob I hg hm ⟨v, H, I, r, h⟩ hd
theorem pe_bltn {x : Str} {v : V} {u : Value} {pos : Pos} (hg : Gl X x) (hm : X.mg x = none) (hv : bootBuiltins x = some u) (r : RelV v u) (hn : x ≠ "__name__" := by decide) (hd : (x == ("__debug__" : Str)) = false := by decide) : PE X (.Name x pos) (tC v) :=
  fun _ _ _ H _ I h => ld_blt I hg hm hv ⟨v, H, I, r, h⟩ hn hd

/-! ### arithmetic -/
variable {a b : Expr} {ta tb : TE} {pos : Pos}

/-! ### comparisons -/

/-! ### and, or, not -/
variable {tA tB' : TT} {rest : List Expr}
def tAnd (t u : TT) : TT := fun σ H Q => t σ H fun c H1 => if c = true then u σ H1 Q else Q false H1
def tOr (t u : TT) : TT := fun σ H Q => t σ H fun c H1 => if c = true then Q true H1 else u σ H1 Q
def tNot (t : TT) : TT := fun σ H Q => t σ H fun c H1 => Q (!c) H1
theorem pw_and1 (ha : PT X a tA) : PW X (.BoolOp .And [a] pos) tA := by
  intro wh pins s σ H Q I h
  refine isTrue_and (thn (ha pins s σ H Q I h) fun c s1 e => ?_)
  cases c with
  | true => exact isTrue_and_nil e
  | false => exact e
theorem pw_or1 (ha : PT X a tA) : PW X (.BoolOp .Or [a] pos) tA := by
  intro wh pins s σ H Q I h
  refine isTrue_or (thn (ha pins s σ H Q I h) fun c s1 e => ?_)
  cases c with
  | false => exact isTrue_or_nil e
  | true => exact e
theorem pw_and (ha : PT X a tA) (hb : PW X (.BoolOp .And (b :: rest) pos) tB') : PW X (.BoolOp .And (a :: b :: rest) pos) (tAnd tA tB') := by
  intro wh pins s σ H Q I h
  refine isTrue_and (thn (ha pins s σ H _ I h) fun c s1 ⟨H1, I1, q1⟩ => ?_)
  cases c with
  | true => exact hb wh pins s1 σ H1 Q I1 q1
  | false => exact ⟨H1, I1, q1⟩
theorem pw_or (ha : PT X a tA) (hb : PW X (.BoolOp .Or (b :: rest) pos) tB') : PW X (.BoolOp .Or (a :: b :: rest) pos) (tOr tA tB') := by
  intro wh pins s σ H Q I h
  refine isTrue_or (thn (ha pins s σ H _ I h) fun c s1 ⟨H1, I1, q1⟩ => ?_)
  cases c with
  | true => exact ⟨H1, I1, q1⟩
  | false => exact hb wh pins s1 σ H1 Q I1 q1
theorem pt_not (ha : PT X a tA) : PT X (.UnaryOp .Not a pos) (tNot tA) := by
  intro pins s σ H Q I h
  exact isTrue_not (ha pins s σ H (fun c H1 => Q (!c) H1) I h)
/-- .. as values (bools) -/
def tAndV (ta tb : TE) : TE := fun σ H Q => ta σ H fun x H1 => ∃ c, x = .bl c ∧ if c = true then tb σ H1 Q else Q (.bl false) H1
def tOrV (ta tb : TE) : TE := fun σ H Q => ta σ H fun x H1 => ∃ c, x = .bl c ∧ if c = true then Q (.bl true) H1 else tb σ H1 Q
theorem pe_one {op} {t : TE} (h : PE X a t) : PE X (.BoolOp op [a] pos) t := fun pins s σ H Q I hw => BoolOp_one (h pins s σ H Q I hw)
theorem pe_and (ha : PE X a ta) (hb : PE X (.BoolOp .And (b :: rest) pos) tb) : PE X (.BoolOp .And (a :: b :: rest) pos) (tAndV ta tb) := by
  intro pins s σ H Q I h
  refine BoolOp_and (thn (ha pins s σ H _ I h) fun v s1 ⟨x, H1, I1, r1, q1⟩ => ?_)
  obtain ⟨c, rfl, q1⟩ := q1
  cases r1
  refine wpAny_truthy_bool ?_
  cases c with
  | true => exact hb pins s1 σ H1 Q I1 q1
  | false => exact ⟨.bl false, H1, I1, rfl, q1⟩
theorem pe_or (ha : PE X a ta) (hb : PE X (.BoolOp .Or (b :: rest) pos) tb) : PE X (.BoolOp .Or (a :: b :: rest) pos) (tOrV ta tb) := by
  intro pins s σ H Q I h
  refine BoolOp_or (thn (ha pins s σ H _ I h) fun v s1 ⟨x, H1, I1, r1, q1⟩ => ?_)
  obtain ⟨c, rfl, q1⟩ := q1
  cases r1
  refine wpAny_truthy_bool ?_
  cases c with
  | false => exact hb pins s1 σ H1 Q I1 q1
  | true => exact ⟨.bl true, H1, I1, rfl, q1⟩
/-- a if t else b -/
def tIf (t : TT) (ta tb : TE) : TE := fun σ H Q => t σ H fun c H1 => if c = true then ta σ H1 Q else tb σ H1 Q
theorem pe_ifExp {c : Expr} (hc : PT X c tA) (ha : PE X a ta) (hb : PE X b tb) : PE X (.IfExp c a b pos) (tIf tA ta tb) := by
  intro pins s σ H Q I h
  refine wpAny_IfExp (thn (hc pins s σ H _ I h) fun d s1 ⟨H1, I1, q1⟩ => ?_)
  cases d with
  | true => exact ha pins s1 σ H1 Q I1 q1
  | false => exact hb pins s1 σ H1 Q I1 q1
end
end L2

namespace L2
open PySem PySem.Spec PyProof.Rows

/-! ### a list, a tuple that is read: tracked, frozen, or an object of the module -/
def SqL (K : PySem.W.Frag) (H : Hp) (a : Addr) (xs : List V) : Prop :=
  Rd H a (.lst xs) ∨
    ∃ (o : Obj) (its : Array Value) (n : Nat), K.lookup a = some o ∧ o.cls = .type "list" ∧ o.dict = none ∧ o.data = .seq its n ∧ its.size ≤ sizeLine ∧ Vals xs its.toList
def SqT (K : PySem.W.Frag) (H : Hp) (a : Addr) (xs : List V) : Prop :=
  Rd H a (.tup xs) ∨
    ∃ (o : Obj) (its : Array Value) (n : Nat), K.lookup a = some o ∧ o.cls = .type "tuple" ∧ o.data = .seq its n ∧ its.size ≤ sizeLine ∧ Vals xs its.toList
def absV : Value → Option V
  | .none => some .non
  | .bool b => some (.bl b)
  | .int i _ => some (.int i)
  | .str x _ => some (.str x)
  | .bytes b _ => some (.byt b)
  | .float b _ => some (.flt b)
  | .ref a => some (.ref a)
  | .type n => some (.ty n)
  | _ => none
theorem RelV.abs {x : V} {u : Value} (r : RelV x u) : absV u = some x := by
  cases x with
  | non => cases r; rfl
  | bl _ => cases r; rfl
  | int _ => obtain ⟨t, rfl⟩ := r; rfl
  | str _ => obtain ⟨t, rfl⟩ := r; rfl
  | byt _ => obtain ⟨t, rfl⟩ := r; rfl
  | flt _ => obtain ⟨t, rfl⟩ := r; rfl
  | ref _ => cases r; rfl
  | ty _ => cases r; rfl
theorem RelV.inj {x y : V} {u : Value} (r : RelV x u) (q : RelV y u) : x = y := Option.some.inj (r.abs.symm.trans q.abs)
theorem Vals.inj : ∀ {xs ys : List V} {us : List Value}, Vals xs us → Vals ys us → xs = ys
  | _, _, _, .nil, .nil => rfl
  | _, _, _, .cons r t, .cons r' t' => by rw [r.inj r', Vals.inj t t']
section
variable {X : Cx} {pins : List (Addr × Obj)} {σ : St} {H : Hp} {s : Shared} {a : Addr} {xs ys : List V}
theorem SqL.of {K : PySem.W.Frag} (h : H a = some (.lst xs)) : SqL K H a xs := .inl (.inl h)
theorem SqT.of {K : PySem.W.Frag} (h : H a = some (.tup xs)) : SqT K H a xs := .inl (.inl h)
theorem Inv.list (I : Inv X pins σ H s) (h : SqL X.K H a xs) : ∃ its : List Value, Vals xs its ∧ PlainL s.heap a its.toArray ∧ xs.length ≤ sizeLine := by
  rcases h with h | ⟨o, its, n, hk, hc, hd, hs, hz, r⟩
  · obtain ⟨z, its, n, r, e⟩ := h.ok I.hok
    exact ⟨its, r, ⟨_, n, e, rfl, rfl, rfl⟩, z⟩
  · refine ⟨its.toList, r, ⟨o, n, I.kIn a o hk, hc, hd, by simpa using hs⟩, ?_⟩
    have e := r.length
    simp only [Array.length_toList] at e
    omega
theorem Inv.tuple (I : Inv X pins σ H s) (h : SqT X.K H a xs) : ∃ its : List Value, Vals xs its ∧ IsTup s.heap a its.toArray ∧ xs.length ≤ sizeLine := by
  rcases h with h | ⟨o, its, n, hk, hc, hs, hz, r⟩
  · obtain ⟨z, its, r, p⟩ := h.ok I.hok
    exact ⟨its, r, p, z⟩
  · refine ⟨its.toList, r, ⟨o, I.kIn a o hk, hc, n, by simpa using hs⟩, ?_⟩
    have e := r.length
    simp only [Array.length_toList] at e
    omega
theorem Inv.list_inj (I : Inv X pins σ H s) (h : SqL X.K H a xs) (h' : SqL X.K H a ys) : xs = ys := by
  obtain ⟨its, r, ⟨o, n, e, _, _, d⟩, _⟩ := I.list h
  obtain ⟨its', r', ⟨o', n', e', _, _, d'⟩, _⟩ := I.list h'
  rw [e] at e'; cases e'
  rw [d] at d'
  injection d' with d1 _
  have : its = its' := by simpa using congrArg Array.toList d1
  subst this
  exact r.inj r'
end

/-! ### another wish about exceptions -/
abbrev Cx.wish (X : Cx) (E : Value → Shared → Prop) : Cx := { X with xe := E }
/-- no exception leaves -/
abbrev Cx.nox (X : Cx) : Cx := X.wish fun _ _ => False
theorem Cx.Ok.wish {X : Cx} (ok : X.Ok) (E : Value → Shared → Prop) : (X.wish E).Ok :=
  ⟨ok.mod, ok.kind, ok.glob, ok.blt, ok.above, ok.inj, ok.has, ok.cab, ok.hd, ok.frames, ok.stk, ok.exf, ok.bs, ok.bsz, ok.noex, ok.exfs, ok.funs, ok.frf⟩
theorem Cx.Ok.unwish {X : Cx} {E : Value → Shared → Prop} (ok : (X.wish E).Ok) : X.Ok :=
  ⟨ok.mod, ok.kind, ok.glob, ok.blt, ok.above, ok.inj, ok.has, ok.cab, ok.hd, ok.frames, ok.stk, ok.exf, ok.bs, ok.bsz, ok.noex, ok.exfs, ok.funs, ok.frf⟩
section
variable {X : Cx} {pins : List (Addr × Obj)} {σ : St} {H : Hp} {s : Shared} {E : Value → Shared → Prop}
theorem Inv.wish (I : Inv X pins σ H s) (E : Value → Shared → Prop) : Inv (X.wish E) pins σ H s := ⟨I.ok.wish E, I.os, I.bare, I.base, I.loc, I.cell, I.free, I.freeC, I.pin, I.hok, I.len⟩
theorem Inv.unwish (I : Inv (X.wish E) pins σ H s) : Inv X pins σ H s := ⟨I.ok.unwish, I.os, I.bare, I.base, I.loc, I.cell, I.free, I.freeC, I.pin, I.hok, I.len⟩
theorem SP.unwish {D : Ends} {f : Flow} {s' : Shared} (h : SP (X.wish E) pins D f s') : SP X pins D f s' := by
  cases f with
  | next => obtain ⟨σ', H', I, q⟩ := h; exact ⟨σ', H', I.unwish, q⟩
  | brk => obtain ⟨σ', H', I, q⟩ := h; exact ⟨σ', H', I.unwish, q⟩
  | cont => obtain ⟨σ', H', I, q⟩ := h; exact ⟨σ', H', I.unwish, q⟩
  | ret u => obtain ⟨v, σ', H', I, r, q⟩ := h; exact ⟨v, σ', H', I.unwish, r, q⟩
theorem PSs.nox {st : List Stmt} {t : TS} (h : PSs X.nox st t) : PSs X st t := fun pins s σ H D I hw =>
  wpAny_mono (h pins s σ H D (I.wish _) hw) (fun _ _ q => q.unwish) fun _ _ z => False.elim z
end

/-! ### blocks and small statements -/
section
variable {X : Cx} {st : Stmt} {rest : List Stmt} {t u : TS} {e : Expr} {te : TE} {pos : Pos}
def tNext : TS := fun D σ H => D.nx σ H
def tSeq (t u : TS) : TS := fun D σ H => t { D with nx := u D } σ H
theorem pss_nil : PSs X [] tNext := fun _ _ σ H _ I h => wpAny_execs_nil ⟨σ, H, I, h⟩
theorem pss_cons (h1 : PS X st t) (h2 : PSs X rest u) : PSs X (st :: rest) (tSeq t u) := by
  intro pins s σ H D I h
  refine wpAny_execs_cons (thn (h1 pins s σ H { D with nx := u D } I h) fun f s1 q => ?_)
  cases f with
  | next =>
    obtain ⟨σ', H', I', q⟩ := q
    exact h2 pins s1 σ' H' D I' q
  | ret v => exact q
  | brk => exact q
  | cont => exact q
theorem pss_one (h1 : PS X st t) : PSs X [st] t := by
  intro pins s σ H D I h
  refine wpAny_execs_cons (thn (h1 pins s σ H D I h) fun f s1 q => ?_)
  cases f with
  | next => exact wpAny_execs_nil q
  | ret v => exact q
  | brk => exact q
  | cont => exact q
/-- in a def's body nothing is shown -/
theorem Inv.quiet {pins : List (Addr × Obj)} {σ : St} {H : Hp} {s : Shared} (I : Inv X pins σ H s) : interactive X.env = false := by simp [interactive, I.ok.kind]
/-- an expression whose value is dropped -/
def tDrop (te : TE) : TS := fun D σ H => te σ H fun _ H1 => D.nx σ H1
theorem ps_expr (he : PE X e te) (hs : swapsWith e none pos.line X.env = pure false := by rfl) : PS X (.Expr e pos) (tDrop te) := by
  intro pins s σ H D I h
  exact wpAny_Expr_any (thn (he pins s σ H _ I h) fun v s1 ⟨x, H1, I1, r1, q1⟩ => ⟨σ, H1, I1, q1⟩) I.quiet hs
def tRet (te : TE) : TS := fun D σ H => te σ H D.rt
theorem ps_ret (he : PE X e te) : PS X (.Return (some e) pos) (tRet te) := by
  intro pins s σ H D I h
  exact wpAny_Return_some (thn (he pins s σ H _ I h) fun v s1 ⟨x, H1, I1, r1, q1⟩ => ⟨x, σ, H1, I1, r1, q1⟩)
def tIfS (c : TT) (t u : TS) : TS := fun D σ H => c σ H fun b H1 => if b = true then t D σ H1 else u D σ H1
theorem ps_if {c : Expr} {a b : List Stmt} {tc : TT} (hc : PT X c tc) (ha : PSs X a t) (hb : PSs X b u) : PS X (.If c a b pos) (tIfS tc t u) := by
  intro pins s σ H D I h
  refine wpAny_If (thn (hc pins s σ H _ I h) fun d s1 ⟨H1, I1, q1⟩ => ?_)
  cases d with
  | true => exact ha pins s1 σ H1 D I1 q1
  | false => exact hb pins s1 σ H1 D I1 q1
end

/-! ### targets -/
abbrev TG := V → St → Hp → (St → Hp → Prop) → Prop
abbrev TGs := List V → St → Hp → (St → Hp → Prop) → Prop
def PG (X : Cx) (target : Expr) (t : TG) : Prop :=
  ∀ (pins : List (Addr × Obj)) (s : Shared) (σ : St) (H : Hp) (v : V) (u : Value) (Q : St → Hp → Prop), Inv X pins σ H s → RelV v u → t v σ H Q →
    wpAny (model X.prog X.w) X.A (assign target X.env u) (fun _ s' => ∃ σ' H', Inv X pins σ' H' s' ∧ Q σ' H') X.xe s
/-- several targets, one after another -/
def PGs (X : Cx) (ts : List Expr) (t : TGs) : Prop :=
  ∀ (pins : List (Addr × Obj)) (s : Shared) (σ : St) (H : Hp) (vs : List V) (us : List Value) (Q : St → Hp → Prop), Inv X pins σ H s → Vals vs us → t vs σ H Q →
    wpAny (model X.prog X.w) X.A (assignInOrder ((assignEach ts X.env).map (·.2)) us) (fun _ s' => ∃ σ' H', Inv X pins σ' H' s' ∧ Q σ' H') X.xe s
/-- o[i] = v, by values -/
abbrev TSet := V → V → V → Hp → (Hp → Prop) → Prop
def PSet (X : Cx) (t : TSet) : Prop :=
  ∀ (pins : List (Addr × Obj)) (s : Shared) (σ : St) (H : Hp) (o i v : V) (ov iv u : Value) (Q : Hp → Prop), Inv X pins σ H s → RelV o ov → RelV i iv → RelV v u → t o i v H Q →
    wpAny (model X.prog X.w) X.A (setItem ov iv u) (fun _ s' => ∃ H', Inv X pins σ H' s' ∧ Q H') X.xe s
section
variable {X : Cx} {pos : Pos}
def gName (i : Nat) : TG := fun v σ H Q => Q (σ.set i (some v)) H
theorem pg_name {i : Nat} {x : Str} (hN : X.N.Nodup) (hi : X.N[i]? = some x) (hx : Loc X.env.scope x) (hf : X.fn x = true ∨ X.env.scope.names.lookup x = some .local := by first | exact .inl rfl | exact .inr rfl | assumption) : PG X (.Name x pos) (gName i) := by
  intro pins s σ H v u Q I r h
  exact wpAny_assign_Name (store_ok I hN hi hx r (fun s' I' => ⟨_, H, I', h⟩) hf)
def gNil : TGs := fun vs σ H Q => vs = [] ∧ Q σ H
def gCons (t : TG) (u : TGs) : TGs := fun vs σ H Q => ∃ v r, vs = v :: r ∧ t v σ H fun σ' H' => u r σ' H' Q
theorem pgs_nil : PGs X [] gNil := by
  intro pins s σ H vs us Q I r h
  obtain ⟨e, h⟩ := h
  subst e
  cases r
  exact assignInOrder_nil ⟨σ, H, I, h⟩
theorem pgs_cons {e : Expr} {es : List Expr} {t : TG} {u : TGs} (h1 : PG X e t) (h2 : PGs X es u)
    (hs : (assignEach (e :: es) X.env).map (·.2) = assign e X.env :: (assignEach es X.env).map (·.2) := by rfl) : PGs X (e :: es) (gCons t u) := by
  intro pins s σ H vs us Q I r h
  obtain ⟨v, vr, e1, h⟩ := h
  subst e1
  cases r with
  | cons r rr =>
    rw [hs]
    refine assignInOrder_cons (thn (h1 pins s σ H _ _ _ I r h) fun _ s1 ⟨σ1, H1, I1, q1⟩ => ?_)
    exact h2 pins s1 σ1 H1 _ _ Q I1 rr q1
/-- (a, b, ..) = a tuple of that length -/
def gTup (K : PySem.W.Frag) (n : Nat) (t : TGs) : TG := fun v σ H Q => ∃ a xs, v = .ref a ∧ SqT K H a xs ∧ xs.length = n ∧ t xs σ H Q
theorem pg_tup {es : List Expr} {k : Nat} {t : TGs} {n : Nat} (hc : X.calm = true) (h : PGs X es t)
    (hn : (assignEach es X.env).length = n := by rfl) (hst : (assignEach es X.env).findIdx? (·.1) = none := by rfl) : PG X (.Tuple es k pos) (gTup X.K n t) := by
  intro pins s σ H v u Q I r hw
  obtain ⟨a, xs, e1, hq, hl, hw⟩ := hw
  subst e1
  cases r
  obtain ⟨its, rv, ht, hz⟩ := I.tuple hq
  refine assign_Tuple_tuple (I.ok.hd hc) ht (by simp [hn, ← hl, rv.length]) hst fun h' hx => ?_
  have I1 : Inv X pins σ H { s with heap := h' } := I.kept (t' := s.toks) fun b o e => hx b o (Nat.ne_of_lt (Heap.lt_size e)) e
  exact h pins _ σ H xs _ Q I1 (by simpa using rv) hw
/-- o[i] = .. -/
def gSub (to ti : TE) (t : TSet) : TG := fun v σ H Q => to σ H fun o H1 => ti σ H1 fun i H2 => t o i v H2 fun H3 => Q σ H3
theorem pg_sub {o i : Expr} {to ti : TE} {t : TSet} (ho : PE X o to) (hi : PE X i ti) (hs : PSet X t)
    (ha : ∀ v, assign (.Subscript o i pos) X.env v = (do
      let ov ← holding [v] (eval o X.env)
      let iv ← holding [v, ov] (eval i X.env)
      standAt pos
      holding [v, ov, iv] (setItem ov iv v)
      release [v, ov, iv] []) := by intro _; rfl) : PG X (.Subscript o i pos) (gSub to ti t) := by
  intro pins s σ H v u Q I r h
  rw [ha]
  refine wpAny_bind (wpAny_holding (thn (ho pins s σ H _ I h) fun ov s1 ⟨x, H1, I1, r1, q1⟩ => ?_))
  refine wpAny_bind (wpAny_holding (thn (hi pins s1 σ H1 _ I1 q1) fun iv s2 ⟨y, H2, I2, r2, q2⟩ => ?_))
  refine wpAny_bind (wpAny_standAt (wpAny_bind (wpAny_holding (thn (hs pins s2 σ H2 x y v ov iv u _ I2 r1 r2 r q2) fun _ s3 ⟨H3, I3, q3⟩ => ?_))))
  exact wpAny_release ⟨σ, H3, I3, q3⟩
/-- target = value -/
def tAsg (te : TE) (g : TG) : TS := fun D σ H => te σ H fun x H1 => g x σ H1 D.nx
theorem ps_asg {tg e : Expr} {te : TE} {g : TG} (he : PE X e te) (hg : PG X tg g) (hs : swapsWithSole [tg] e pos.line X.env = pure false := by rfl) (hw : swappedStores [tg] e X.env = pure none := by rfl)
    (h1 : (assignEach [tg] X.env).map (·.2) = [assign tg X.env] := by rfl) : PS X (.Assign [tg] e pos) (tAsg te g) := by
  intro pins s σ H D I h
  refine wpAny_Assign_stores (thn (he pins s σ H _ I h) fun v s1 ⟨x, H1, I1, r1, q1⟩ => ?_) hs hw
  rw [h1]
  exact thn (hg pins s1 σ H1 x v _ I1 r1 q1) fun _ s2 q => q
/-- name = value -/
theorem ps_set {i : Nat} {x : Str} {e : Expr} {te : TE} {pos' : Pos} (hN : X.N.Nodup) (hi : X.N[i]? = some x) (hx : Loc X.env.scope x) (he : PE X e te) (hs : swapsWith e (some (.Name x pos')) pos.line X.env = pure false := by rfl) (hf : X.fn x = true ∨ X.env.scope.names.lookup x = some .local := by first | exact .inl rfl | exact .inr rfl | assumption) :
    PS X (.Assign [.Name x pos'] e pos) (tAsg te (gName i)) := by
  intro pins s σ H D I h
  refine wpAny_Assign_Name (thn (he pins s σ H _ I h) fun v s1 ⟨y, H1, I1, r1, q1⟩ => ?_) hs
  exact store_ok I1 hN hi hx r1 (fun s2 I2 => ⟨_, H1, I2, q1⟩) hf
end

/-! ### while -/
section
variable {X : Cx} {pos : Pos}
end

/-! ### what a loop or a comprehension walks -/
/-- at turn i: it yields x (the heap may grow), or it stops -/
structure It where
  go : Nat → Hp → Prop
  yld : Nat → Hp → V → Hp → Prop
  stop : Nat → Hp → Prop
/-- the iterator's own objects may turn: they are not the frame's, not pinned, younger than the entry (or a comprehension's own) -/
def FpOk (X : Cx) (pins : List (Addr × Obj)) (H : Hp) (b : Addr) : Prop :=
  H b = none ∧ b ≠ X.env.locals ∧ b ∉ X.fs ∧ (b ∈ X.ex ∨ X.s₀.heap.objs.size ≤ b) ∧ (∀ x c, X.env.cells.lookup x = some c → c ≠ b) ∧ ∀ p ∈ X.pn ++ pins, p.1 ≠ b
theorem Inv.fpOk {X : Cx} {pins : List (Addr × Obj)} {σ : St} {H H' : Hp} {s : Shared} {b : Addr} (I : Inv X pins σ H s) (hb : s.heap.objs.size ≤ b) (hn : H' b = none) : FpOk X pins H' b := by
  refine ⟨hn, Nat.ne_of_gt (Nat.lt_of_lt_of_le I.lt hb), I.nofs hb, .inr (Nat.le_trans I.sz hb), fun x c e z => ?_, fun p hp z => ?_⟩
  · obtain ⟨v, q⟩ := I.cell x c e
    exact absurd (Nat.lt_of_lt_of_le q.lt (by rw [z]; exact hb)) (Nat.lt_irrefl _)
  · exact absurd (Nat.lt_of_lt_of_le (Heap.lt_size (I.pin p hp).1) (by rw [z]; exact hb)) (Nat.lt_irrefl _)
structure Turn (P : Program) (w : World) (K : PySem.W.Frag) (tg : Expr) (J : It) (fp : List Addr) (it : Addr) (tn : Nat → Heap → Prop) : Prop where
  mem : it ∈ fp
  obj : ∀ i h, tn i h → ∀ b ∈ fp, ∃ o, h.get? b = some o ∧ ∀ v, o.data ≠ .cell v
  keep : ∀ i h h', tn i h → (∀ b ∈ fp, ∀ o, h.get? b = some o → h'.get? b = some o) → tn i h'
  item : ∀ (X : Cx), X.prog = P → X.w = w → X.K = K → X.calm = true → ∀ (i : Nat) (pins : List (Addr × Obj)) (s : Shared) (σ : St) (H : Hp) (E : Value → Shared → Prop), Inv X pins σ H s → (∀ b ∈ fp, FpOk X pins H b) → tn i s.heap → J.go i H →
    wpAny (model P w) X.A (pyNext (.ref it)) (fun r s1 => ∃ u, r = some u ∧
      wpAny (model P w) X.A (letOwnedTupleGo tg (.ref it) u) (fun _ s2 => ∃ x H', Inv X pins σ H' s2 ∧ RelV x u ∧ J.yld i H x H' ∧ tn (i + 1) s2.heap ∧ ∀ b ∈ fp, H' b = none) E s1) E s
  done : ∀ (X : Cx), X.prog = P → X.w = w → X.K = K → X.calm = true → ∀ (i : Nat) (pins : List (Addr × Obj)) (s : Shared) (σ : St) (H : Hp) (E : Value → Shared → Prop), Inv X pins σ H s → (∀ b ∈ fp, FpOk X pins H b) → tn i s.heap → J.stop i H →
    wpAny (model P w) X.A (pyNext (.ref it)) (fun r s1 => r = none ∧ Inv X pins σ H s1) E s
  self : ∀ (A : Around) (i : Nat) (s : Shared) (Q : Value → Shared → Prop) (E : Value → Shared → Prop), tn i s.heap → Q (.ref it) s → wpAny (model P w) A (pyIter (.ref it)) Q E s
abbrev TI := St → Hp → (It → Hp → Prop) → Prop
/-- an iterator has come -/
def PIE (X : Cx) (pins : List (Addr × Obj)) (σ : St) (tg : Expr) (R : It → Hp → Prop) (itv : Value) (s2 : Shared) : Prop :=
  ∃ (it : Addr) (fp : List Addr) (tn : Nat → Heap → Prop) (J : It) (H' : Hp), itv = .ref it ∧ Inv X pins σ H' s2 ∧ Turn X.prog X.w X.K tg J fp it tn ∧ tn 0 s2.heap ∧ (∀ b ∈ fp, FpOk X pins H' b) ∧ R J H'
def PI (X : Cx) (tg iter : Expr) (wi : TI) : Prop :=
  ∀ (pins : List (Addr × Obj)) (s : Shared) (σ : St) (H : Hp) (R : It → Hp → Prop), Inv X pins σ H s → wi σ H R →
    wpAny (model X.prog X.w) X.A (eval iter X.env) (fun v s1 => wpAny (model X.prog X.w) X.A (pyIter v) (PIE X pins σ tg R) X.xe s1) X.xe s

/-- the step ahead of the store is nothing for an iterator that keeps no tuple -/
theorem go_of {M : Model} {A : Around} {E : Value → Shared → Prop} {s : Shared} {tg : Expr} {it : Addr} {u : Value} {o : Obj} {n : String} {vs : Array Value} {Q : Unit → Shared → Prop} (ho : s.heap.get? it = some o) (hc : o.cls = .type n) (hd : o.data = .fields vs)
    (hn : ["enumerate", "zip", "dict_itemiterator", "dict_reverseitemiterator", "odict_iterator", "itertools.zip_longest", "itertools.pairwise"].contains n = false) (hQ : Q () s) : wpAny M A (letOwnedTupleGo tg (.ref it) u) Q E s := by
  unfold letOwnedTupleGo
  cases tg <;> first
    | exact wpAny_pure hQ
    | (cases u <;> first
        | exact wpAny_pure hQ
        | (refine wpAny_bind (wpAny_load ho ?_)
           rw [hc, hd]
           show wpAny M A (if (["enumerate", "zip", "dict_itemiterator", "dict_reverseitemiterator", "odict_iterator", "itertools.zip_longest", "itertools.pairwise"].contains n && vs[0]? == some (rawInt _)) = true then _ else _) Q E s
           rw [if_neg (by intro h; rw [hn, Bool.false_and] at h; cases h)]
           exact wpAny_pure hQ))

/-- the list at a, as it stands at each turn (a loop may append to it) -/
def Itl (K : PySem.W.Frag) (a : Addr) : It :=
  ⟨fun i H => ∃ xs x, SqL K H a xs ∧ xs[i]? = some x, fun i H x H' => H' = H ∧ ∀ xs, SqL K H a xs → xs[i]? = some x, fun i H => ∃ xs, SqL K H a xs ∧ xs.length ≤ i⟩
/-- lo, lo + 1, .. (n of them) -/
def Itr (lo : Int) (n : Nat) : It := ⟨fun i _ => i < n, fun i H x H' => H' = H ∧ x = .int (lo + i), fun i _ => n ≤ i⟩
theorem turn_list {P : Program} {w : World} {K : PySem.W.Frag} {tg : Expr} (a it : Addr) : Turn P w K tg (Itl K a) [it] it (fun i h => h.IsListIter it a i) where
  mem := by simp
  obj := fun i h st b hb => by
    have e : b = it := by simpa using hb
    subst e
    obtain ⟨o, e, c, d⟩ := st
    exact ⟨o, e, fun v z => by rw [d] at z; cases z⟩
  keep := fun i h h' st k => st.at fun o e => k it (by simp) o e
  item := by
    intro X hP hw hK hc i pins s σ H E I hf st hg
    subst hP hw hK
    obtain ⟨xs, x, hq, hx⟩ := hg
    obtain ⟨its, rv, p, hz⟩ := I.list hq
    obtain ⟨u, hu, ru⟩ := rv.get hx
    obtain ⟨f0, f1, f2, f3, f4, f5⟩ := hf it (by simp)
    refine wpAny_pyNext_list_item st p.isList (x := u) (by simpa using hu) fun h' st' sb => ?_
    have I1 : Inv X pins σ H { s with heap := h' } := I.turned (t' := s.toks) (fun b o hb e => (sb.2 b hb).trans e) f0 f1 f3 f4 f5
    obtain ⟨o, e, c, d⟩ := id st'
    exact ⟨u, rfl, go_of (s := { s with heap := h' }) e c d (by decide) ⟨x, H, I1, ru, ⟨rfl, fun ys hy => by rw [I.list_inj hy hq]; exact hx⟩, st', fun b hb => (hf b hb).1⟩⟩
  done := by
    intro X hP hw hK hc i pins s σ H E I hf st hg
    subst hP hw hK
    obtain ⟨xs, hq, hx⟩ := hg
    obtain ⟨its, rv, p, hz⟩ := I.list hq
    obtain ⟨f0, f1, f2, f3, f4, f5⟩ := hf it (by simp)
    have hl := rv.length
    exact wpAny_pyNext_list_end (I.ok.hd hc) st p.isList (by simp; omega) fun h' eb => ⟨rfl, I.turned (t' := s.toks) (fun b o hb e => eb b o hb e) f0 f1 f3 f4 f5⟩
  self := fun _ _ _ _ _ st h => wpAny_pyIter_listiter st h
theorem turn_range {P : Program} {w : World} {K : PySem.W.Frag} {tg : Expr} (it : Addr) (lo : Int) (n : Nat) : Turn P w K tg (Itr lo n) [it] it (fun i h => IsRangeIter h it (lo + (i : Nat) * 1) ((n : Int) - (i : Nat)) 1) where
  mem := by simp
  obj := fun i h st b hb => by
    have e : b = it := by simpa using hb
    subst e
    exact ⟨_, st, fun v z => by
      have z' : Data.fields _ = Data.cell v := z
      cases z'⟩
  keep := fun i h h' st k => k it (by simp) _ st
  item := by
    intro X hP hw hK hc i pins s σ H E I hf st hg
    subst hP hw hK
    obtain ⟨f0, f1, f2, f3, f4, f5⟩ := hf it (by simp)
    have W := Walks.range (prog := X.prog) (w := X.w) (I.ok.hd hc) it lo 1 n
    refine W.item i s _ _ hg st fun v h' tk hv st' kk => ?_
    obtain ⟨t, rfl⟩ := hv
    have I1 : Inv X pins σ H { s with heap := h', toks := tk } := I.turned (fun b o hb e => kk b o (by simpa using hb) e) f0 f1 f3 f4 f5
    refine ⟨_, rfl, go_of (s := { s with heap := h', toks := tk }) (n := "range_iterator") st' rfl rfl (by decide) ⟨.int (lo + i), H, I1, ⟨t, ?_⟩, ⟨rfl, rfl⟩, st', fun b hb => (hf b hb).1⟩⟩
    rw [Int.mul_one]
  done := by
    intro X hP hw hK hc i pins s σ H E I hf st hg
    subst hP hw hK
    obtain ⟨f0, f1, f2, f3, f4, f5⟩ := hf it (by simp)
    exact wpAny_pyNext_range_end (I.ok.hd hc) st (by have : n ≤ i := hg; omega) fun h' eb => ⟨rfl, I.turned (t' := s.toks) (fun b o hb e => eb b o hb e) f0 f1 f3 f4 f5⟩
  self := fun _ _ _ _ _ st h => wpAny_pyIter_rangeiter st h
end L2

namespace L2
open PySem PySem.Spec PyProof.Rows
section
variable {X : Cx} {tg : Expr}
def iList (K : PySem.W.Frag) (tl : TE) : TI := fun σ H R => tl σ H fun x H1 => ∃ a, x = .ref a ∧ (∃ xs, SqL K H1 a xs) ∧ R (Itl K a) H1
theorem pi_list {l : Expr} {tl : TE} (hl : PE X l tl) : PI X tg l (iList X.K tl) := by
  intro pins s σ H R I h
  refine thn (hl pins s σ H _ I h) fun v s1 ⟨x, H1, I1, r1, q1⟩ => ?_
  obtain ⟨a, e, ⟨xs, hq⟩, q⟩ := q1
  subst e
  cases r1
  obtain ⟨its, rv, p, hz⟩ := I1.list hq
  refine wpAny_pyIter_list p.isList ?_
  refine ⟨s1.heap.objs.size, [s1.heap.objs.size], _, _, H1, rfl, I1.kept (t' := s1.toks) fun b o e => Heap.get?_push_of_some _ e, turn_list a _, ⟨_, Heap.get?_push_size _ rfl, rfl, rfl⟩, fun b hb => ?_, q⟩
  have e : b = s1.heap.objs.size := by simpa using hb
  subst e
  exact I1.fpOk (Nat.le_refl _) (I1.hok.fresh (Nat.le_refl _))
/-- a range object just made, walked -/
theorem range_it {pins : List (Addr × Obj)} {σ : St} {H : Hp} {s : Shared} {R : It → Hp → Prop} {E : Value → Shared → Prop} {lo hi : Int} {t u v : Tok} {tk : Nat} (I : Inv X pins σ H s) (h1 : -(2 ^ 62) ≤ lo) (h2 : lo < 2 ^ 62) (h3 : -(2 ^ 62) ≤ hi) (h4 : hi < 2 ^ 62)
    (q : R (Itr lo (hi - lo).toNat) H) : wpAny (model X.prog X.w) X.A (pyIter (.ref s.heap.objs.size)) (PIE X pins σ tg R) E { s with heap := s.heap.push { cls := .type "range", data := .fields #[.int lo t, .int hi u, .int 1 v] }, toks := tk } := by
  refine wpAny_pyIter_range (IsRange.new ..) (small_one h1 h2 h3 h4) ?_
  have I1 : Inv X pins σ H { s with heap := s.heap.push { cls := .type "range", data := .fields #[.int lo t, .int hi u, .int 1 v] }, toks := tk } := I.kept fun b o e => Heap.get?_push_of_some _ e
  refine ⟨(s.heap.push { cls := .type "range", data := .fields #[.int lo t, .int hi u, .int 1 v] }).objs.size, [(s.heap.push { cls := .type "range", data := .fields #[.int lo t, .int hi u, .int 1 v] }).objs.size], _, _, H, rfl,
    I1.kept (t' := tk) fun b o e => Heap.get?_push_of_some _ e, turn_range _ lo (hi - lo).toNat, ?_, fun b hb => ?_, q⟩
  · have e1 : lo + ((0 : Nat) : Int) * 1 = lo := by simp
    have e2 : (((hi - lo).toNat : Nat) : Int) - ((0 : Nat) : Int) = Builtin.Range.rangeSize lo hi 1 := by rw [rangeSize_one]; split <;> omega
    show IsRangeIter _ _ (lo + ((0 : Nat) : Int) * 1) ((((hi - lo).toNat : Nat) : Int) - ((0 : Nat) : Int)) 1
    rw [e1, e2]
    exact Heap.get?_push_size _ rfl
  · have e : b = (s.heap.push { cls := .type "range", data := .fields #[.int lo t, .int hi u, .int 1 v] }).objs.size := by simpa using hb
    subst e
    exact I1.fpOk (Nat.le_refl _) (I1.hok.fresh (Nat.le_refl _))
def iRng1 (ta : TA) : TI := fun σ H R => ta σ H fun vs H1 => ∃ j : Int, vs = [.int j] ∧ -(2 ^ 62) ≤ j ∧ j < 2 ^ 62 ∧ R (Itr 0 j.toNat) H1
theorem pi_range1 {a : Expr} {ta : TA} {p pos : Pos} (hg : Gl X "range") (hm : X.mg "range" = none) (ha : PA X [a] ta) (hs : starEach [a] X.env = [(false, eval a X.env)] := by rfl) : PI X tg (.Call (.Name "range" p) [a] [] pos) (iRng1 ta) := by
  intro pins s σ H R I h
  refine Call_ (ld_blt I hg hm boot_range (PyProof.Rows.callWith_type1 (thn (ha pos pins s σ H _ I h) fun us s1 ⟨vs, H1, I1, r1, q1⟩ => ?_) hs rfl))
  obtain ⟨j, e, q1, q2, q⟩ := q1
  subst e
  cases r1 with
  | cons r rr =>
    cases rr
    obtain ⟨t, rfl⟩ := r
    exact call_range_1 (range_it I1 (by omega) (by omega) q1 q2 (by simpa using q))

/-! ### for -/
/-- W: the invariant by the turn and a measure; N: what the body is to reach -/
def tFor (wi : TI) (g : TG) (tb : TS) : TS := fun D σ H => wi σ H fun J H1 => ∃ W : Nat → Nat → St → Hp → Prop, (∃ m, W 0 m σ H1) ∧ ∀ i m σ H, W i m σ H →
  (J.stop i H ∧ D.nx σ H) ∨ (J.go i H ∧ ∃ N : St → Hp → Prop, (∀ σ' H', N σ' H' → ∃ m', m' < m ∧ W (i + 1) m' σ' H') ∧ ∀ x H', J.yld i H x H' → g x σ H' fun σ2 H2 => tb { D with nx := N, ct := N, bk := D.nx } σ2 H2)
/-- the records at fp as they stand -/
def pinsAt (fp : List Addr) (h : Heap) : List (Addr × Obj) := fp.filterMap fun b => (h.get? b).map fun o => (b, o)
theorem mem_pinsAt {fp : List Addr} {h : Heap} {b : Addr} {o : Obj} (hb : b ∈ fp) (e : h.get? b = some o) : (b, o) ∈ pinsAt fp h := List.mem_filterMap.mpr ⟨b, hb, by rw [e]; rfl⟩
theorem of_pinsAt {fp : List Addr} {h : Heap} {p : Addr × Obj} (hp : p ∈ pinsAt fp h) : p.1 ∈ fp ∧ h.get? p.1 = some p.2 := by
  obtain ⟨b, hb, e⟩ := List.mem_filterMap.mp hp
  cases q : h.get? b with
  | none => rw [q] at e; cases e
  | some o =>
    rw [q] at e
    have e' : (b, o) = p := Option.some.inj e
    subst e'
    exact ⟨hb, q⟩
theorem Inv.pinned {pins : List (Addr × Obj)} {σ : St} {H : Hp} {s : Shared} {fp : List Addr} (I : Inv X pins σ H s) (hf : ∀ b ∈ fp, FpOk X pins H b) (ho : ∀ b ∈ fp, ∃ o, s.heap.get? b = some o ∧ ∀ v, o.data ≠ .cell v) : Inv X (pins ++ pinsAt fp s.heap) σ H s :=
  I.pins_of fun p hp => (List.mem_append.mp hp).elim (fun z => I.pin p (List.mem_append_right _ z)) fun z => by
    obtain ⟨hb, e⟩ := of_pinsAt z
    obtain ⟨f0, f1, f2, _⟩ := hf p.1 hb
    obtain ⟨o, e', d⟩ := ho p.1 hb
    rw [e] at e'; cases e'
    exact ⟨e, f0, f1, f2, d⟩
theorem Inv.unpinned {pins pl : List (Addr × Obj)} {σ : St} {H : Hp} {s : Shared} (I : Inv X (pins ++ pl) σ H s) : Inv X pins σ H s := I.pins_of fun p hp => I.pin p (List.mem_append_right _ (List.mem_append_left _ hp))
theorem ps_for {iter : Expr} {body : List Stmt} {wi : TI} {g : TG} {tb : TS} {pos : Pos} (hp : PassesOwn (model X.prog X.w) X.A X.env X.xe) (hc : X.calm = true) (hi : PI X tg iter wi) (hg : PG X tg g) (hb : PSs X body tb)
    (hs : ∀ x, foldedSetIterable iter X.env x = pure x := by intro _; rfl) : PS X (.For tg iter body [] pos) (tFor wi g tb) := by
  intro pins s σ H D I h
  refine wpAny_For (thn (hi pins s σ H _ I h) fun v s1 h1 => thn h1 fun itv s2 h2 => ?_) hs
  obtain ⟨it, fp, tn, J, H2, e, I2, T, st2, f2, W, ⟨m0, w0⟩, turn⟩ := h2
  subst e
  have stat : ∀ {H' : Hp}, (∀ b ∈ fp, H' b = none) → ∀ b ∈ fp, FpOk X pins H' b := fun hn b hb => ⟨hn b hb, (f2 b hb).2⟩
  refine codeAny_forLoop_any (fun n s' => ∃ i σ' H', Inv X pins σ' H' s' ∧ tn i s'.heap ∧ (∀ b ∈ fp, H' b = none) ∧ W i n σ' H') ?_ m0 ⟨0, σ, H2, I2, st2, fun b hb => (f2 b hb).1, w0⟩
  rintro n s3 ⟨i, σ3, H3, I3, st3, fr3, w3⟩
  rcases turn i n σ3 H3 w3 with ⟨stop, qn⟩ | ⟨go, N, hN, step⟩
  · refine wpAny_passesOwn hp (thn (T.done X rfl rfl rfl hc i pins s3 σ3 H3 X.xe I3 (stat fr3) st3 stop) fun r s4 ⟨hr, I4⟩ => ?_)
    subst hr
    exact wpAny_execs_nil ⟨σ3, H3, I4, qn⟩
  · refine wpAny_passesOwn hp (thn (T.item X rfl rfl rfl hc i pins s3 σ3 H3 X.xe I3 (stat fr3) st3 go) fun r s4 ⟨u, hr, h4⟩ => ?_)
    subst hr
    refine wpAny_passesOwn hp (thn h4 fun _ s5 ⟨x, H5, I5, r5, y5, st5, fr5⟩ => ?_)
    have I5' := I5.pinned (stat fr5) (T.obj _ _ st5)
    refine wpAny_passesOwn hp (thn (hg _ s5 σ3 H5 x u _ I5' r5 (step x H5 y5)) fun _ s6 ⟨σ6, H6, I6, q6⟩ => ?_)
    refine wpAny_passesOwn hp (thn (hb _ s6 σ6 H6 _ I6 q6) fun f s7 q7 => ?_)
    have again : ∀ {σ7 : St} {H7 : Hp}, Inv X (pins ++ pinsAt fp s5.heap) σ7 H7 s7 → N σ7 H7 → ∃ m, m < n ∧ ∃ i σ' H', Inv X pins σ' H' s7 ∧ tn i s7.heap ∧ (∀ b ∈ fp, H' b = none) ∧ W i m σ' H' := fun {σ7 H7} I7 n7 => by
      obtain ⟨m', hm, w7⟩ := hN σ7 H7 n7
      refine ⟨m', hm, i + 1, σ7, H7, I7.unpinned, T.keep _ _ _ st5 fun b hb o e => (I7.pin (b, o) (List.mem_append_right _ (List.mem_append_right _ (mem_pinsAt hb e)))).1, fun b hb => ?_, w7⟩
      obtain ⟨o, e, d⟩ := T.obj _ _ st5 b hb
      exact (I7.pin (b, o) (List.mem_append_right _ (List.mem_append_right _ (mem_pinsAt hb e)))).2.1
    cases f with
    | next => obtain ⟨σ7, H7, I7, n7⟩ := q7; exact again I7 n7
    | cont => obtain ⟨σ7, H7, I7, n7⟩ := q7; exact again I7 n7
    | brk => obtain ⟨σ7, H7, I7, q7⟩ := q7; exact ⟨σ7, H7, I7.unpinned, q7⟩
    | ret v => obtain ⟨x7, σ7, H7, I7, r7, q7⟩ := q7; exact ⟨x7, σ7, H7, I7.unpinned, r7, q7⟩
end

/-! ### the forms one uses -/
/-- over a list that the body leaves as it is -/
theorem for_list {K : PySem.W.Frag} {a : Addr} {xs : List V} {g : TG} {tb : TS} {D : Ends} {σ : St} {H : Hp} (Pv : Nat → St → Hp → Prop) (h0 : Pv 0 σ H) (hl : ∀ i σ H, i ≤ xs.length → Pv i σ H → SqL K H a xs)
    (hs : ∀ i x σ H, xs[i]? = some x → Pv i σ H → g x σ H fun σ2 H2 => tb { D with nx := Pv (i + 1), ct := Pv (i + 1), bk := D.nx } σ2 H2) (hd : ∀ σ H, Pv xs.length σ H → D.nx σ H) :
    ∃ W : Nat → Nat → St → Hp → Prop, (∃ m, W 0 m σ H) ∧ ∀ i m σ H, W i m σ H →
      ((Itl K a).stop i H ∧ D.nx σ H) ∨ ((Itl K a).go i H ∧ ∃ N : St → Hp → Prop, (∀ σ' H', N σ' H' → ∃ m', m' < m ∧ W (i + 1) m' σ' H') ∧ ∀ x H', (Itl K a).yld i H x H' → g x σ H' fun σ2 H2 => tb { D with nx := N, ct := N, bk := D.nx } σ2 H2) := by
  refine ⟨fun i m σ H => m = xs.length - i ∧ i ≤ xs.length ∧ Pv i σ H, ⟨xs.length, by simp, Nat.zero_le _, h0⟩, ?_⟩
  rintro i m σ H ⟨rfl, hi, p⟩
  have q := hl i σ H hi p
  by_cases hlt : i < xs.length
  · refine .inr ⟨⟨xs, xs[i], q, by simp [hlt]⟩, Pv (i + 1), fun σ' H' p' => ⟨xs.length - (i + 1), by omega, rfl, hlt, p'⟩, fun x H' y => ?_⟩
    obtain ⟨e, y⟩ := y
    subst e
    exact hs i x σ _ (y xs q) p
  · have e : i = xs.length := by omega
    subst e
    exact .inl ⟨⟨xs, q, Nat.le_refl _⟩, hd σ H p⟩
theorem for_range {lo : Int} {n : Nat} {g : TG} {tb : TS} {D : Ends} {σ : St} {H : Hp} (Pv : Nat → St → Hp → Prop) (h0 : Pv 0 σ H)
    (hs : ∀ i σ H, i < n → Pv i σ H → g (.int (lo + i)) σ H fun σ2 H2 => tb { D with nx := Pv (i + 1), ct := Pv (i + 1), bk := D.nx } σ2 H2) (hd : ∀ σ H, Pv n σ H → D.nx σ H) :
    ∃ W : Nat → Nat → St → Hp → Prop, (∃ m, W 0 m σ H) ∧ ∀ i m σ H, W i m σ H →
      ((Itr lo n).stop i H ∧ D.nx σ H) ∨ ((Itr lo n).go i H ∧ ∃ N : St → Hp → Prop, (∀ σ' H', N σ' H' → ∃ m', m' < m ∧ W (i + 1) m' σ' H') ∧ ∀ x H', (Itr lo n).yld i H x H' → g x σ H' fun σ2 H2 => tb { D with nx := N, ct := N, bk := D.nx } σ2 H2) := by
  refine ⟨fun i m σ H => m = n - i ∧ i ≤ n ∧ Pv i σ H, ⟨n, by simp, Nat.zero_le _, h0⟩, ?_⟩
  rintro i m σ H ⟨rfl, hi, p⟩
  by_cases hlt : i < n
  · refine .inr ⟨hlt, Pv (i + 1), fun σ' H' p' => ⟨n - (i + 1), by omega, rfl, hlt, p'⟩, fun x H' y => ?_⟩
    obtain ⟨e, y⟩ := y
    subst e y
    exact hs i σ _ hlt p
  · have e : i = n := by omega
    subst e
    exact .inl ⟨Nat.le_refl _, hd σ H p⟩
end L2

namespace L2
open PySem PySem.Spec PyProof.Rows

abbrev R2 := V → V → Hp → VK → Prop
/-- a two-place operation on values: f is binaryOp op, inplaceOp op or compareOp op -/
def OpR (X : Cx) (f : Value → Value → Sem Value) (r : R2) : Prop :=
  ∀ (pins : List (Addr × Obj)) (s : Shared) (σ : St) (H : Hp) (x y : V) (v u : Value) (Q : VK), Inv X pins σ H s → RelV x v → RelV y u → r x y H Q →
    wpAny (model X.prog X.w) X.A (f v u) (EP X pins σ Q) X.xe s
/-- a one-place operation -/
def UnR (X : Cx) (f : Value → Sem Value) (r : V → Hp → VK → Prop) : Prop :=
  ∀ (pins : List (Addr × Obj)) (s : Shared) (σ : St) (H : Hp) (x : V) (v : Value) (Q : VK), Inv X pins σ H s → RelV x v → r x H Q →
    wpAny (model X.prog X.w) X.A (f v) (EP X pins σ Q) X.xe s
/-- a call of a value that is known (a builtin, a type) with values -/
def CallR (X : Cx) (f : Value) (r : List V → Hp → VK → Prop) : Prop :=
  ∀ (pins : List (Addr × Obj)) (s : Shared) (σ : St) (H : Hp) (xs : List V) (us : List Value) (Q : VK), Inv X pins σ H s → Vals xs us → r xs H Q →
    wpAny (model X.prog X.w) X.A (call f us) (EP X pins σ Q) X.xe s
/-- a value's truth -/
def TruR (X : Cx) (r : V → Hp → (Bool → Hp → Prop) → Prop) : Prop :=
  ∀ (pins : List (Addr × Obj)) (s : Shared) (σ : St) (H : Hp) (x : V) (v : Value) (Q : Bool → Hp → Prop), Inv X pins σ H s → RelV x v → r x H Q →
    wpAny (model X.prog X.w) X.A (truthy v) (TP X pins σ Q) X.xe s

def tOp (r : R2) (ta tb : TE) : TE := fun σ H Q => ta σ H fun x H1 => tb σ H1 fun y H2 => r x y H2 Q
def tUn (r : V → Hp → VK → Prop) (ta : TE) : TE := fun σ H Q => ta σ H fun x H1 => r x H1 Q
/-- ints in, under C, and a value out -/
def rI (C : Int → Int → Prop) (g : Int → Int → V) : R2 := fun x y H Q => ∃ i j, x = .int i ∧ y = .int j ∧ C i j ∧ Q (g i j) H
def rI0 (g : Int → Int → V) : R2 := fun x y H Q => ∃ i j, x = .int i ∧ y = .int j ∧ Q (g i j) H
def rU (g : Int → V) : V → Hp → VK → Prop := fun x H Q => ∃ i, x = .int i ∧ Q (g i) H

section
variable {X : Cx} {a b c : Expr} {ta tb tc : TE} {pos : Pos}

theorem binT (ha : PE X a ta) (hb : PE X b tb) {pins : List (Addr × Obj)} {s : Shared} {σ : St} {H : Hp} {R : V → V → Hp → Prop} (I : Inv X pins σ H s)
    (h : ta σ H fun x H1 => tb σ H1 fun y H2 => R x y H2) {Q : Value → Shared → Prop} {f : Value → Value → Sem Value}
    (hf : ∀ v u s2 x y H2, Inv X pins σ H2 s2 → RelV x v → RelV y u → R x y H2 → wpAny (model X.prog X.w) X.A (f v u) Q X.xe s2) :
    wpAny (model X.prog X.w) X.A (eval a X.env) (fun v s₁ => wpAny (model X.prog X.w) X.A (eval b X.env) (fun u s₂ => wpAny (model X.prog X.w) X.A (f v u) Q X.xe s₂) X.xe s₁) X.xe s := by
  refine thn (ha pins s σ H _ I h) fun v s1 ⟨x, H1, I1, r1, q1⟩ => ?_
  refine thn (hb pins s1 σ H1 _ I1 q1) fun u s2 ⟨y, H2, I2, r2, q2⟩ => ?_
  exact hf v u s2 x y H2 I2 r1 r2 q2

theorem pe_op {op : Operator} {r : R2} (ho : OpR X (binaryOp op) r) (ha : PE X a ta) (hb : PE X b tb) : PE X (.BinOp a op b pos) (tOp r ta tb) := by
  intro pins s σ H Q I h
  exact wpAny_BinOp (binT ha hb I h fun v u s2 x y H2 I2 rx ry q => ho pins s2 σ H2 x y v u Q I2 rx ry q)
theorem pe_un {op : UnaryOp} {r : V → Hp → VK → Prop} (ho : UnR X (unaryOp op) r) (ha : PE X a ta) : PE X (.UnaryOp op a pos) (tUn r ta) := by
  intro pins s σ H Q I h
  exact UnaryOp_ (thn (ha pins s σ H _ I h) fun v s1 ⟨x, H1, I1, r1, q1⟩ => ho pins s1 σ H1 x v Q I1 r1 q1)

/-! ### ints -/
theorem opI {f : Value → Value → Sem Value} {C : Int → Int → Prop} {g : Int → Int → Int}
    (rule : ∀ (i j : Int) (t u : Tok) (s : Shared) (Q : Value → Shared → Prop) (E : Value → Shared → Prop), C i j → Q (.int (g i j) s.toks) { s with toks := s.toks + 1 } → wpAny (model X.prog X.w) X.A (f (.int i t) (.int j u)) Q E s) :
    OpR X f (rI C fun i j => .int (g i j)) := by
  intro pins s σ H x y v u Q I rx ry h
  obtain ⟨i, j, rfl, rfl, hc, q⟩ := h
  obtain ⟨t, rfl⟩ := rx
  obtain ⟨t', rfl⟩ := ry
  exact rule i j t t' s _ _ hc ⟨.int (g i j), H, I.tok _, ⟨_, rfl⟩, q⟩
theorem opI0 {f : Value → Value → Sem Value} {g : Int → Int → Int}
    (rule : ∀ (i j : Int) (t u : Tok) (s : Shared) (Q : Value → Shared → Prop) (E : Value → Shared → Prop), Q (.int (g i j) s.toks) { s with toks := s.toks + 1 } → wpAny (model X.prog X.w) X.A (f (.int i t) (.int j u)) Q E s) :
    OpR X f (rI0 fun i j => .int (g i j)) := by
  intro pins s σ H x y v u Q I rx ry h
  obtain ⟨i, j, rfl, rfl, q⟩ := h
  obtain ⟨t, rfl⟩ := rx
  obtain ⟨t', rfl⟩ := ry
  exact rule i j t t' s _ _ ⟨.int (g i j), H, I.tok _, ⟨_, rfl⟩, q⟩
theorem opB0 {f : Value → Value → Sem Value} {g : Int → Int → Bool}
    (rule : ∀ (i j : Int) (t u : Tok) (s : Shared) (Q : Value → Shared → Prop) (E : Value → Shared → Prop), Q (.bool (g i j)) s → wpAny (model X.prog X.w) X.A (f (.int i t) (.int j u)) Q E s) :
    OpR X f (rI0 fun i j => .bl (g i j)) := by
  intro pins s σ H x y v u Q I rx ry h
  obtain ⟨i, j, rfl, rfl, q⟩ := h
  obtain ⟨t, rfl⟩ := rx
  obtain ⟨t', rfl⟩ := ry
  exact rule i j t t' s _ _ ⟨.bl (g i j), H, I, rfl, q⟩

def CDiv (i j : Int) : Prop := 0 < j ∧ j < 1073741824
def CPow (i j : Int) : Prop := 0 ≤ j ∧ j ≤ 1000000 ∧ i.natAbs < 2 ^ 64
def CMul (i j : Int) : Prop := (-(2 ^ 64) < i ∧ i < 2 ^ 64) ∨ (-(2 ^ 64) < j ∧ j < 2 ^ 64)
theorem CMul.ok {i j : Int} (h : CMul i j) : IntMulOk i j := by
  rcases h with ⟨h1, h2⟩ | ⟨h1, h2⟩
  · exact .of_left (intBits_le_64 h1 h2)
  · exact .of_right (intBits_le_64 h1 h2)

theorem op_add : OpR X (binaryOp .Add) (rI0 fun i j => .int (i + j)) := opI0 fun _ _ _ _ _ _ _ q => add_int q
theorem op_sub : OpR X (binaryOp .Sub) (rI0 fun i j => .int (i - j)) := opI0 fun _ _ _ _ _ _ _ q => sub_int q
theorem op_mul : OpR X (binaryOp .Mult) (rI CMul fun i j => .int (i * j)) := opI fun _ _ _ _ _ _ _ hc q => mul_int q hc.ok
/-- // by a positive divisor -/
theorem op_fdiv : OpR X (binaryOp .FloorDiv) (rI CDiv fun i j => .int (i / j)) := opI fun i j _ _ _ _ _ hc q => by
  have h1 : (0 : Int) < j := hc.1
  have h2 : j < 1073741824 := hc.2
  exact floordiv_int (by omega) (by rw [Int.fdiv_eq_ediv_of_nonneg i (by omega)]; exact q) (.inl (PyProof.noPylong_small (by omega)))
/-- % by a positive divisor of any size -/
theorem op_mod : OpR X (binaryOp .Mod) (rI (fun _ j => 0 < j) fun i j => .int (i % j)) := opI fun i j _ _ _ _ _ hc q => by
  have h1 : (0 : Int) < j := hc
  exact mod_int' (by omega) (by rw [Int.fmod_eq_emod_of_nonneg i (by omega)]; exact q)
theorem op_pow : OpR X (binaryOp .Pow) (rI CPow fun i j => .int (i ^ j.toNat)) := opI fun _ _ _ _ _ _ _ hc q => pow_int_small hc.1 hc.2.1 hc.2.2 q


theorem unI {f : Value → Sem Value} {g : Int → Int}
    (rule : ∀ (i : Int) (t : Tok) (s : Shared) (Q : Value → Shared → Prop) (E : Value → Shared → Prop), Q (.int (g i) s.toks) { s with toks := s.toks + 1 } → wpAny (model X.prog X.w) X.A (f (.int i t)) Q E s) :
    UnR X f (rU fun i => .int (g i)) := by
  intro pins s σ H x v Q I rx h
  obtain ⟨i, rfl, q⟩ := h
  obtain ⟨t, rfl⟩ := rx
  exact rule i t s _ _ ⟨.int (g i), H, I.tok _, ⟨_, rfl⟩, q⟩
theorem un_neg : UnR X (unaryOp .USub) (rU fun i => .int (-i)) := unI fun _ _ _ _ _ q => neg_int q

/-! ### bools among ints: n += (a < b) -/
end

/-! ### comparisons -/
/-- the scalars that == tells apart as data does -/
def scal : V → V → Bool
  | .non, .non => true | .non, .int _ => true | .int _, .non => true | .non, .bl _ => true | .bl _, .non => true | .non, .str _ => true | .str _, .non => true
  | .int _, .int _ => true | .bl _, .bl _ => true | .str _, .str _ => true | .byt _, .byt _ => true
  | .int _, .str _ => true | .str _, .int _ => true | .bl _, .str _ => true | .str _, .bl _ => true
  | _, _ => false
def rEq : R2 := fun x y H Q => scal x y = true ∧ Q (.bl (decide (x = y))) H
def rNe : R2 := fun x y H Q => scal x y = true ∧ Q (.bl (!decide (x = y))) H

theorem dec_int {i j : Int} : decide (V.int i = V.int j) = (i == j) := by
  rw [Bool.eq_iff_iff]
  simp
theorem dec_bl {i j : Bool} : decide (V.bl i = V.bl j) = (i == j) := by
  rw [Bool.eq_iff_iff]
  simp
theorem dec_str {i j : Str} : decide (V.str i = V.str j) = (i == j) := by
  rw [Bool.eq_iff_iff]
  simp
theorem dec_byt {i j : Array UInt8} : decide (V.byt i = V.byt j) = (i.toList == j.toList) := by
  rw [Bool.eq_iff_iff]
  cases i
  cases j
  simp

section
variable {X : Cx} {a b c : Expr} {ta tb tc : TE} {pos : Pos}
theorem fin_bl {pins : List (Addr × Obj)} {σ : St} {H : Hp} {s : Shared} {Q : VK} {k k' : Bool} (I : Inv X pins σ H s) (q : Q (.bl k) H) (e : k = k') : EP X pins σ Q (.bool k') s := by
  subst e
  exact ⟨.bl k, H, I, rfl, q⟩
theorem op_eq : OpR X (compareOp .Eq) rEq := by
  intro pins s σ H x y v u Q I rx ry h
  obtain ⟨hs, q⟩ := h
  cases x with
  | non =>
    cases rx
    cases y with
    | non => cases ry; exact PySem.EqNone.eq_none_none (fin_bl I q (by simp))
    | bl j => cases ry; exact PySem.EqNone.eq_none_bool (fin_bl I q (by simp))
    | int j => obtain ⟨t', rfl⟩ := ry; exact PySem.EqNone.eq_none_int (fin_bl I q (by simp))
    | str j => obtain ⟨t', rfl⟩ := ry; exact PySem.EqNone.eq_none_str (fin_bl I q (by simp))
    | _ => exact absurd (show false = true from hs) Bool.false_ne_true
  | bl i =>
    cases rx
    cases y with
    | non => cases ry; exact PySem.EqNone.eq_bool_none (fin_bl I q (by simp))
    | bl j => cases ry; exact eq_bool (fin_bl I q dec_bl)
    | str j => obtain ⟨t', rfl⟩ := ry; exact PySem.EqMixed.eq_bool_str (fin_bl I q (by simp))
    | _ => exact absurd (show false = true from hs) Bool.false_ne_true
  | int i =>
    obtain ⟨t, rfl⟩ := rx
    cases y with
    | non => cases ry; exact PySem.EqNone.eq_int_none (fin_bl I q (by simp))
    | int j => obtain ⟨t', rfl⟩ := ry; exact eq_int (fin_bl I q dec_int)
    | str j => obtain ⟨t', rfl⟩ := ry; exact PySem.EqMixed.eq_int_str (fin_bl I q (by simp))
    | _ => exact absurd (show false = true from hs) Bool.false_ne_true
  | str i =>
    obtain ⟨t, rfl⟩ := rx
    cases y with
    | non => cases ry; exact PySem.EqNone.eq_str_none (fin_bl I q (by simp))
    | bl j => cases ry; exact PySem.EqMixed.eq_str_bool (fin_bl I q (by simp))
    | int j => obtain ⟨t', rfl⟩ := ry; exact PySem.EqMixed.eq_str_int (fin_bl I q (by simp))
    | str j => obtain ⟨t', rfl⟩ := ry; exact eq_str (fin_bl I q dec_str)
    | _ => exact absurd (show false = true from hs) Bool.false_ne_true
  | byt i =>
    obtain ⟨t, rfl⟩ := rx
    cases y with
    | byt j => obtain ⟨t', rfl⟩ := ry; exact PySem.W.eq_bytes (fin_bl I q dec_byt)
    | _ => exact absurd (show false = true from hs) Bool.false_ne_true
  | _ => cases y <;> exact absurd (show false = true from hs) Bool.false_ne_true
theorem op_ne : OpR X (compareOp .NotEq) rNe := by
  intro pins s σ H x y v u Q I rx ry h
  obtain ⟨hs, q⟩ := h
  cases x with
  | non =>
    cases rx
    cases y with
    | non => cases ry; exact PySem.EqNone.ne_none_none (fin_bl I q (by simp))
    | bl j => cases ry; exact PySem.EqNone.ne_none_bool (fin_bl I q (by simp))
    | int j => obtain ⟨t', rfl⟩ := ry; exact PySem.EqNone.ne_none_int (fin_bl I q (by simp))
    | str j => obtain ⟨t', rfl⟩ := ry; exact PySem.EqNone.ne_none_str (fin_bl I q (by simp))
    | _ => exact absurd (show false = true from hs) Bool.false_ne_true
  | bl i =>
    cases rx
    cases y with
    | non => cases ry; exact PySem.EqNone.ne_bool_none (fin_bl I q (by simp))
    | bl j => cases ry; exact ne_bool (fin_bl I q (congrArg not dec_bl))
    | str j => obtain ⟨t', rfl⟩ := ry; exact PySem.EqMixed.ne_bool_str (fin_bl I q (by simp))
    | _ => exact absurd (show false = true from hs) Bool.false_ne_true
  | int i =>
    obtain ⟨t, rfl⟩ := rx
    cases y with
    | non => cases ry; exact PySem.EqNone.ne_int_none (fin_bl I q (by simp))
    | int j => obtain ⟨t', rfl⟩ := ry; exact ne_int (fin_bl I q (congrArg not dec_int))
    | str j => obtain ⟨t', rfl⟩ := ry; exact PySem.EqMixed.ne_int_str (fin_bl I q (by simp))
    | _ => exact absurd (show false = true from hs) Bool.false_ne_true
  | str i =>
    obtain ⟨t, rfl⟩ := rx
    cases y with
    | non => cases ry; exact PySem.EqNone.ne_str_none (fin_bl I q (by simp))
    | bl j => cases ry; exact PySem.EqMixed.ne_str_bool (fin_bl I q (by simp))
    | int j => obtain ⟨t', rfl⟩ := ry; exact PySem.EqMixed.ne_str_int (fin_bl I q (by simp))
    | str j => obtain ⟨t', rfl⟩ := ry; exact ne_str (fin_bl I q (congrArg not dec_str))
    | _ => exact absurd (show false = true from hs) Bool.false_ne_true
  | byt i =>
    obtain ⟨t, rfl⟩ := rx
    cases y with
    | byt j => obtain ⟨t', rfl⟩ := ry; exact PySem.W.ne_bytes (fin_bl I q (congrArg not dec_byt))
    | _ => exact absurd (show false = true from hs) Bool.false_ne_true
  | _ => cases y <;> exact absurd (show false = true from hs) Bool.false_ne_true

theorem op_lt : OpR X (compareOp .Lt) (rI0 fun i j => .bl (decide (i < j))) := opB0 fun _ _ _ _ _ _ _ q => lt_int q
theorem op_le : OpR X (compareOp .LtE) (rI0 fun i j => .bl (decide (i ≤ j))) := opB0 fun _ _ _ _ _ _ _ q => le_int q
theorem op_gt : OpR X (compareOp .Gt) (rI0 fun i j => .bl (decide (j < i))) := opB0 fun _ _ _ _ _ _ _ q => gt_int q
theorem op_ge : OpR X (compareOp .GtE) (rI0 fun i j => .bl (decide (j ≤ i))) := opB0 fun _ _ _ _ _ _ _ q => ge_int q
/-- the one string within the other -/
theorem op_in_str : OpR X (compareOp .In) (fun x y H Q => ∃ i j, x = .str i ∧ y = .str j ∧ Q (.bl (!(Builtin.Str.occurrences j i 0 j.length 1).isEmpty)) H) := by
  intro pins s σ H x y v u Q I rx ry h
  obtain ⟨i, j, rfl, rfl, q⟩ := h
  obtain ⟨t, rfl⟩ := rx
  obtain ⟨t', rfl⟩ := ry
  exact in_str (fin_bl I q rfl)

/-- is None, is not None: the right side a value none -/
theorem op_isN : OpR X (compareOp .Is) (fun x y H Q => y = .non ∧ Q (.bl (decide (x = .non))) H) := by
  intro pins s σ H x y v u Q I rx ry h
  obtain ⟨rfl, q⟩ := h
  cases ry
  refine is_none_gen (fin_bl I q ?_)
  cases x <;> first
    | (cases rx; rfl)
    | (obtain ⟨t, rfl⟩ := rx; rfl)
theorem op_notN : OpR X (compareOp .IsNot) (fun x y H Q => y = .non ∧ Q (.bl (!decide (x = .non))) H) := by
  intro pins s σ H x y v u Q I rx ry h
  obtain ⟨rfl, q⟩ := h
  cases ry
  refine isnot_none_gen (fin_bl I q ?_)
  cases x <;> first
    | (cases rx; rfl)
    | (obtain ⟨t, rfl⟩ := rx; rfl)



theorem nomark (b : Expr) {op : CmpOp} (h : op ≠ .In := by decide) (h2 : op ≠ .NotIn := by decide) : behindInMarks op b = false := by
  have e1 : (op == CmpOp.In) = false := by cases op <;> first | rfl | exact absurd rfl h
  have e2 : (op == CmpOp.NotIn) = false := by cases op <;> first | rfl | exact absurd rfl h2
  cases b <;> simp [behindInMarks, e1, e2]
/-- a comparison as a value; hm: nomark b, or (for in, not in) by with_unfolding_all rfl -/
theorem pe_cmpR {op : CmpOp} {r : R2} (ho : OpR X (compareOp op) r) (ha : PE X a ta) (hb : PE X b tb) (hm : behindInMarks op b = false) : PE X (.Compare a [op] [b] pos) (tOp r ta tb) := by
  intro pins s σ H Q I h
  exact wpAny_Compare1 (binT ha hb I h fun v u s2 x y H2 I2 rx ry q => ho pins s2 σ H2 x y v u Q I2 rx ry q) hm
/-- a reading of a value as a test -/
def tTest (t : TE) : TT := fun σ H Q => t σ H fun x H' => ∃ k, x = .bl k ∧ Q k H'
theorem pt_cmpR {op : CmpOp} {r : R2} (ho : OpR X (compareOp op) r) (ha : PE X a ta) (hb : PE X b tb) (hm : behindInMarks op b = false) : PT X (.Compare a [op] [b] pos) (tTest (tOp r ta tb)) := by
  intro pins s σ H Q I h
  refine wpAny_isTrue_Compare1 (thn (ha pins s σ H _ I h) fun v s1 ⟨x, H1, I1, r1, q1⟩ => thn (hb pins s1 σ H1 _ I1 q1) fun u s2 ⟨y, H2, I2, r2, q2⟩ =>
    thn (ho pins s2 σ H2 x y v u _ I2 r1 r2 q2) fun c s3 ⟨z, H3, I3, r3, k, e, q3⟩ => ?_) hm
  subst e
  cases r3
  exact wpAny_truthy_bool ⟨H3, I3, q3⟩
/-- a op1 b op2 c -/
def tChain (r r' : R2) (ta tb tc : TE) : TE := fun σ H Q => ta σ H fun x H1 => tb σ H1 fun y H2 => r x y H2 fun z H3 => ∃ k, z = .bl k ∧
  (if k = true then tc σ H3 fun w' H4 => r' y w' H4 Q else Q (.bl false) H3)
theorem pe_chain {op op' : CmpOp} {r r' : R2} (ho : OpR X (compareOp op) r) (ho' : OpR X (compareOp op') r') (ha : PE X a ta) (hb : PE X b tb) (hc : PE X c tc)
    (hm : lastMarks [op, op'] [b, c] = false := by with_unfolding_all rfl) : PE X (.Compare a [op, op'] [b, c] pos) (tChain r r' ta tb tc) := by
  intro pins s σ H Q I h
  refine Compare_chain (thn (ha pins s σ H _ I h) fun v s1 ⟨x, H1, I1, r1, q1⟩ => chain_link (thn (hb pins s1 σ H1 _ I1 q1) fun u s2 ⟨y, H2, I2, r2, q2⟩ =>
    thn (ho pins s2 σ H2 x y v u _ I2 r1 r2 q2) fun d s3 ⟨z, H3, I3, r3, k, e, q3⟩ => ?_)) hm
  subst e
  cases r3
  refine wpAny_truthy_bool ?_
  cases k with
  | false => exact ite_ff ⟨.bl false, H3, I3, rfl, q3⟩
  | true => exact ite_tt (chain_last (thn (hc pins s3 σ H3 _ I3 q3) fun w' s4 ⟨z', H4, I4, r4, q4⟩ => ho' pins s4 σ H4 y z' u w' Q I4 r2 r4 q4))

/-! ### truth -/
/-- a value's truth by the abstract heap -/
def TruV (K : PySem.W.Frag) (x : V) (H : Hp) (k : Bool) : Prop :=
  match x with
  | .non => k = false
  | .bl b => k = b
  | .int i => k = (i != 0)
  | .str y => y.length ≤ sizeLine ∧ k = ((y.length : Int) != 0)
  | .byt y => y.size ≤ sizeLine ∧ k = ((y.size : Int) != 0)
  | .ref p => (∃ xs, SqL K H p xs ∧ k = !xs.isEmpty) ∨ (∃ xs, SqT K H p xs ∧ k = !xs.isEmpty) ∨ ∃ kvs, H p = some (.dK kvs) ∧ k = !kvs.isEmpty
  | _ => False
theorem isEmpty_kv {κ : Type} {kvs : List (κ × V)} {vs : List (κ × Value)} (r : KV kvs vs) : (!vs.isEmpty) = !kvs.isEmpty := by
  cases r <;> rfl
theorem isEmpty_of {xs : List V} {its : List Value} (r : Vals xs its) : (!its.toArray.isEmpty) = !xs.isEmpty := by
  cases r <;> simp
theorem line63 : (sizeLine : Nat) < 2 ^ 63 := by rw [sizeLine_eq]; decide
theorem tru_ok : TruR X (fun x H Q => ∃ k, TruV X.K x H k ∧ Q k H) := by
  intro pins s σ H x v Q I rx h
  obtain ⟨k, e, q⟩ := h
  have hl := line63
  have hs : sizeLine = 16777216 := sizeLine_eq
  cases x with
  | non =>
    cases rx
    have e' : k = false := e
    subst e'
    exact truthy_none ⟨H, I, q⟩
  | bl b =>
    cases rx
    have e' : k = b := e
    subst e'
    exact wpAny_truthy_bool ⟨H, I, q⟩
  | int i =>
    obtain ⟨t, rfl⟩ := rx
    have e' : k = (i != 0) := e
    subst e'
    exact PySem.P.truthy_int ⟨H, I, q⟩
  | str y =>
    obtain ⟨t, rfl⟩ := rx
    obtain ⟨hy, e'⟩ : y.length ≤ sizeLine ∧ k = ((y.length : Int) != 0) := e
    subst e'
    exact PySem.P.truthy_str (by omega) ⟨H, I.tok _, q⟩
  | byt y =>
    obtain ⟨t, rfl⟩ := rx
    obtain ⟨hy, e'⟩ : y.size ≤ sizeLine ∧ k = ((y.size : Int) != 0) := e
    subst e'
    exact PySem.W.truthy_bytes (by omega) ⟨H, I.tok _, q⟩
  | ref p =>
    cases rx
    have e' : (∃ xs, SqL X.K H p xs ∧ k = !xs.isEmpty) ∨ (∃ xs, SqT X.K H p xs ∧ k = !xs.isEmpty) ∨ ∃ kvs, H p = some (.dK kvs) ∧ k = !kvs.isEmpty := e
    rcases e' with ⟨xs, hx, e'⟩ | ⟨xs, hx, e'⟩ | ⟨kvs, hx, e'⟩
    · subst e'
      obtain ⟨its, r, pl, hz⟩ := I.list hx
      have hlen := r.length
      exact wpAny_truthy_list pl.isList (by simp only [List.size_toArray]; omega) ⟨H, I.tok _, by rw [isEmpty_of r]; exact q⟩
    · subst e'
      obtain ⟨its, r, pl, hz⟩ := I.tuple hx
      have hlen := r.length
      exact truthy_tuple pl (by simp only [List.size_toArray]; omega) ⟨H, I.tok _, by rw [isEmpty_of r]; exact q⟩
    · subst e'
      obtain ⟨hz, hS, vs, r, m⟩ : kvs.length ≤ sizeLine ∧ (p == sysModules) = false ∧ ∃ vs, KV kvs vs ∧ s.heap.DictOf (mixKind X.prog X.w) p vs := I.hok p _ hx
      have hlen : kvs.length = vs.length := Paired.length r
      exact wpAny_truthy_dict hS m (by omega) ⟨H, I.tok _, by rw [isEmpty_kv r]; exact q⟩
  | _ => exact (show False from e).elim
/-- any expression whose test is its value's truth (a name, a call, a subscript, a field ..: he by fun _ => rfl) -/
theorem pt_truth (ha : PE X a ta) (he : ∀ whole, isTrue a X.env whole = (do let v ← whole; standAt a.pos; holding [v] (truthy v))) :
    PT X a (fun σ H Q => ta σ H fun x H' => ∃ k, TruV X.K x H' k ∧ Q k H') := by
  intro pins s σ H Q I h
  exact isTrue_plain (thn (ha pins s σ H _ I h) fun v s1 ⟨x, H1, I1, r1, q1⟩ => tru_ok pins s1 σ H1 x v Q I1 r1 q1) (he _)

/-! ### strs and bytes -/
theorem op_add_str : OpR X (binaryOp .Add) (fun x y H Q => ∃ i j, x = .str i ∧ y = .str j ∧ i.length + j.length ≤ sizeLine ∧ Q (.str (i ++ j)) H) := by
  intro pins s σ H x y v u Q I rx ry h
  obtain ⟨i, j, rfl, rfl, hz, q⟩ := h
  obtain ⟨t, rfl⟩ := rx
  obtain ⟨t', rfl⟩ := ry
  exact add_str (fun t' tk => ⟨.str (i ++ j), H, I.tok _, ⟨_, rfl⟩, q⟩) hz


/-! ### scalar builtins, by CallR -/
theorem vals1 {x : V} {us : List Value} (r : Vals [x] us) : ∃ u, us = [u] ∧ RelV x u := by
  cases r with
  | cons r1 r2 => cases r2; exact ⟨_, rfl, r1⟩
theorem vals2 {x y : V} {us : List Value} (r : Vals [x, y] us) : ∃ u w', us = [u, w'] ∧ RelV x u ∧ RelV y w' := by
  cases r with
  | cons r1 r2 =>
    cases r2 with
    | cons r3 r4 => cases r4; exact ⟨_, _, rfl, r1, r3⟩
theorem call_str_int : CallR X (.type "str") (fun xs H Q => ∃ i, xs = [.int i] ∧ i.natAbs.log2 < 1920 ∧ Q (.str (toString i)) H) := by
  intro pins s σ H xs us Q I r h
  obtain ⟨i, rfl, hz, q⟩ := h
  obtain ⟨u, rfl, t, rfl⟩ := vals1 r
  exact PySem.P.str_of_int hz ⟨.str _, H, I.tok _, ⟨_, rfl⟩, q⟩
end
end L2

namespace L2
open PySem PySem.Spec PyProof.Rows

/-! ### an instance, its attributes a map -/
structure ObjM (h : Heap) (x dx C : Addr) (mA : Str → Option Value) : Prop where
  obj : h.get? x = some (PySem.W.instObj C dx)
  ns : h.Ns1 dx mA
  ne : dx ≠ x

theorem lookIn_ns {h : Heap} {dx : Addr} {mA : Str → Option Value} (n : h.Ns1 dx mA) : ∃ od, h.get? dx = some od ∧ ∀ name, PySem.W.lookIn name od = some (mA name) := by
  obtain ⟨o, es, ep, ho, hd, hk, _, hm⟩ := n
  refine ⟨o, ho, fun name => ?_⟩
  have e := hm name
  unfold nsFind findBy at e
  rw [← Array.find?_toList] at e
  unfold PySem.W.lookIn
  rw [hd]
  dsimp only
  split
  · rename_i y q
    rw [q] at e
    exact congrArg some e
  · rename_i q
    rw [q] at e
    have a : es.toList.any (·.refKey) = false := by
      rw [List.any_eq_false]
      intro y hy
      obtain ⟨z, t, hkey⟩ := hk y (Array.mem_toList_iff.mp hy)
      simp [DictEntry.refKey, hkey]
    have a' : ¬ es.toList.any (·.refKey) = true := by rw [a]; exact Bool.false_ne_true
    rw [if_neg a']
    exact congrArg some e

theorem ObjM.look {h : Heap} {x dx C : Addr} {mA : Str → Option Value} (I : ObjM h x dx C mA) : ∃ od, PySem.W.InstAt h x (PySem.W.instObj C dx) C (some od) ∧ ∀ name, PySem.W.lookIn name od = some (mA name) :=
  let ⟨od, ho, hl⟩ := lookIn_ns I.ns
  ⟨od, ⟨I.obj, rfl, rfl, ho⟩, hl⟩

section
variable {prog : Program} {w : World} {A : Around} {E : Value → Shared → Prop} {s : Shared} {K : PySem.W.Frag} {x dx C f : Addr} {mA : Str → Option Value} {name : Str} {v : Value}





end

/-! ### the attributes as a list of pairs -/


section
variable {P : Program} {w : World} {H H' : Hp} {h h' : Heap} {a C dx : Addr} {fs fs' : List (Str × V)}
theorem ins_get (hok : HOk P w H h) (e : H a = some (.ins C dx fs)) : ∃ mA, ObjM h a dx C mA ∧ (∀ f, RelO (fs.lookup f) (mA f)) ∧ PySem.Within mA (fs.map (·.1)) ∧ fs.length ≤ 1000 ∧ H dx = some (.own a) := by
  obtain ⟨d, z, ne, ob, mA, n, r, q⟩ := (show ObjOk P w H h a (.ins C dx fs) from hok a _ e)
  exact ⟨mA, ⟨ob, n, ne⟩, r, q, z, d⟩
end

/-! ### what of the text a class must have -/
structure Cls (K : PySem.W.Frag) (C : Addr) : Prop where
  pg : PySem.W.plainGet K C Str.empty = true
  hd : PySem.W.hasDictIn K C = true
  po : PySem.W.plainOver K C = true
  sa : PySem.W.findIn K (.ref C) "__setattr__" = some (some (.builtin "object.__setattr__"))
theorem Cls.get {K : PySem.W.Frag} {C : Addr} (c : Cls K C) (f : Str) : PySem.W.plainGet K C f = true := c.pg

section
variable {X : Cx} {pins : List (Addr × Obj)} {σ : St} {H : Hp} {s : Shared} {a C dx : Addr} {fs : List (Str × V)} {f : Str} {v : V} {A : Around} {E : Value → Shared → Prop}






end

/-! ### readings and rules -/

section
variable {X : Cx} {o e value : Expr} {f : Str} {pos pos' tpos : Pos} {ta tv : TE}

end

/-! ### isinstance -/
section
variable {X : Cx} {pins : List (Addr × Obj)} {σ : St} {H : Hp} {s : Shared} {A : Around} {E : Value → Shared → Prop} {Q : Value → Shared → Prop} {c : Value} {b : Bool}
/-- the type of a value, as the fragment's deciders take it; for an instance its class -/
inductive TyOf (K : PySem.W.Frag) (H : Hp) : V → Value → Prop where
  | non : TyOf K H .non (.type "NoneType")
  | bl (x : Bool) : TyOf K H (.bl x) (.type "bool")
  | int (i : Int) : TyOf K H (.int i) (.type "int")
  | str (x : Str) : TyOf K H (.str x) (.type "str")
  | flt (x : UInt64) : TyOf K H (.flt x) (.type "float")
  | lst {a : Addr} {xs : List V} (e : H a = some (.lst xs)) : TyOf K H (.ref a) (.type "list")
  | frz {a : Addr} {o : Obj} {xs : List V} (e : H a = some (.frz o (.lst xs))) : TyOf K H (.ref a) (.type "list")
  | tup {a : Addr} {xs : List V} (e : H a = some (.tup xs)) : TyOf K H (.ref a) (.type "tuple")
  | dK {a : Addr} {kvs : List (Key × V)} (e : H a = some (.dK kvs)) : TyOf K H (.ref a) (.type "dict")
  | dT {a : Addr} {kvs : List (List Key × V)} (e : H a = some (.dT kvs)) : TyOf K H (.ref a) (.type "dict")
  | ins {a C dx : Addr} {fs : List (Str × V)} (e : H a = some (.ins C dx fs)) (cl : Cls K C) (ha : PySem.W.findIn K (.ref C) "__class__" = some (some (.builtin "object.__class__")))
      (hn : PySem.W.specialIn K (.builtin "object.__class__") "__get__" = some (some (.builtin "getset_descriptor.__get__"))) (htk : PySem.W.takesIn K (.builtin "object.__class__") = some true)
      (hm : PySem.W.mroIn K C (.type "object") = some true) : TyOf K H (.ref a) (.ref C)
/-- isinstance(x, c) for one class c, a built-in or an own one: kitOne's answer -/
theorem isinst_ok {x : V} {u t : Value} (I : Inv X pins σ H s) (rx : RelV x u) (ty : TyOf X.K H x t) (e : PySem.W.kitOne X.K t c = some b) (h : ∀ tk, Q (.bool b) { s with toks := tk }) :
    wpAny (model X.prog X.w) A (call (.builtin "isinstance") [u, c]) Q E s := by
  cases ty with
  | non => cases (show u = Value.none from rx); exact PySem.W.kia_one PySem.W.kitx_none I.kIn True.intro e (fun z => nomatch z) h
  | bl y => cases (show u = Value.bool y from rx); exact PySem.W.kia_one PySem.W.kitx_bool I.kIn True.intro e (fun z => nomatch z) h
  | int i => obtain ⟨t, q⟩ := (show ∃ t, u = Value.int i t from rx); cases q; exact PySem.W.kia_one PySem.W.kitx_int I.kIn True.intro e (fun z => nomatch z) h
  | str y => obtain ⟨t, q⟩ := (show ∃ t, u = Value.str y t from rx); cases q; exact PySem.W.kia_one PySem.W.kitx_str I.kIn True.intro e (fun z => nomatch z) h
  | flt y => obtain ⟨t, q⟩ := (show ∃ t, u = Value.float y t from rx); cases q; exact PySem.W.kia_one PySem.W.kitx_float I.kIn True.intro e (fun z => nomatch z) h
  | @lst a xs ea =>
    cases (show u = Value.ref a from rx)
    obtain ⟨_, _, n, _, h1⟩ := (show ObjOk X.prog X.w H s.heap a (.lst xs) from I.hok a _ ea)
    exact PySem.W.kia_one PySem.W.kitx_list I.kIn ⟨_, h1, rfl⟩ e (fun z => nomatch z) h
  | @frz a ob xs ea =>
    cases (show u = Value.ref a from rx)
    obtain ⟨_, _, _, n, _, h1⟩ := (show ObjOk X.prog X.w H s.heap a (.frz ob (.lst xs)) from I.hok a _ ea)
    exact PySem.W.kia_one PySem.W.kitx_list I.kIn ⟨_, h1, rfl⟩ e (fun z => nomatch z) h
  | @tup a xs ea =>
    cases (show u = Value.ref a from rx)
    obtain ⟨_, _, _, p⟩ := (show ObjOk X.prog X.w H s.heap a (.tup xs) from I.hok a _ ea)
    obtain ⟨o, h1, h2, _⟩ := p
    exact PySem.W.kia_one PySem.W.kitx_tuple I.kIn ⟨o, h1, h2⟩ e (fun z => nomatch z) h
  | @dK a kvs ea =>
    cases (show u = Value.ref a from rx)
    obtain ⟨_, _, vs, _, p⟩ := (show ObjOk X.prog X.w H s.heap a (.dK kvs) from I.hok a _ ea)
    obtain ⟨o, es, ep, h1, h2, _⟩ := p
    exact PySem.W.kia_one PySem.W.kitx_dict I.kIn ⟨o, h1, h2.1⟩ e (fun z => nomatch z) h
  | @dT a kvs ea =>
    cases (show u = Value.ref a from rx)
    obtain ⟨_, _, xs, _, o, es, ep, h1, h2, _⟩ := (show ObjOk X.prog X.w H s.heap a (.dT kvs) from I.hok a _ ea)
    exact PySem.W.kia_one PySem.W.kitx_dict I.kIn ⟨o, h1, h2.1⟩ e (fun z => nomatch z) h
  | @ins a C dx fs ea cl ha hn htk hm =>
    cases (show u = Value.ref a from rx)
    obtain ⟨mA, O, _⟩ := ins_get I.hok ea
    obtain ⟨od, J, _⟩ := O.look
    exact PySem.W.kia_one (PySem.W.kitx_own (cl.get _) cl.hd ha hn htk hm) I.kIn J e (fun z => nomatch z) h
end
end L2

namespace L2
open PySem PySem.Spec PyProof.Rows

/-! ### room -/
structure Room (k : Nat) (A : Around) : Prop where
  hd : A.handled = none
  dp : A.depth + 3 * k + 5 < recursionLimit
  un : A.units + 16 * k + 200 < cLine
theorem Room.mono {j k : Nat} {A : Around} (r : Room k A) (h : j ≤ k) : Room j A := ⟨r.hd, by have := r.dp; omega, by have := r.un; omega⟩
theorem Room.deeper {k : Nat} {A : Around} (r : Room (k + 1) A) (env : Env) : Room k (A.deeper env) :=
  ⟨r.hd, by have := r.dp; show A.depth + 1 + 3 * k + 5 < _; omega, by have := r.un; show A.units + 3 + 16 * k + 200 < _; omega⟩
theorem Room.depth {k : Nat} {A : Around} (r : Room k A) : A.depth < recursionLimit := by have := r.dp; omega

/-! ### argument lists and displays -/
def tNil : TA := fun _ H Q => Q [] H
def tCons (ta : TE) (tr : TA) : TA := fun σ H Q => ta σ H fun x H1 => tr σ H1 fun xs H2 => Q (x :: xs) H2
section
variable {X : Cx} {e : Expr} {es : List Expr} {te : TE} {t : TA} {pos : Pos}
theorem pa_nil : PA X [] tNil := fun _ _ _ _ H Q I h => Calls.spliced_nil ⟨[], H, I, .nil, h⟩
theorem pa_cons (ha : PE X e te) (hr : PA X es t) (hs : starEach (e :: es) X.env = (false, eval e X.env) :: starEach es X.env := by rfl) : PA X (e :: es) (tCons te t) := by
  intro pos pins s σ H Q I h
  rw [hs]
  show wpAny _ _ (spliced ((false, eval e X.env) :: backTo pos (starEach es X.env))) _ _ s
  refine Calls.spliced_cons (thn (ha pins s σ H _ I h) fun u s1 ⟨x, H1, I1, r1, q1⟩ => ?_)
  exact thn (hr pos pins s1 σ H1 _ I1 q1) fun us s2 ⟨xs, H2, I2, r2, q2⟩ => ⟨x :: xs, H2, I2, .cons r1 r2, q2⟩

end

/-! ### what a def promises -/
/-- a def's promise: the bound arguments in the parameters' order, the heap, the wanted end, the wanted exception -/
abbrev Sp := List V → Hp → VK → XK → Prop
/-- how an exception lies behind a call (file 08 gives it): the callers' frames, abstract heap and state ahead of the call, the wish, the exception, the state -/
abbrev CXT := List Env → Hp → Shared → XK → Value → Shared → Prop

/-- the state at a call -/
structure Env0 (P : Program) (w : World) (K : PySem.W.Frag) (mg : Str → Option Value) (base : Heap) (A : Around) (outer : List Env) (s : Shared) (H : Hp) : Prop where
  frames : A.frames = some outer
  mod : Mod K mg base
  bs : ∀ b o, base.get? b = some o → s.heap.get? b = some o ∧ H b = none
  bsz : base.objs.size ≤ s.heap.objs.size
  funs : s.heap.FunFrames base outer
  frf : ∀ b ∈ frs outer, H b = none
  hok : HOk P w H s.heap
  bare : AllBare s.gens
/-- a call's end -/
def CE (outer : List Env) (P : Program) (w : World) (H : Hp) (s : Shared) (Q : VK) (u : Value) (s' : Shared) : Prop :=
  ∃ v H', s'.os = s.os ∧ AllBare s'.gens ∧ Un (frs outer) [] H H' s.heap s'.heap ∧ HOk P w H' s'.heap ∧ RelV v u ∧ Q v H'
def CR (CX : CXT) (outer : List Env) (P : Program) (w : World) (H : Hp) (s : Shared) (Q : VK) (E : XK) (r : Result) (s' : Shared) : Prop :=
  match r with
  | .ok (.ret u) => CE outer P w H s Q u s'
  | .ok _ => False
  | .error e => CX outer H s E e s'
structure FnOk (P : Program) (w : World) (K : PySem.W.Frag) (mg : Str → Option Value) (base : Heap) (CX : CXT) (k : Nat) (f : Addr) (fd : FuncData) (ps : List Str) (sp : Sp) : Prop where
  len : ∀ vs H Q E, sp vs H Q E → vs.length = ps.length
  run : ∀ (A : Around) (outer : List Env) (s : Shared) (H : Hp) (args : Args) (us : List Value) (vs : List V) (Q : VK) (E : XK), Room k A → Env0 P w K mg base A outer s H → BindsTo s fd args (ps.zip us) → Vals vs us → sp vs H Q E →
    codeAny (model P w) A (.call (.ref f) args) (CR CX outer P w H s Q E) s
theorem FnOk.mono {P : Program} {w : World} {K : PySem.W.Frag} {mg : Str → Option Value} {base : Heap} {CX : CXT} {j k : Nat} {f : Addr} {fd : FuncData} {ps : List Str} {sp : Sp} (F : FnOk P w K mg base CX j f fd ps sp) (h : j ≤ k) :
    FnOk P w K mg base CX k f fd ps sp := ⟨F.len, fun A outer s H args us vs Q E hr => F.run A outer s H args us vs Q E (hr.mono h)⟩


section
variable {X : Cx} {pins : List (Addr × Obj)} {σ : St} {H : Hp} {s s' : Shared}
/-- from a body: what a callee wants -/
theorem Inv.env0 (I : Inv X pins σ H s) : Env0 X.prog X.w X.K X.mg X.base X.A X.stack s H :=
  ⟨I.ok.frames, I.ok.mod, I.bs, Nat.le_trans I.ok.bsz I.sz, I.stack, I.stkFree, I.hok, I.bare⟩
/-- behind a call -/
theorem Inv.after {Q : VK} {u : Value} (I : Inv X pins σ H s) (h : CE X.stack X.prog X.w H s Q u s') : EP X pins σ Q u s' := by
  obtain ⟨v, H', os, bare, un, hok, r, q⟩ := h
  obtain ⟨hh, g, d, t, os'⟩ := s'
  obtain rfl : os' = s.os := os
  exact ⟨v, H', I.call (h' := hh) (g' := g) (d' := d) (t' := t) (ch := []) un hok bare (fun b z => absurd z (by simp)), r, q⟩
end

/-! ### calls -/
/-- f(..): the written arguments, then the defaults dvs; E: what is wanted of an exception -/
def tCall (sp : Sp) (dvs : List V) (E : XK) (t : TA) : TE := fun σ H Q => t σ H fun vs H1 => sp (vs ++ dvs) H1 Q E

/-- how the parameters are bound: us the positional arguments, kw the keywords' values by name, ds the defaults that fill up -/
def Binds (K : PySem.W.Frag) (fd : FuncData) (ps : List Str) (ds : List Value) : Prop :=
  ∀ (s : Shared) (us : List Value), K.In s.heap → (us ++ ds).length = ps.length → BindsTo s fd ⟨us, []⟩ (ps.zip (us ++ ds))
/-- every parameter is given -/
theorem Binds.all {K : PySem.W.Frag} {fd : FuncData} {ps : List Str} (h : ∀ us : List Value, us.length = ps.length → bindArgs fd ⟨us, []⟩ = pure (ps.zip us)) : Binds K fd ps [] := fun s us _ hl => by
  rw [List.append_nil] at hl ⊢
  exact .of_eq (h us hl)

/-- an exception of a callee reaches what this body wants of exceptions -/
def Passes (CX : CXT) (X : Cx) (E : XK) : Prop := ∀ (pins : List (Addr × Obj)) (σ : St) (H : Hp) (s : Shared) (e : Value) (s' : Shared), Inv X pins σ H s → CX X.stack H s E e s' → X.xe e s'

section
variable {X : Cx} {CX : CXT} {k : Nat} {f C : Addr} {fd : FuncData} {ps : List Str} {sp : Sp} {dvs : List V} {ds : List Value} {E : XK} {x m : Str} {p pos apos : Pos} {e o : Expr} {es : List Expr} {ta : TE} {t : TA}

/-- the callee runs -/
theorem run_fn {pins : List (Addr × Obj)} {σ : St} {H : Hp} {s : Shared} {Q : VK} {us : List Value} {vs : List V} (F : FnOk X.prog X.w X.K X.mg X.base CX k f fd ps sp) (hr : Room k X.A) (hb : Binds X.K fd ps ds) (hd : Vals dvs ds) (hx : Passes CX X E)
    (I : Inv X pins σ H s) (r : Vals vs us) (h : sp (vs ++ dvs) H Q E) : wpAny (model X.prog X.w) X.A (call (.ref f) us) (EP X pins σ Q) X.xe s := by
  have r2 : Vals (vs ++ dvs) (us ++ ds) := r.append hd
  have hl : (us ++ ds).length = ps.length := by rw [← r2.length]; exact F.len _ _ _ _ h
  refine wpAny_call (codeAny_mono (F.run X.A X.stack s H ⟨us, []⟩ (us ++ ds) (vs ++ dvs) Q E hr I.env0 (hb s us I.kIn hl) r2 h) fun r s' hq => ?_)
  cases r with
  | error e => exact hx pins σ H s e s' I hq
  | ok fl =>
    cases fl with
    | ret u => exact I.after hq
    | next => exact False.elim hq
    | brk => exact False.elim hq
    | cont => exact False.elim hq

theorem pe_call (F : FnOk X.prog X.w X.K X.mg X.base CX k f fd ps sp) (hr : Room k X.A) (hg : Gl X x) (hm : X.mg x = some (.ref f)) (hk : PySem.W.keepIn X.K (.ref f) = true) (hb : Binds X.K fd ps ds) (hd : Vals dvs ds) (hx : Passes CX X E)
    (ha : PA X (e :: es) t) (hdb : (x == ("__debug__" : Str)) = false := by decide) (he : starEach (e :: es) X.env = (false, eval e X.env) :: starEach es X.env := by rfl) (hpl : (backTo pos (starEach es X.env)).any (·.1) = false := by rfl) :
    PE X (.Call (.Name x p) (e :: es) [] pos) (tCall sp dvs E t) := by
  intro pins s σ H Q I h
  refine wpAny_Call_Name_kw (ld_glob I hg hm ?_ hdb)
  refine PySem.W.callWith_K (h₀ := X.base) I.ok.mod.kin hk (thn (ha pos pins s σ H _ I h) fun us s1 ⟨vs, H1, I1, r, q⟩ => ⟨I1.kIn, ?_⟩) he hpl
  exact run_fn F hr hb hd hx I1 r q



end

/-! ### keywords -/
section
variable {X : Cx} {CX : CXT} {k : Nat} {f C : Addr} {fd : FuncData} {ps ks : List Str} {sp : Sp} {E : XK} {x m : Str} {p pos apos kpos : Pos} {e o : Expr} {es : List Expr} {kws : List Keyword} {te ta : TE} {t tk : TA} {nm : Option Str}

variable {g : List Value → List Value → List Value} {gV : List V → List V → List V}
end

/-! ### a def's body keeps its promise -/
/-- names: the parameters first -/
structure FnScope (N P : List Str) (sc : Scope) : Prop where
  kind : sc.kind = .function
  co : sc.isCoroutine = false
  gen : sc.isGenerator = false
  nd : N.Nodup
  pre : N.take P.length = P
  par : ∀ x ∈ P, sc.names.lookup x = some .local ∨ sc.names.lookup x = some .cell
  nofree : ∀ y ∈ sc.names, y.2 ≠ .free

theorem bindL_out {kindOf : Str → Option NameKind} {x : Str} : ∀ {binds : List (Str × Value)} {m : Str → Option Value}, (∀ v, (x, v) ∉ binds) → bindL kindOf binds m x = m x
  | [], _, _ => rfl
  | (n, v) :: r, m, h => by
    unfold bindL
    rw [bindL_out fun w hw => h w (List.mem_cons_of_mem _ hw)]
    split
    · have : x ≠ n := by rintro rfl; exact h v List.mem_cons_self
      simp [this]
    · rfl
theorem bindC_out {kindOf : Str → Option NameKind} {x : Str} : ∀ {binds : List (Str × Value)} {m : Str → Option Value}, (∀ v, (x, v) ∉ binds) → bindC kindOf binds m x = m x
  | [], _, _ => rfl
  | (n, v) :: r, m, h => by
    unfold bindC
    rw [bindC_out fun w hw => h w (List.mem_cons_of_mem _ hw)]
    split
    · rfl
    · have : x ≠ n := by rintro rfl; exact h v List.mem_cons_self
      simp [this]
theorem bindL_get {kindOf : Str → Option NameKind} {x : Str} {v : Value} : ∀ {P : List Str} {vs : List Value} {i : Nat} {m : Str → Option Value}, P.Nodup → P[i]? = some x → vs[i]? = some v → kindOf x = some .local →
    bindL kindOf (P.zip vs) m x = some v
  | [], _, _, _, _, h, _, _ => by simp at h
  | _ :: _, [], _, _, _, _, h, _ => by simp at h
  | p :: P, w :: vs, 0, m, nd, h1, h2, hk => by
    simp at h1 h2; subst h1; subst h2
    show bindL kindOf ((p, w) :: P.zip vs) m p = _
    unfold bindL
    rw [bindL_out fun v hv => (List.nodup_cons.mp nd).1 (List.of_mem_zip hv).1, if_pos hk]
    simp
  | p :: P, w :: vs, i + 1, m, nd, h1, h2, hk => by
    show bindL kindOf ((p, w) :: P.zip vs) m x = _
    unfold bindL
    exact bindL_get (i := i) (List.nodup_cons.mp nd).2 (by simpa using h1) (by simpa using h2) hk
theorem bindC_get {kindOf : Str → Option NameKind} {x : Str} {v : Value} : ∀ {P : List Str} {vs : List Value} {i : Nat} {m : Str → Option Value}, P.Nodup → P[i]? = some x → vs[i]? = some v → kindOf x ≠ some .local →
    bindC kindOf (P.zip vs) m x = some v
  | [], _, _, _, _, h, _, _ => by simp at h
  | _ :: _, [], _, _, _, _, h, _ => by simp at h
  | p :: P, w :: vs, 0, m, nd, h1, h2, hk => by
    simp at h1 h2; subst h1; subst h2
    show bindC kindOf ((p, w) :: P.zip vs) m p = _
    unfold bindC
    rw [bindC_out fun v hv => (List.nodup_cons.mp nd).1 (List.of_mem_zip hv).1, if_neg hk]
    simp
  | p :: P, w :: vs, i + 1, m, nd, h1, h2, hk => by
    show bindC kindOf ((p, w) :: P.zip vs) m x = _
    unfold bindC
    exact bindC_get (i := i) (List.nodup_cons.mp nd).2 (by simpa using h1) (by simpa using h2) hk

/-- the names' values at the entry -/
def start (N : List Str) (vs : List V) : St := vs.map some ++ List.replicate (N.length - vs.length) none

/-- the context of a def's body, at its entry; an exception leaves the frame, then lies as CX says -/
def cxOf (CX : CXT) (P : Program) (w : World) (K : PySem.W.Frag) (mg : Str → Option Value) (base : Heap) (N : List Str) (qual : Str) (scope : Scope) (f : Addr) (cd : Value) (A : Around) (outer : List Env) (s : Shared) (H : Hp) (E : XK) : Cx where
  prog := P
  w := w
  K := K
  mg := mg
  base := base
  A := A.deeper (envOfC qual scope s.heap.objs.size f cd)
  N := N
  s₀ := s
  H₀ := H
  env := envOfC qual scope s.heap.objs.size f cd
  outer := outer
  stack := envOfC qual scope s.heap.objs.size f cd :: outer
  ex := []
  calm := true
  fn := fun _ => true
  pn := []
  xe := fun e s' => wpAny (model P w) (A.deeper (envOfC qual scope s.heap.objs.size f cd)) (leaving (envOfC qual scope s.heap.objs.size f cd) e) (fun _ s'' => CX outer H s E e s'') (fun e' s'' => CX outer H s E e' s'') s'

theorem cell_has {sc : Scope} {n : Nat} {x : Str} (h : sc.names.lookup x = some .cell) : ∃ c, (cellsFrom n sc.names []).lookup x = some c := by
  have q := PySem.W.cellsFrom_some sc.names n [] (.inl h)
  exact Option.isSome_iff_exists.mp q

theorem inv_start {CX : CXT} {P : Program} {w : World} {K : PySem.W.Frag} {mg : Str → Option Value} {base : Heap} {N ps : List Str} {qual : Str} {scope : Scope} {f : Addr} {cd : Value} {A : Around} {outer : List Env} {s s1 : Shared} {H : Hp} {E : XK} {us : List Value} {vs : List V}
    (S : FnScope N ps scope) (hd : A.handled = none) (e0 : Env0 P w K mg base A outer s H) (hl : vs.length = ps.length) (r : Vals vs us)
    (x : InCallC s s.heap.objs.size (bindL (envOfC qual scope s.heap.objs.size f cd).kindOf (ps.zip us) fun _ => none) (cellsFrom (s.heap.objs.size + 1) scope.names []) (bindC (envOfC qual scope s.heap.objs.size f cd).kindOf (ps.zip us) fun _ => none) s1) :
    Inv (cxOf CX P w K mg base N qual scope f cd A outer s H E) [] (start N vs) H s1 := by
  have hpl : ps.length ≤ N.length := by have := congrArg List.length S.pre; rw [List.length_take] at this; omega
  obtain ⟨h1, tk, rfl, hk⟩ := x.done
  have noA : ∀ b : Addr, b ∉ (cxOf CX P w K mg base N qual scope f cd A outer s H E).ex := fun b z => absurd (show b ∈ ([] : List Addr) from z) (by simp)
  refine ⟨⟨e0.mod, S.kind, rfl, rfl, Nat.le_refl _, fun y z c h1 h2 => ?_, fun y hy => ?_, fun y c _ h => ?_, fun _ => hd, Around.frames_deeper e0.frames, .inr ⟨rfl, rfl⟩, fun b z => absurd z (noA b), e0.bs, e0.bsz, fun b _ _ => noA b, fun b z => absurd z (noA b), e0.funs, e0.frf⟩,
    rfl, e0.bare, Un.kept hk, ⟨_, x.toInCall.ns, fun i y v h1 h2 h3 => ?_⟩, fun y c h => ⟨_, x.cell y c h⟩, e0.hok.fresh (Nat.le_refl _), fun y c h => ?_, fun p hp => absurd (show p ∈ ([] : List (Addr × Obj)) from hp) (by simp), e0.hok.kept hk, ?_⟩
  · exact name_of_addr x.apart (PySem.mem_of_lookup h1) (PySem.mem_of_lookup h2)
  · have hy : scope.names.lookup y = some .cell ∨ scope.names.lookup y = some .free := hy
    rcases hy with hy | hy
    · exact cell_has hy
    · exact absurd rfl (S.nofree _ (PySem.mem_of_lookup hy))
  · exact Nat.le_of_lt (x.above y c (PySem.mem_of_lookup h))
  · have hi : i < vs.length := by
      unfold start at h2
      by_cases hi : i < vs.length
      · exact hi
      · rw [List.getElem?_append_right (by simpa using hi)] at h2
        rw [List.getElem?_replicate] at h2
        split at h2 <;> cases h2
    have ha : vs[i]? = some v := by
      unfold start at h2
      rw [List.getElem?_append_left (by simpa using hi), List.getElem?_map] at h2
      cases e : vs[i]? with
      | none => rw [e] at h2; cases h2
      | some a => rw [e] at h2; cases h2; rfl
    obtain ⟨u, hu, rv⟩ := r.get ha
    have hp : ps[i]? = some y := by
      rw [← S.pre, List.getElem?_take_of_lt (by omega)]; exact h1
    have ndP : ps.Nodup := by rw [← S.pre]; exact S.nd.sublist (List.take_sublist _ _)
    refine ⟨u, rv, ?_⟩
    rcases S.par y (List.mem_of_getElem? hp) with k | k
    · exact .inl ⟨k, bindL_get ndP hp hu k⟩
    · obtain ⟨c, e⟩ := cell_has (n := s.heap.objs.size + 1) k
      refine .inr ⟨.inl k, c, e, ?_⟩
      have q := x.cell y c e
      rw [bindC_get ndP hp hu (by show scope.names.lookup y ≠ _; rw [k]; decide)] at q
      exact q
  · exact e0.hok.fresh (Nat.le_of_lt (x.above y c (PySem.mem_of_lookup h)))
  · unfold start
    show _ = N.length
    rw [List.length_append, List.length_map, List.length_replicate]
    omega

/-- THE RULE: a def (or a method) of the text, by its body. The body's reading t is chosen for each entry; it is run at the parameters' values -/
theorem fn_of {CX : CXT} {P : Program} {w : World} {K : PySem.W.Frag} {mg : Str → Option Value} {base : Heap} {k : Nat} {f : Addr} {name qual : Str} {params : Arguments} {body : List Stmt} {scope : Scope} {dV kV doc pm cdv ct oc : Value} {an od : Option Addr}
    {osl : Array (Option Value)} {N ps : List Str} {sp : Sp} (lk : K.lookup f = some ⟨oc, od, .func (PySem.W.fnOf name qual params body scope dV kV doc pm an cdv ct), osl⟩) (hcd : PySem.W.codeIn K cdv qual = true) (S : FnScope N ps scope)
    (len : ∀ vs H Q E, sp vs H Q E → vs.length = ps.length)
    (hbody : ∀ (A : Around) (outer : List Env) (s : Shared) (H : Hp) (vs : List V) (Q : VK) (E : XK), Room k (A.deeper (envOfC qual scope s.heap.objs.size f cdv)) → sp vs H Q E →
      ∃ t, PSs (cxOf CX P w K mg base N qual scope f cdv A outer s H E) body t ∧ t { nx := fun _ H' => Q .non H', rt := Q } (start N vs) H) :
    FnOk P w K mg base CX (k + 1) f (PySem.W.fnOf name qual params body scope dV kV doc pm an cdv ct) ps sp := by
  refine ⟨len, fun A outer s H args us vs Q E hr e0 hb r hsp => ?_⟩
  have hl := len _ _ _ _ hsp
  have KX : K.In s.heap := e0.mod.kin.keeps fun b o e => (e0.bs b o e).1
  have lim : s.heap.NoLimit := e0.mod.nolimit.keeps fun b o e => (e0.bs b o e).1
  have hkind : ∀ y ∈ ps.zip us, scope.names.lookup y.1 = some .local ∨ (scope.names.lookup y.1 = some .cell ∧ ((cellsFrom (s.heap.objs.size + 1) scope.names []).lookup y.1).isSome = true) := fun ⟨n, v⟩ hy => by
    rcases S.par n (List.of_mem_zip hy).1 with q | q
    · exact .inl q
    · exact .inr ⟨q, PySem.W.cellsFrom_some _ _ _ (.inl q)⟩
  refine codeAny_call_function hr.depth (KX _ _ lk) rfl S.co S.gen rfl (PySem.W.codeRec_of KX hcd) (hb _ _ _ _ ?_)
  refine wpAny_newFunctionEnv_cells S.kind hkind fun env he s1 x => ?_
  subst he
  refine ⟨lim.keeps x.toInCall.keep, codeAny_func ?_⟩
  obtain ⟨t, ht, hq⟩ := hbody A outer s H vs Q E (hr.deeper _) hsp
  have I : Inv (cxOf CX P w K mg base N qual scope f cdv A outer s H E) [] (start N vs) H s1 := inv_start S hr.hd e0 hl r x
  refine wpAny_mono (ht [] s1 (start N vs) H _ I hq) (fun fl s' hs => ?_) fun e s' hs => hs
  have fin : ∀ {σ' : St} {H' : Hp} {v : V} {u : Value}, Inv (cxOf CX P w K mg base N qual scope f cdv A outer s H E) [] σ' H' s' → RelV v u → Q v H' → CE outer P w H s Q u s' :=
    fun {σ' H' v u} J rv q => ⟨v, H', J.os, J.bare, J.base, J.hok, rv, q⟩
  cases fl with
  | ret u =>
    obtain ⟨v, σ', H', J, rv, q⟩ := hs
    exact fin J rv q
  | next =>
    obtain ⟨σ', H', J, q⟩ := hs
    exact fin (v := V.non) (u := Value.none) J rfl q
  | brk =>
    obtain ⟨_, _, _, q⟩ := hs
    exact False.elim q
  | cont =>
    obtain ⟨_, _, _, q⟩ := hs
    exact False.elim q
end L2

namespace L2
open PySem PySem.Spec PyProof.Rows
section
variable {X : Cx} {x : Str} {p pos : Pos} {e : Expr} {es : List Expr} {t : TA} {id T : String} {r : List V → Hp → VK → Prop}

def tCB (r : List V → Hp → VK → Prop) (t : TA) : TE := fun σ H Q => t σ H fun vs H1 => r vs H1 Q
/-- f(e, ..), f a built-in function -/
theorem pe_callB (hc : CallR X (.builtin id) r) (hg : Gl X x) (hm : X.mg x = none) (hv : bootBuiltins x = some (.builtin id)) (ha : PA X (e :: es) t) (hn : x ≠ "__name__" := by decide) (hdb : (x == ("__debug__" : Str)) = false := by decide)
    (he : starEach (e :: es) X.env = (false, eval e X.env) :: starEach es X.env := by rfl) (hpl : (backTo pos (starEach es X.env)).any (·.1) = false := by rfl) : PE X (.Call (.Name x p) (e :: es) [] pos) (tCB r t) := by
  intro pins s σ H Q I h
  refine wpAny_Call_Name_kw (ld_blt I hg hm hv ?_ hn hdb)
  exact PyProof.Rows.callWith_builtin1 (thn (ha pos pins s σ H _ I h) fun us s1 ⟨vs, H1, I1, r1, q1⟩ => hc pins s1 σ H1 vs us Q I1 r1 q1) he hpl
/-- T(e, ..), T a built-in type -/
theorem pe_callTy (hc : CallR X (.type T) r) (hg : Gl X x) (hm : X.mg x = none) (hv : bootBuiltins x = some (.type T)) (ha : PA X (e :: es) t) (hn : x ≠ "__name__" := by decide) (hdb : (x == ("__debug__" : Str)) = false := by decide)
    (he : starEach (e :: es) X.env = (false, eval e X.env) :: starEach es X.env := by rfl) (hpl : (backTo pos (starEach es X.env)).any (·.1) = false := by rfl) : PE X (.Call (.Name x p) (e :: es) [] pos) (tCB r t) := by
  intro pins s σ H Q I h
  refine wpAny_Call_Name_kw (ld_blt I hg hm hv ?_ hn hdb)
  exact PyProof.Rows.callWith_type1 (thn (ha pos pins s σ H _ I h) fun us s1 ⟨vs, H1, I1, r1, q1⟩ => hc pins s1 σ H1 vs us Q I1 r1 q1) he hpl
end
end L2

namespace HT
open PySem PyProof.Rows



section
open PySem.SeqAt
open PySem.AutoSeq1 (wpAny_loadPart')
open PySem.MeetsSeq PySem.MeetsSeq2 PySem.MeetsSeq3

end

section
variable {prog : Program} {w : World} {A : Around} {E : Value → Shared → Prop} {s : Shared}



/-! ### t[a:b], not the whole -/
/-- a slice's bound as a place among n (d where it is left out) -/
def sIx (n d : Nat) : Option Int → Nat
  | none => d
  | some v => if v < 0 then (v + (n : Int)).toNat else min v.toNat n
theorem sIx_nat (n d k : Nat) : sIx n d (some (k : Int)) = min k n := by
  show (if (k : Int) < 0 then ((k : Int) + (n : Int)).toNat else min (k : Int).toNat n) = min k n
  rw [if_neg (by omega), Int.toNat_natCast]
theorem sIx_le (n d : Nat) (hd : d ≤ n) (o : Option Int) : sIx n d o ≤ n := by
  cases o with
  | none => exact hd
  | some v =>
    show (if v < 0 then (v + (n : Int)).toNat else min v.toNat n) ≤ n
    by_cases hv : v < 0
    · rw [if_pos hv]; omega
    · rw [if_neg hv]; exact Nat.min_le_right _ _

end
end HT

namespace L2
open PySem PySem.Spec PyProof.Rows

/-! ### the parts of a slice -/
abbrev TO := St → Hp → (Option Int → Hp → Prop) → Prop
/-- a slice's part (left out, or an int) -/
def PO (X : Cx) (e : Option Expr) (t : TO) : Prop :=
  ∀ (pins : List (Addr × Obj)) (s : Shared) (σ : St) (H : Hp) (Q : Option Int → Hp → Prop), Inv X pins σ H s → t σ H Q →
    wpAny (model X.prog X.w) X.A (evalPart e X.env) (fun u s' => ∃ o H', Inv X pins σ H' s' ∧ IsPart u o ∧ Q o H') X.xe s
def tNoPart : TO := fun _ H Q => Q none H
def tPart (t : TE) : TO := fun σ H Q => t σ H fun x H1 => ∃ i, x = .int i ∧ Q (some i) H1


section
variable {X : Cx} {e : Expr} {te : TE} {lo hi : Option Expr} {tl th : TO} {pos p2 : Pos}

theorem po_none : PO X none tNoPart := by
  intro pins s σ H Q I h
  rw [evalPart_none]
  exact wpAny_pure ⟨none, H, I, .none, h⟩
theorem po_some (h : PE X e te) : PO X (some e) (tPart te) := by
  intro pins s σ H Q I hw
  rw [evalPart_some]
  refine thn (h pins s σ H _ I hw) fun u s1 ⟨x, H1, I1, r1, q1⟩ => ?_
  obtain ⟨i, rfl, q⟩ := q1
  obtain ⟨t, rfl⟩ := r1
  exact ⟨some i, H1, I1, .int i t, q⟩

/-- what a slice of a value is, by values: the slice object stands at sl -/
def SlR (X : Cx) (r : V → Option Int → Option Int → Hp → VK → Prop) : Prop :=
  ∀ (pins : List (Addr × Obj)) (s : Shared) (σ : St) (H : Hp) (x : V) (v vl vu : Value) (lo hi : Option Int) (sl : Addr) (Q : VK), Inv X pins σ H s → RelV x v → s.heap.IsSliceOf sl vl vu .none → IsPart vl lo → IsPart vu hi → r x lo hi H Q →
    ∃ T id, typeLookup (.type T) "__getitem__" = pure (some (.builtin id)) ∧ s.TypeIs v T ∧ wpAny (model X.prog X.w) X.A (getItem v (.ref sl)) (EP X pins σ Q) X.xe s
def tSl (r : V → Option Int → Option Int → Hp → VK → Prop) (te : TE) (tl th : TO) : TE := fun σ H Q => te σ H fun x H1 => tl σ H1 fun l H2 => th σ H2 fun u H3 => r x l u H3 Q
/-- a[lo:hi], any a -/
theorem pe_slice {r : V → Option Int → Option Int → Hp → VK → Prop} (hr : SlR X r) (he : PE X e te) (hl : PO X lo tl) (hu : PO X hi th) : PE X (.Subscript e (.Slice lo hi none p2) pos) (tSl r te tl th) := by
  intro pins s σ H Q I h
  refine Subscript_ (thn (he pins s σ H _ I h) fun v s1 ⟨x, H1, I1, r1, q1⟩ => ?_)
  refine wpAny_Slice (thn (hl pins s1 σ H1 _ I1 q1) fun vl s2 ⟨l, H2, I2, pl, q2⟩ => thn (hu pins s2 σ H2 _ I2 q2) fun vu s3 ⟨u, H3, I3, pu, q3⟩ => ?_)
  rw [evalPart_none]
  refine wpAny_pure ?_
  have I4 : Inv X pins σ H3 { s3 with heap := s3.heap.push { cls := .type "slice", data := .fields #[vl, vu, .none] } } := I3.kept (t' := s3.toks) fun b ob q => Heap.get?_push_of_some _ q
  obtain ⟨T, id, hT, ht, hg⟩ := hr pins { s3 with heap := s3.heap.push { cls := .type "slice", data := .fields #[vl, vu, .none] } } σ H3 x v vl vu l u s3.heap.objs.size Q I4 r1 (Heap.IsSliceOf.new ..) pl pu q3
  show wpAny (model X.prog X.w) X.A (subscriptTail e (.Slice lo hi none p2) v (.ref s3.heap.objs.size)) (EP X pins σ Q) X.xe { s3 with heap := s3.heap.push { cls := .type "slice", data := .fields #[vl, vu, .none] } }
  exact tail_any (ops := [.ref s3.heap.objs.size, v]) ht hT hg (by with_unfolding_all rfl)

/-- the items of xs[lo:hi] -/
def cutV (xs : List V) (lo hi : Option Int) : List V := (xs.drop (HT.sIx xs.length 0 lo)).take (HT.sIx xs.length xs.length hi - HT.sIx xs.length 0 lo)
theorem cutV_length (xs : List V) (lo hi : Option Int) : (cutV xs lo hi).length ≤ xs.length := by
  unfold cutV
  rw [List.length_take, List.length_drop]
  omega

/-! ### t < u, t + u -/
end
end L2

namespace L2
open PySem PySem.Spec PyProof.Rows

/-! ### places -/
/-- the place that an index of any sign means -/
def ixN (n : Nat) (i : Int) : Option Nat := if 0 ≤ i then (if i < n then some i.toNat else none) else if -(n : Int) ≤ i then some (i + n).toNat else none
def atI {α : Type} (xs : List α) (i : Int) : Option α := (ixN xs.length i).bind fun j => xs[j]?
theorem ixN_seq {n : Nat} {i : Int} {j : Nat} (h : ixN n i = some j) : seqIndex? i n = some j ∧ j < n ∧ -(n : Int) ≤ i ∧ i < n := by
  unfold ixN at h
  by_cases h0 : 0 ≤ i
  · rw [if_pos h0] at h
    by_cases h1 : i < n
    · rw [if_pos h1] at h
      have e : i.toNat = j := Option.some.inj h
      exact ⟨by rw [seqIndex_of h0 h1, e], by omega, by omega, h1⟩
    · rw [if_neg h1] at h; cases h
  · rw [if_neg h0] at h
    by_cases h1 : -(n : Int) ≤ i
    · rw [if_pos h1] at h
      have e : (i + n).toNat = j := Option.some.inj h
      exact ⟨by rw [seqIndex_neg (by omega) h1, e], by omega, h1, by omega⟩
    · rw [if_neg h1] at h; cases h
theorem atI_get {α : Type} {xs : List α} {i : Int} {v : α} (h : atI xs i = some v) : ∃ j, seqIndex? i xs.length = some j ∧ xs[j]? = some v ∧ j < xs.length ∧ -(xs.length : Int) ≤ i ∧ i < xs.length := by
  unfold atI at h
  cases e : ixN xs.length i with
  | none => rw [e] at h; cases h
  | some j =>
    rw [e] at h
    obtain ⟨h1, h2, h3, h4⟩ := ixN_seq e
    exact ⟨j, h1, h, h2, h3, h4⟩
theorem atI_nat {α : Type} {xs : List α} {j : Nat} {v : α} (h : xs[j]? = some v) : atI xs (j : Int) = some v := by
  have hj : j < xs.length := (List.getElem?_eq_some_iff.mp h).1
  have e : ixN xs.length (j : Int) = some j := by
    unfold ixN
    rw [if_pos (by omega), if_pos (by omega)]; simp
  unfold atI; rw [e]; exact h

/-! ### what may be subscripted -/
/-- what stands as an index of a plain subscript -/
def PlainIx (b : Expr) : Prop := ∀ o i, subscripted b false o i = operate [o, i] (getItem o i)
/-- a subscript by values -/
def IxR (X : Cx) (r : R2) : Prop :=
  ∀ (value slice : Expr) (pins : List (Addr × Obj)) (s : Shared) (σ : St) (H : Hp) (x y : V) (v u : Value) (Q : VK), Inv X pins σ H s → RelV x v → RelV y u → r x y H Q →
    subscripted slice false v u = operate [v, u] (getItem v u) → wpAny (model X.prog X.w) X.A (subscriptTail value slice v u) (EP X pins σ Q) X.xe s
/-- a call of a builtin's method by values: the receiver, the arguments -/
def MtR (X : Cx) (id : String) (r : V → List V → Hp → VK → Prop) : Prop :=
  ∀ (pins : List (Addr × Obj)) (s : Shared) (σ : St) (H : Hp) (x : V) (xs : List V) (v : Value) (us : List Value) (Q : VK), Inv X pins σ H s → RelV x v → Vals xs us → r x xs H Q →
    wpAny (model X.prog X.w) X.A (call (.builtin id) (v :: us)) (EP X pins σ Q) X.xe s
section
variable {X : Cx} {a b : Expr} {ta tb : TE} {pos : Pos}
/-- a[b] -/
theorem pe_ix {r : R2} (hr : IxR X r) (ha : PE X a ta) (hb : PE X b tb) (hs : PlainIx b) : PE X (.Subscript a b pos) (tOp r ta tb) := by
  intro pins s σ H Q I h
  exact Subscript_ (binT ha hb I h fun v u s2 x y H2 I2 rx ry q => hr a b pins s2 σ H2 x y v u Q I2 rx ry q (hs _ _))

def rIxL (K : PySem.W.Frag) : R2 := fun x y H Q => ∃ p xs i v, x = .ref p ∧ y = .int i ∧ SqL K H p xs ∧ atI xs i = some v ∧ Q v H
def rIxT (K : PySem.W.Frag) : R2 := fun x y H Q => ∃ p xs i v, x = .ref p ∧ y = .int i ∧ SqT K H p xs ∧ atI xs i = some v ∧ Q v H
def rIxS : R2 := fun x y H Q => ∃ z i c, x = .str z ∧ y = .int i ∧ z.length ≤ sizeLine ∧ atI z.cps.toList i = some c ∧ Q (.str ⟨#[c]⟩) H
theorem ix_list : IxR X (rIxL X.K) := by
  intro value slice pins s σ H x y v u Q I rx ry h hs
  obtain ⟨p, xs, i, z, rfl, rfl, hq, he, q⟩ := h
  cases rx
  obtain ⟨t, rfl⟩ := ry
  obtain ⟨its, r, pl, hz⟩ := I.list hq
  obtain ⟨j, h1, h2, h3, h4, h5⟩ := atI_get he
  obtain ⟨w, ew, rw'⟩ := r.get h2
  have hl := r.length
  have hn := line63
  have fin : EP X pins σ Q w s := ⟨z, H, I, rw', q⟩
  by_cases h0 : 0 ≤ i
  · have hj : i.toNat = j := by
      rw [seqIndex_of h0 h5] at h1
      exact Option.some.inj h1
    exact item_listR pl.isList h0 (by omega) (by rw [hj]; simpa using ew) fin hs
  · have hj : (i + (its.toArray.size : Int)).toNat = j := by
      rw [seqIndex_neg (by omega) h4] at h1
      rw [List.size_toArray, ← hl]
      exact Option.some.inj h1
    exact subscriptTail_builtinR (x := w) pl.isList.typeIs slot_list_getitem.lookup
      (wpAny_getItem_list_neg (Q := fun r s' => r = w ∧ EP X pins σ Q r s') pl.isList (by omega) (by rw [List.size_toArray] <;> omega) (by omega) (by rw [hj]; simpa using ew) ⟨rfl, fin⟩) hs
theorem ix_tup : IxR X (rIxT X.K) := by
  intro value slice pins s σ H x y v u Q I rx ry h hs
  obtain ⟨p, xs, i, z, rfl, rfl, hq, he, q⟩ := h
  cases rx
  obtain ⟨t, rfl⟩ := ry
  obtain ⟨its, r, pl, hz⟩ := I.tuple hq
  obtain ⟨j, h1, h2, h3, h4, h5⟩ := atI_get he
  obtain ⟨w, ew, rw'⟩ := r.get h2
  have hl := r.length
  have hn := line63
  have fin : EP X pins σ Q w s := ⟨z, H, I, rw', q⟩
  exact subscriptTail_builtinR (x := w) pl.typeIs slot_tuple_getitem.lookup
    (getItem_tuple (j := j) (Q := fun r s' => r = w ∧ EP X pins σ Q r s') pl (by omega) (by omega) (by rw [List.size_toArray, ← hl]; exact h1) (by simpa using ew) ⟨rfl, fin⟩) hs
theorem ix_str : IxR X rIxS := by
  intro value slice pins s σ H x y v u Q I rx ry h hs
  obtain ⟨z, i, c, rfl, rfl, hz, he, q⟩ := h
  obtain ⟨t, rfl⟩ := rx
  obtain ⟨t', rfl⟩ := ry
  obtain ⟨j, h1, h2, h3, h4, h5⟩ := atI_get he
  have hl : z.cps.toList.length = z.length := by simp [Str.length]
  rw [hl] at h1 h4 h5
  have hn := line63
  exact tail_any (typeIs_str s z t) slot_str_getitem.lookup (getItem_str (c := c) (by
    have e1 : decide (i < -(2 ^ 63 : Int)) = false := decide_eq_false (by omega)
    have e2 : decide (i ≥ 2 ^ 63) = false := decide_eq_false (by omega)
    rw [e1, e2, Bool.or_false]) (by rw [h1]; simpa using h2) ⟨.str ⟨#[c]⟩, H, I.tok _, ⟨_, rfl⟩, q⟩) hs

/-! ### xs[i] = v, any sign -/
/-- the list's object behind a store -/
theorem mapSeq_set (its : List Value) (n j : Nat) (u : Value) : Obj.mapSeq (·.setIfInBounds j u) { cls := .type "list", data := .seq its.toArray n } = { cls := .type "list", data := .seq (its.set j u).toArray n } := by
  simp [Obj.mapSeq]
theorem Inv.lst {pins : List (Addr × Obj)} {σ : St} {H : Hp} {s : Shared} {p : Addr} {xs : List V} (I : Inv X pins σ H s) (h : H p = some (.lst xs)) :
    ∃ (its : List Value) (n : Nat), Vals xs its ∧ s.heap.get? p = some { cls := .type "list", data := .seq its.toArray n } ∧ xs.length ≤ sizeLine := by
  obtain ⟨z, its, n, r, e⟩ := I.hok p _ h
  exact ⟨its, n, r, e, z⟩
/-- the list at p is written by an update of its object -/
theorem Inv.lstUpd {pins : List (Addr × Obj)} {σ : St} {H : Hp} {s : Shared} {p : Addr} {xs ys : List V} {its its' : List Value} {n n' : Nat} {f : Obj → Obj} (I : Inv X pins σ H s) (h : H p = some (.lst xs))
    (ho : s.heap.get? p = some { cls := .type "list", data := .seq its.toArray n }) (hf : f { cls := .type "list", data := .seq its.toArray n } = { cls := .type "list", data := .seq its'.toArray n' }) (r : Vals ys its') (hz : ys.length ≤ sizeLine) (t : Nat) :
    Inv X pins σ (upd H p (.lst ys)) { s with heap := s.heap.update p f, toks := t } := by
  have e : (s.heap.update p f).get? p = some { cls := .type "list", data := .seq its'.toArray n' } := by
    rw [Heap.get?_update_self f ho (by rw [hf] <;> rfl), hf]
  refine I.write (x := p) (e := p) (by rw [h]; trivial) (.inl rfl) (fun b u hb q => (Heap.get?_update_other _ _ (Ne.symm hb)).trans q) ⟨_, e⟩ ?_
  exact ⟨hz, its', n', r, e⟩
def rSetL : V → V → V → Hp → (Hp → Prop) → Prop := fun o i v H Q => ∃ p xs k j, o = .ref p ∧ i = .int k ∧ H p = some (.lst xs) ∧ ixN xs.length k = some j ∧ Q (upd H p (.lst (xs.set j v)))
theorem set_list : PSet X rSetL := by
  intro pins s σ H o i v ov iv u Q I ro ri rv h
  obtain ⟨p, xs, k, j, rfl, rfl, hp, hj, q⟩ := h
  cases ro
  obtain ⟨t, rfl⟩ := ri
  obtain ⟨its, n, r, ho, hz⟩ := I.lst hp
  obtain ⟨h1, h2, h3, h4⟩ := ixN_seq hj
  have hl := r.length
  have hn := line63
  have I' : Inv X pins σ (upd H p (.lst (xs.set j v))) { s with heap := s.heap.update p (Obj.mapSeq (·.setIfInBounds j u)) } :=
    I.lstUpd hp ho (mapSeq_set its n j u) (r.set rv j) (by rw [List.length_set]; exact hz) s.toks
  by_cases h0 : 0 ≤ k
  · have hk : k.toNat = j := by
      rw [seqIndex_of h0 h4] at h1
      exact Option.some.inj h1
    exact PySem.W.ki_setAt ho h0 (by omega) (by rw [List.size_toArray, ← hl]; exact h4) (by rw [hk]; exact ⟨_, I', q⟩)
  · have hk : (k + (its.toArray.size : Int)).toNat = j := by
      rw [seqIndex_neg (by omega) h3] at h1
      rw [List.size_toArray, ← hl]
      exact Option.some.inj h1
    exact PySem.W.ki_setBack ho (by omega) (by rw [List.size_toArray, ← hl]; exact h3) (by omega) (by rw [hk]; exact ⟨_, I', q⟩)

/-! ### slices -/
theorem slice_bounds (lo hi : Option Int) (n : Nat) : (sliceBounds lo hi none n).1 = ((HT.sIx n 0 lo : Nat) : Int) ∧ (sliceBounds lo hi none n).2.1 = ((HT.sIx n n hi : Nat) : Int) ∧ (sliceBounds lo hi none n).2.2 = 1 := by
  refine ⟨?_, ?_, rfl⟩
  · cases lo with
    | none => simp [sliceBounds, HT.sIx]
    | some i =>
      simp only [sliceBounds, HT.sIx, Option.getD_none, show (1 : Int) > 0 by decide, if_true]
      by_cases h : i < 0
      · simp only [h, if_true] <;> omega
      · simp only [h, if_false] <;> omega
  · cases hi with
    | none => simp [sliceBounds, HT.sIx]
    | some i =>
      simp only [sliceBounds, HT.sIx, Option.getD_none, show (1 : Int) > 0 by decide, if_true]
      by_cases h : i < 0
      · simp only [h, if_true] <;> omega
      · simp only [h, if_false] <;> omega
theorem slicePick_cut (its : List Value) (lo hi : Option Int) : slicePick its.toArray lo hi none = ((its.drop (HT.sIx its.length 0 lo)).take (HT.sIx its.length its.length hi - HT.sIx its.length 0 lo)).toArray := by
  obtain ⟨h1, h2, h3⟩ := slice_bounds lo hi its.toArray.size
  unfold slicePick
  rw [h1, h2, h3]
  simp only [sliceRange_one, pick_run, List.size_toArray] <;> rfl
/-- xs[lo:hi] of a list: a new list -/
def rSlL (K : PySem.W.Frag) : V → Option Int → Option Int → Hp → VK → Prop := fun x lo hi H Q => ∃ a xs, x = .ref a ∧ SqL K H a xs ∧ ∀ p, H p = none → Q (.ref p) (upd H p (.lst (cutV xs lo hi)))
theorem sl_list : SlR X (rSlL X.K) := by
  intro pins s σ H x v vl vu lo hi sl Q I rx hs pl pu h
  obtain ⟨a, xs, rfl, hx, q⟩ := h
  cases rx
  obtain ⟨its, r, ht, hz⟩ := I.list hx
  have hlen := r.length
  refine ⟨"list", _, slot_list_getitem.lookup, ht.isList.typeIs, ?_⟩
  refine wpAny_getItem_list_slice ht.isList hs pl pu .none (by simp) ?_ (by rw [List.size_toArray] <;> omega)
  rw [slicePick_cut, ← hlen]
  refine ⟨.ref s.heap.objs.size, _, I.laid (t' := s.toks) (o := .lst (cutV xs lo hi)) (fun b ob q => Heap.get?_push_of_some _ q) (Nat.le_refl _) ?_, rfl, q _ (I.hok.fresh (Nat.le_refl _))⟩
  exact ⟨Nat.le_trans (cutV_length xs lo hi) hz, _, 0, (r.drop (HT.sIx xs.length 0 lo)).take (HT.sIx xs.length xs.length hi - HT.sIx xs.length 0 lo), Heap.get?_push_size _ rfl⟩

/-! ### in, not in: flat items -/

/-! ### len, list(x), tuple(x) of any list or tuple that is read -/
theorem call_len_seq : CallR X (.builtin "len") (fun xs H Q => ∃ p ys, xs = [.ref p] ∧ (SqL X.K H p ys ∨ SqT X.K H p ys) ∧ Q (.int ys.length) H) := by
  intro pins s σ H xs us Q I r h
  obtain ⟨p, ys, rfl, hq, q⟩ := h
  obtain ⟨u, rfl, rx⟩ := vals1 r
  cases rx
  have hn := line63
  rcases hq with hq | hq
  · obtain ⟨its, r', pl, hz⟩ := I.list hq
    have hlen := r'.length
    exact Calls.call_len_list pl.isList (by simp only [List.size_toArray] <;> omega) ⟨.int ys.length, H, I.tok _, ⟨s.toks + 1, by rw [List.size_toArray, hlen]⟩, q⟩
  · obtain ⟨its, r', pl, hz⟩ := I.tuple hq
    have hlen := r'.length
    exact len_tuple pl (by simp only [List.size_toArray] <;> omega) ⟨.int ys.length, H, I.tok _, ⟨s.toks + 1, by rw [List.size_toArray, hlen]⟩, q⟩
theorem call_len_str : CallR X (.builtin "len") (fun xs H Q => ∃ z, xs = [.str z] ∧ z.length ≤ sizeLine ∧ Q (.int z.length) H) := by
  intro pins s σ H xs us Q I r h
  obtain ⟨z, rfl, hz, q⟩ := h
  obtain ⟨u, rfl, t, rfl⟩ := vals1 r
  have hn := line63
  exact len_str (by omega) ⟨.int z.length, H, I.tok _, ⟨_, rfl⟩, q⟩
theorem call_list_of : CallR X (.type "list") (fun xs H Q => ∃ p ys, xs = [.ref p] ∧ (SqL X.K H p ys ∨ SqT X.K H p ys) ∧ ∀ l, H l = none → Q (.ref l) (upd H l (.lst ys))) := by
  intro pins s σ H xs us Q I r h
  obtain ⟨p, ys, rfl, hq, q⟩ := h
  obtain ⟨u, rfl, rx⟩ := vals1 r
  cases rx
  have fin : ∀ (its : List Value), Vals ys its → ys.length ≤ sizeLine → ∀ (h' : Heap) (c' : Nat), (∀ b o', s.heap.get? b = some o' → h'.get? b = some o') →
      h'.get? s.heap.objs.size = some { cls := .type "list", dict := none, data := .seq its.toArray c', slots := #[] } → EP X pins σ Q (.ref s.heap.objs.size) { s with heap := h' } := fun its r' hz h' c' kp e =>
    ⟨.ref s.heap.objs.size, _, I.laid (t' := s.toks) kp (Nat.le_refl _) (show ObjOk X.prog X.w _ h' _ (.lst ys) from ⟨hz, its, c', r', e⟩), rfl, q _ (I.hok.fresh (Nat.le_refl _))⟩
  rcases hq with hq | hq
  · obtain ⟨its, r', pl, hz⟩ := I.list hq
    have hlen := r'.length
    obtain ⟨o, ho, hc, n, hd⟩ := pl.isList
    exact call_list_seq p (.inl rfl) ho hc hd (fun h' c' kp e => fin its r' hz h' c' kp e) (by simp only [List.size_toArray] <;> omega)
  · obtain ⟨its, r', pl, hz⟩ := I.tuple hq
    have hlen := r'.length
    obtain ⟨o, ho, hc, n, hd⟩ := pl
    exact call_list_seq p (.inr rfl) ho hc hd (fun h' c' kp e => fin its r' hz h' c' kp e) (by simp only [List.size_toArray] <;> omega)

/-! ### the call of a builtin's method: o.m(..) -/
/-- the value is of that builtin type -/
def tyV (K : PySem.W.Frag) (T : String) (x : V) (H : Hp) : Prop := match x with
  | .str _ => T = "str"
  | .int _ => T = "int"
  | .ref p => (T = "list" ∧ ∃ xs, SqL K H p xs) ∨ (T = "tuple" ∧ ∃ o, K.lookup p = some o ∧ o.cls = .type "tuple" ∧ o.dict = none) ∨
      (T = "dict" ∧ ((∃ kvs, H p = some (.dK kvs)) ∨ ∃ kvs, H p = some (.dT kvs))) ∨ (T = "set" ∧ ∃ S n, H p = some (.set S n))
  | _ => False
theorem tyV_is {pins : List (Addr × Obj)} {σ : St} {H : Hp} {s : Shared} {T : String} {x : V} {v : Value} (I : Inv X pins σ H s) (r : RelV x v) (ty : tyV X.K T x H) :
    s.TypeIs v T ∧ ∀ a, v = .ref a → ∃ ob, s.heap.get? a = some ob ∧ ob.dict = none := by
  cases x with
  | str z =>
    obtain ⟨t, rfl⟩ := r
    cases (show T = "str" from ty)
    exact ⟨typeIs_str s z t, fun _ e => nomatch e⟩
  | int i =>
    obtain ⟨t, rfl⟩ := r
    cases (show T = "int" from ty)
    exact ⟨typeIs_int s i t, fun _ e => nomatch e⟩
  | ref p =>
    cases r
    rcases ty with ⟨rfl, xs, hq⟩ | ⟨rfl, o, hk, hc, hd⟩ | ⟨rfl, hk⟩ | ⟨rfl, S, n, hk⟩
    · obtain ⟨its, _, pl, _⟩ := I.list hq
      refine ⟨pl.isList.typeIs, fun a e => ?_⟩
      cases e
      obtain ⟨o, n, e, c, hd, _⟩ := pl
      exact ⟨o, e, hd⟩
    · refine ⟨⟨o, I.kIn p o hk, hc⟩, fun a e => ?_⟩
      cases e
      exact ⟨o, I.kIn _ o hk, hd⟩
    · have z : ∃ o, s.heap.get? p = some o ∧ o.ExactDict := by
        rcases hk with ⟨kvs, hk⟩ | ⟨kvs, hk⟩
        · obtain ⟨_, _, _, _, o, _, _, e, ex, _⟩ := I.hok p _ hk
          exact ⟨o, e, ex⟩
        · obtain ⟨_, _, _, _, o, _, _, e, ex, _⟩ := I.hok p _ hk
          exact ⟨o, e, ex⟩
      obtain ⟨o, e, ex⟩ := z
      refine ⟨⟨o, e, ex.1⟩, fun a e2 => ?_⟩
      cases e2
      exact ⟨o, e, ex.2.1⟩
    · obtain ⟨o, _, _, _, e, ex, _⟩ := I.hok p _ hk
      refine ⟨⟨o, e, ex.1⟩, fun a e2 => ?_⟩
      cases e2
      exact ⟨o, e, ex.2.1⟩
  | _ => exact False.elim ty
def tBM (K : PySem.W.Frag) (T : String) (r : V → List V → Hp → VK → Prop) (to : TE) (t : TA) : TE := fun σ H Q => to σ H fun x H1 => tyV K T x H1 ∧ t σ H1 fun xs H2 => r x xs H2 Q
variable {o e : Expr} {es : List Expr} {to : TE} {t : TA} {name : Str} {apos cpos : Pos} {T id : String} {r : V → List V → Hp → VK → Prop}
theorem pe_bm (pa : PlainAttrs T) (slot : Slot T name id) (hty : typeOf (.builtin id) = pure (.type "method_descriptor")) (hm : MtR X id r) (ho : PE X o to) (ha : PA X (e :: es) t)
    (hbase : attributeBase o name X.env (eval o X.env) = eval o X.env := by rfl)
    (hfew : ((backTo cpos (starEach (e :: es) X.env)).all (fun x => !x.1) && (backToKw cpos (keywordEach [] X.env)).all (fun x => x.1.isSome)
      && decide ((e :: es).length + ([] : List Keyword).length + (if ([] : List Keyword).isEmpty then 0 else 1) < 30)) = true := by rfl)
    (hline : (apos.endLine == cpos.line) = true := by rfl) (hs : starEach (e :: es) X.env = (false, eval e X.env) :: starEach es X.env := by rfl) (hplain : (backTo cpos (starEach es X.env)).any (·.1) = false := by rfl) :
    PE X (.Call (.Attribute o name apos) (e :: es) [] cpos) (tBM X.K T r to t) := by
  intro pins s σ H Q I h
  refine wpAny_Call_method_late hbase hfew hline rfl (thn (ho pins s σ H _ I h) fun v s1 ⟨x, H1, I1, r1, ty, q1⟩ => ?_)
  obtain ⟨h1, h2⟩ := tyV_is I1 r1 ty
  refine ⟨T, id, pa, slot, hty, h1, h2, ?_⟩
  have hA := ha cpos pins s1 σ H1 _ I1 q1
  rw [hs] at hA ⊢
  refine Calls.callWith_builtin (by show (false || (backTo cpos (starEach es X.env)).any (·.1)) = false; rw [hplain] <;> rfl) (Calls.evalArgs_plain ?_)
  exact thn hA fun us s2 ⟨vs, H2, I2, r2, q2⟩ => hm pins s2 σ H2 x vs v us Q I2 r1 r2 q2
/- xs.append(e), list.index on a module's tuple .. are MtR facts of 06m -/
end
end L2

namespace L2
open PySem PySem.Spec PyProof.Rows

def MtM (X : Cx) (id : String) (r : V → List V → Hp → VK → Prop) : Prop :=
  ∀ (pins : List (Addr × Obj)) (s : Shared) (σ : St) (H : Hp) (x : V) (xs : List V) (v : Value) (us : List Value) (Q : VK), Inv X pins σ H s → RelV x v → Vals xs us → r x xs H Q →
    wpAny (model X.prog X.w) X.A (call (.builtin id) (v :: us)) (EP X pins σ Q) X.xe s

/-! ### lists of values -/
theorem Vals.one : ∀ {x : V} {us : List Value}, Vals [x] us → ∃ u, us = [u] ∧ RelV x u
  | _, _, .cons r .nil => ⟨_, rfl, r⟩

section
variable {X : Cx} {pins : List (Addr × Obj)} {σ : St} {H : Hp} {s : Shared} {l b : Addr} {xs ys zs : List V}

/-! ### the two steps: a tracked list is rewritten, a new list is laid -/
theorem Inv.lset {its its' : List Value} {n : Nat} {f : Array Value → Array Value} {t' : Nat} (I : Inv X pins σ H s) (hH : H l = some (.lst xs))
    (e : s.heap.get? l = some { cls := .type "list", data := .seq its.toArray n }) (hf : f its.toArray = its'.toArray) (hv : Vals ys its') (hz : ys.length ≤ sizeLine) :
    Inv X pins σ (upd H l (.lst ys)) { s with heap := s.heap.update l (Obj.mapSeq f), toks := t' } := by
  have q := PySem.IsL.update e f
  rw [hf] at q
  refine I.write (x := l) (e := l) (by rw [hH]; exact trivial) (.inl rfl) (fun b' u hb hu => (Heap.get?_update_other s.heap (Obj.mapSeq f) (Ne.symm hb)).trans hu) ⟨_, q⟩ ?_
  exact ⟨hz, its', _, hv, q⟩
theorem Inv.lnew {its : List Value} {t' : Nat} (I : Inv X pins σ H s) (hv : Vals ys its) (hz : ys.length ≤ sizeLine) :
    Inv X pins σ (upd H s.heap.objs.size (.lst ys)) { s with heap := s.heap.push { cls := .type "list", data := .seq its.toArray }, toks := t' } :=
  I.laid (fun _ _ q => Heap.get?_push_of_some _ q) (Nat.le_refl _) ⟨hz, its, 0, hv, Heap.get?_push_size _ rfl⟩
theorem Inv.fresh (I : Inv X pins σ H s) : H s.heap.objs.size = none := I.hok.fresh (Nat.le_refl _)
theorem Inv.lstM (I : Inv X pins σ H s) (hH : H l = some (.lst xs)) : xs.length ≤ sizeLine ∧ ∃ (its : List Value) (n : Nat), Vals xs its ∧ xs.length = its.length ∧ s.heap.get? l = some { cls := .type "list", data := .seq its.toArray n } := by
  obtain ⟨z, its, n, r, e⟩ := I.hok l _ hH
  exact ⟨z, its, n, r, r.length, e⟩

end

section
variable {X : Cx}

/-! ### methods -/
def rAppend : V → List V → Hp → VK → Prop := fun x vs H Q => ∃ l xs y, x = .ref l ∧ vs = [y] ∧ H l = some (.lst xs) ∧ xs.length < sizeLine ∧ Q .non (upd H l (.lst (xs ++ [y])))
theorem mt_append : MtM X "list.append" rAppend := by
  intro pins s σ H x vs v us Q I rx rv h
  obtain ⟨l, xs, y, rfl, rfl, hH, hz, q⟩ := h
  cases rx
  obtain ⟨u, rfl, ru⟩ := rv.one
  obtain ⟨z, its, n, r, hl, e⟩ := I.lstM hH
  refine call_meets F.slot_list_append ⟨_, e, rfl⟩ F.entry_list_append (F.args_list_append_2 _ _) (PySem.list_append l its.toArray n u (by rw [List.size_toArray]; omega)) ⟨e, ?_⟩
  refine ⟨.non, _, I.lset (its' := its ++ [u]) hH e (by simp) (r.append (.cons ru .nil)) ?_, rfl, q⟩
  rw [List.length_append, List.length_singleton]
  omega






/-! ### list + list, list += list, list * int -/
def rCat : R2 := fun x y H Q => ∃ l b xs zs, x = .ref l ∧ y = .ref b ∧ H l = some (.lst xs) ∧ H b = some (.lst zs) ∧ xs.length + zs.length ≤ sizeLine ∧ ∀ p, H p = none → Q (.ref p) (upd H p (.lst (xs ++ zs)))
theorem op_cat : OpR X (binaryOp .Add) rCat := by
  intro pins s σ H x y v u Q I rx ry h
  obtain ⟨l, b, xs, zs, rfl, rfl, hH, hB, hz, q⟩ := h
  cases rx
  cases ry
  obtain ⟨z, its, n, r, hl, e⟩ := I.lstM hH
  obtain ⟨z2, its2, n2, r2, hl2, e2⟩ := I.lstM hB
  refine PySem.P.add_list e e2 ?_ (by rw [List.size_toArray, List.size_toArray]; omega)
  have ea : its.toArray ++ its2.toArray = (its ++ its2).toArray := by simp
  rw [ea]
  exact ⟨.ref _, _, I.lnew (t' := s.toks) (r.append r2) (by rw [List.length_append]; omega), rfl, q _ I.fresh⟩

/-! ### del xs[i] -/
end

/-! ### xs[a:b] = ys -/
section
variable {prog : Program} {w : World} {A : Around} {E : Value → Shared → Prop} {s : Shared}
end

section
variable {X : Cx}
end
end L2

namespace Att
open PySem PySem.W PySem.Calls PyProof.Rows

/-! ### the script -/
theorem ints_of_wellAll {P : Params} {h : Heap} : ∀ (ns : List Int) (vs : List Value), WellAll P h vs (ns.map WData.int) → IntsAre vs ns := by
  intro ns
  induction ns with
  | nil =>
    intro vs w
    rw [List.map_nil] at w
    cases w
    exact .nil
  | cons n ns ih =>
    intro vs w
    rw [List.map_cons] at w
    cases w with
    | cons a b =>
      cases a
      exact .cons _ _ (ih _ b)

theorem script_of {l : OpenLaw} {n : Nat} (hn : l.most = some n) {P : Params} {h : Heap} {args : List WData} {vals : List Value}
    (hpre : l.row.toRowW.claim.pre args = true) (hwl : WellAll P h vals args) :
    ∃ a vs ns, vals = [Value.ref a] ∧ args = [WData.list (ns.map WData.int)] ∧ h.get? a = some { cls := .type "list", data := .seq vs.toArray } ∧ IntsAre vs ns ∧ ns.length ≤ n := by
  have hsh : WShape.hasAll [] args [.list .int] = true := (pre_splitW hpre).1
  have hc : l.pre.holds [] { args := args } = true := (pre_splitW hpre).2
  obtain ⟨d, r, rfl, h1, h2⟩ := hasAllW_cons hsh
  obtain rfl := hasAllW_nil h2
  obtain ⟨xs, rfl, h3⟩ := hasW_list h1
  obtain ⟨ns, rfl⟩ := items_int h3
  have hlen : ns.length ≤ n := by
    unfold OpenLaw.pre at hc
    have h4 : (WTm.not (.lt (.lit (.int (n : Int))) (.len (.arg 0)))).holds [] { args := [.list (ns.map .int)] } = true := by
      have h4 := (holds_andW hc).1
      rw [hn] at h4
      exact h4
    have h5 := condW_of h4 (w_not (w_lt w_lit (w_len_list (w_arg rfl))))
    rw [List.length_map] at h5
    refine Nat.le_of_not_lt fun q => ?_
    have q' : (n : Int) < ((ns.length : Nat) : Int) := by omega
    first
      | (rw [decide_eq_true q'] at h5; exact absurd h5 (by decide))
      | (simp at h5; omega)
  cases hwl with
  | cons w1 w2 =>
    cases w2
    cases w1 with
    | list ho hall => exact ⟨_, _, ns, rfl, rfl, ho, ints_of_wellAll ns _ hall, hlen⟩

theorem post_true (l : OpenLaw) (args : List WData) : l.row.toRowW.claim.post args (.bool true) args = true :=
  postW_of (r := l.row.toRowW) (X := (true == true))
    (show WShape.has [] (.bool true) .bool = true by first | rfl | decide | simp [WShape.has, WShape.arms, WShape.armsAll])
    (show (WTm.eq .res (.lit (.bool true))).value [] { args := args, res := some (.bool true), after := args } = some (.bool (true == true)) from w_eq_bool (w_res rfl) w_lit) rfl

/-! ### the attachment: holds_open's last premise (the goal 'hc' behind k_head) from a wpAny of the law's body -/

/-- the same from a codeAny of the CALL (for a layer whose function contracts speak of calls) -/
theorem attach_call {l : OpenLaw} {n : Nat} {q : Program} {loose : List Str} {XP : (Str → Option Value) → Heap → Prop} {YP : World → Heap → Prop} {d : DefRec}
    (hn : l.most = some n) (hdf : d.params.defaults = [])
    (call : ∀ (w : World) (s₀ s₁ : Shared) (mg mb : Str → Option Value) (fa : Addr) (o : Obj) (pm cd doc : Value) (a : Addr) (vs : List Value) (ns : List Int),
      Ground q loose [] XP w s₀ mg mb s₁.heap → YP w s₁.heap →
      s₁.heap.get? fa = some o → o.data = .func (docDef d.name d.params d.body d.scope pm cd doc) → s₁.heap.CodeRec cd d.name → mg d.name = some (.ref fa) →
      s₁.heap.get? a = some { cls := .type "list", data := .seq vs.toArray } → IntsAre vs ns → ns.length ≤ n → s₁.gens = #[] →
      codeAny (model l.prog w) callerA (.call (.ref fa) ⟨[.ref a], []⟩) (fun r s' => r = .ok (.ret (.bool true)) ∧ OldK s₁.heap s'.heap ∧ s'.os = s₁.os ∧ AllBare s'.gens) s₁) :
    WalkO q loose XP YP l.row.toRowW d [] (fun f vs => PySem.call f vs) := by
  intro w s₀ s₁ mg mb G Y fa o pm cd doc dV kV ho hd hcd hD hmg hg args vals as hpre hlay hrd hwl hlo
  obtain rfl : dV = .none := Dflts.none hD hdf
  obtain rfl : kV = .none := Dflts.noKw hD
  obtain ⟨a, vs, ns, rfl, rfl, hobj, hints, hlen⟩ := script_of hn hpre hwl
  refine enter_call (codeAny_mono (call w s₀ s₁ mg mb fa o pm cd doc a vs ns G Y ho (fd_plain hd) hcd hmg hobj hints hlen hg) fun r s' hq => ?_)
  obtain ⟨rfl, h2, h3, h4⟩ := hq
  exact ⟨.inl ⟨.bool true, .bool true, [], rfl, fun _ => rfl, .bool true, post_true l _, fun _ => ⟨List.Pairwise.nil, fun _ hm => (nomatch hm)⟩⟩, h2, h3, h4⟩


/-! ### rules over ANY heap (no ledger) from facts about the written part K: the library's own take a ledger (News) for what they write -/
section
variable {prog : Program} {w : World} {A : Around} {E : Value → Shared → Prop} {s : Shared} {K : Frag}





/-! the whole heap as the ledger: makes every rule that writes through a ledger a rule over any heap -/

end
end Att

namespace L2
open PySem PySem.Spec PyProof.Rows

theorem vals_ints : ∀ {vs : List Value} {ns : List Int}, IntsAre vs ns → Vals (ns.map V.int) vs
  | _, _, .nil => .nil
  | _, _, .cons n t h => .cons ⟨t, rfl⟩ (vals_ints h)

/-- nothing is tracked but the script, known to the object (or it is an object of the module) -/
def Only (H : Hp) : Prop := ∀ b, H b = none ∨ ∃ o xs, H b = some (.frz o (.lst xs))

/-- THE HEAD: the law's promise, at the heap behind the top. F, the promise of the law's def, may use that base is part of the heap (so K.In base, base.Ns mainGlobals mg stand in Mod) -/
theorem law_call {P : Program} {w : World} {K : PySem.W.Frag} {mg mb : Str → Option Value} {CX : CXT} {k : Nat} {fa a : Addr} {fd : FuncData} {x : Str} {sp : Sp} {s₁ : Shared} {vs : List Value} {ns : List Int}
    (KX : K.In s₁.heap) (hns : s₁.heap.Ns mainGlobals mg) (hb : s₁.heap.Ns builtinsNs mb) (hbb : ∀ x : Str, x ≠ "__name__" → mb x = bootBuiltins x) (hlim : s₁.heap.NoLimit) (hg : s₁.gens = #[])
    (ha : s₁.heap.get? a = some { cls := .type "list", data := .seq vs.toArray }) (hi : IntsAre vs ns) (hl : ns.length ≤ sizeLine) (hr : Room k callerA)
    (F : ∀ base : Heap, K.In base → base.Ns mainGlobals mg → FnOk P w K mg base CX k fa fd [x] sp) (hbind : ∀ (s : Shared) (u : Value), BindsTo s fd ⟨[u], []⟩ [(x, u)])
    (hsp : ∀ H : Hp, Only H → SqL K H a (ns.map V.int) → sp [.ref a] H (fun v _ => v = .bl true) fun _ _ _ => False)
    (hCX : ∀ H e s', CX [] H s₁ (fun _ _ _ => False) e s' → False) :
    codeAny (model P w) callerA (.call (.ref fa) ⟨[.ref a], []⟩) (fun r s' => r = .ok (.ret (.bool true)) ∧ OldK s₁.heap s'.heap ∧ s'.os = s₁.os ∧ AllBare s'.gens) s₁ := by
  have rv := vals_ints hi
  have lenV := hi.length
  have core : ∀ H : Hp, Only H → SqL K H a (ns.map V.int) → HOk P w H s₁.heap → (∀ b, H b ≠ none → b = a) → (H a ≠ none → K.lookup a = none) →
      codeAny (model P w) callerA (.call (.ref fa) ⟨[.ref a], []⟩) (fun r s' => r = .ok (.ret (.bool true)) ∧ OldK s₁.heap s'.heap ∧ s'.os = s₁.os ∧ AllBare s'.gens) s₁ := by
    intro H hO hS hok hA hK
    have base_of : ∀ {b : Addr} {o : Obj}, s₁.heap.get? b = some o → H b = none → (hidT s₁.heap H).get? b = some o := fun e n => hidT_get e n
    have noA : ∀ {b : Addr} {o : Obj} {es : Array DictEntry} {ep : Nat}, s₁.heap.get? b = some o → o.data = .dict es ep → H b = none := fun {b o es ep} e d => by
      cases q : H b with
      | none => rfl
      | some u =>
        have e' : b = a := hA b (by rw [q]; simp)
        subst e'
        rw [ha] at e; cases e
        have d' : Data.seq vs.toArray _ = Data.dict es ep := d
        cases d'
    have nsK : ∀ {b : Addr} {m : Str → Option Value}, s₁.heap.Ns b m → (hidT s₁.heap H).Ns b m := fun {b m} ⟨o, es, ep, e, d, r⟩ => ⟨o, es, ep, base_of e (noA e d), d, r⟩
    have hKb : K.In (hidT s₁.heap H) := fun b o e => base_of (KX b o e) (by
      cases q : H b with
      | none => rfl
      | some u =>
        have e' : b = a := hA b (by rw [q]; simp)
        subst e'
        rw [hK (by rw [q]; simp)] at e; cases e)
    have hM : Mod K mg (hidT s₁.heap H) := ⟨hKb, nsK hns, ⟨mb, nsK hb, hbb⟩, let ⟨mc, h1, h2⟩ := hlim; ⟨mc, nsK h1, h2⟩⟩
    have e0 : Env0 P w K mg (hidT s₁.heap H) callerA [] s₁ H := ⟨rfl, hM, fun b o e => of_hidT e, Nat.le_of_eq (hidT_size _ _), trivial, fun b hb => absurd (show b ∈ ([] : List Addr) from hb) (by simp), hok, .of_eq hg⟩
    refine codeAny_mono ((F _ hKb (nsK hns)).run callerA [] s₁ H ⟨[.ref a], []⟩ [.ref a] [.ref a] _ _ hr e0 (hbind s₁ (.ref a)) (.cons rfl .nil) (hsp H hO hS)) fun r s' h => ?_
    cases r with
    | error e => exact (hCX H e s' h).elim
    | ok fl =>
      cases fl with
      | next => exact False.elim h
      | brk => exact False.elim h
      | cont => exact False.elim h
      | ret u =>
        obtain ⟨v, H', os, bare, un, hok', r', q⟩ := h
        have q' : v = .bl true := q
        subst q'
        obtain rfl : u = Value.bool true := r'
        refine ⟨rfl, OldK.of_keep fun b o e => ?_, os, bare⟩
        cases q : H b with
        | none => exact un.keep b o e q (by intro z; exact absurd (show b ∈ ([] : List Addr) from z) (by simp)) (by simp)
        | some u =>
          rcases hO b with z | ⟨ob, xs, z⟩
          · rw [q] at z; cases z
          · have z2 := un.frzs b ob _ z
            obtain ⟨e1, _⟩ := hok b _ z
            obtain ⟨e2, _⟩ := hok' b _ z2
            rw [e] at e1; cases e1
            exact e2
  cases hk : K.lookup a with
  | some o =>
    have e := KX a o hk
    rw [ha] at e
    cases e
    refine core (fun _ => none) (fun _ => .inl rfl) (.inr ⟨_, vs.toArray, _, hk, rfl, rfl, rfl, by rw [List.size_toArray, lenV]; exact hl, by simpa using rv⟩) (fun b u z => by have z' : (none : Option HO) = some u := z; cases z') (fun b z => absurd rfl z) fun z => absurd rfl z
  | none =>
    refine core (fun b => if b = a then some (.frz { cls := .type "list", data := .seq vs.toArray } (.lst (ns.map V.int))) else none) (fun b => ?_) (.inl (.inr ⟨{ cls := .type "list", data := .seq vs.toArray }, if_pos rfl⟩)) (fun b u z => ?_) (fun b z => ?_) fun _ => hk
    · by_cases hb : b = a
      · exact .inr ⟨_, _, if_pos hb⟩
      · exact .inl (if_neg hb)
    · by_cases hb : b = a
      · have z' := (if_pos hb).symm.trans z
        cases z'
        subst hb
        exact ⟨ha, by rw [List.length_map]; exact hl, vs, _, rv, ha⟩
      · have z' := (if_neg hb).symm.trans z
        cases z'
    · by_cases hb : b = a
      · exact hb
      · exact absurd (if_neg hb) z
end L2

namespace L2
open PySem PySem.Spec PyProof.Rows

abbrev KOf {K : PySem.W.Frag} {h : Heap} (_ : K.In h) : PySem.W.Frag := K

/-- the goal that k_head leaves (case hc), from the law's promise. F gives the function object fd (K's own) once, then the promise over every base -/
theorem walk_of {l : PySem.W.OpenLaw} {n k : Nat} {q : Program} {loose : List Str} {XP : (Str → Option Value) → Heap → Prop} {YP : World → Heap → Prop} {d : DefRec} {K : Params → PySem.W.Frag} {CX : World → CXT} {sp : World → Sp} {x : Str}
    (hn : l.most = some n) (hn2 : n ≤ sizeLine) (hdf : d.params.defaults = []) (hr : Room k callerA)
    (hY : ∀ (w : World) (h : Heap), YP w h → (K w.params).In h)
    (F : ∀ (w : World) (mg : Str → Option Value) (fa : Addr) (h : Heap), (K w.params).In h → h.Ns mainGlobals mg → mg d.name = some (.ref fa) →
      ∃ fd : FuncData, (∀ (s : Shared) (u : Value), BindsTo s fd ⟨[u], []⟩ [(x, u)]) ∧
        ∀ base : Heap, (K w.params).In base → base.Ns mainGlobals mg → FnOk l.prog w (K w.params) mg base (CX w) k fa fd [x] (sp w))
    (hsp : ∀ (w : World) (H : Hp) (a : Addr) (ns : List Int), ns.length ≤ n → Only H → SqL (K w.params) H a (ns.map V.int) → sp w [.ref a] H (fun v _ => v = .bl true) fun _ _ _ => False)
    (hCX : ∀ (w : World) (H : Hp) (s : Shared) (e : Value) (s' : Shared), CX w [] H s (fun _ _ _ => False) e s' → False) :
    PySem.W.WalkO q loose XP YP l.row.toRowW d [] (fun f vs => PySem.call f vs) := by
  refine Att.attach_call hn hdf fun w s₀ s₁ mg mb fa o pm cd doc a vs ns G Y ho hd hcd hmg hobj hints hlen hg => ?_
  have KX := hY w _ Y
  obtain ⟨fd, hb, hF⟩ := F w mg fa _ KX G.T.g hmg
  exact law_call KX G.T.g G.T.b G.T.builtins G.T.nolimit hg hobj hints (Nat.le_trans hlen hn2) hr hF hb (fun H hO hS => hsp w H a ns hlen hO hS) fun H e s' => hCX w H s₁ e s'
/-- the same where the promise hangs on the written part alone: (sp := My.sp_law), no hole under a binder -/
theorem walk_ofK {l : PySem.W.OpenLaw} {n k : Nat} {q : Program} {loose : List Str} {XP : (Str → Option Value) → Heap → Prop} {YP : World → Heap → Prop} {d : DefRec} {K : Params → PySem.W.Frag} {CX : CXT} {sp : PySem.W.Frag → Sp} {x : Str}
    (hn : l.most = some n) (hn2 : n ≤ sizeLine) (hdf : d.params.defaults = []) (hr : Room k callerA)
    (hY : ∀ (w : World) (h : Heap), YP w h → (K w.params).In h)
    (F : ∀ (w : World) (mg : Str → Option Value) (fa : Addr) (h : Heap), (K w.params).In h → h.Ns mainGlobals mg → mg d.name = some (.ref fa) →
      ∃ fd : FuncData, (∀ (s : Shared) (u : Value), BindsTo s fd ⟨[u], []⟩ [(x, u)]) ∧
        ∀ base : Heap, (K w.params).In base → base.Ns mainGlobals mg → FnOk l.prog w (K w.params) mg base CX k fa fd [x] (sp (K w.params)))
    (hsp : ∀ (K : PySem.W.Frag) (H : Hp) (a : Addr) (ns : List Int), ns.length ≤ n → Only H → SqL K H a (ns.map V.int) → sp K [.ref a] H (fun v _ => v = .bl true) fun _ _ _ => False)
    (hCX : ∀ (H : Hp) (s : Shared) (e : Value) (s' : Shared), CX [] H s (fun _ _ _ => False) e s' → False) :
    PySem.W.WalkO q loose XP YP l.row.toRowW d [] (fun f vs => PySem.call f vs) :=
  walk_of (K := K) (CX := fun _ => CX) (sp := fun w => sp (K w.params)) hn hn2 hdf hr hY F (fun w H a ns h1 h2 h3 => hsp (K w.params) H a ns h1 h2 h3) fun _ H s e s' => hCX H s e s'
end L2

/- THE LAST THEOREM (shape; LID, My.* are yours):
   My.Adr: a structure of the addresses that your layer names (classes, functions); My.Txt K t: a structure (Prop) of the equations over K;
   My.txt_mk : {K} {implicit addresses ..} (e1 : nsIn K mainGlobals "law" = some (some (.ref f))) (e2 : K.lookup f = some ⟨oc, od, .func (fnOf "law" "law" params body scope dV kV doc pm an cdv ct), sl⟩) (e3 : codeIn K cdv "law" = true) .. : ∃ t, My.Txt K t

def PySem.W.Fast.tw13800476380741564253 : Unit := ()
def PySem.W.Fast.tw1008354745894583711 : Unit := ()
def PySem.W.Fast.tw16880269105334494560 : Unit := ()
def PySem.W.Fast.tw10647356913789989467 : Unit := ()
def PySem.W.Fast.tw2723538090252286227 : Unit := ()
def PySem.W.Fast.tw11305007458652601143 : Unit := ()
def PySem.W.Fast.tw3789216894398777226 : Unit := ()
def PySem.W.Fast.tw6383705283467689823 : Unit := ()
def PySem.W.Fast.tw8240138602408352469 : Unit := ()
def PySem.W.Fast.tw8968184531468936538 : Unit := ()
def PySem.W.Fast.tw16118007367605357015 : Unit := ()
def PySem.W.Fast.tw13091645284923930844 : Unit := ()
def PySem.W.Fast.tw6542553271317503989 : Unit := ()
def PySem.W.Fast.tw7397168517195352935 : Unit := ()
def PySem.W.Fast.tw11014470278734037297 : Unit := ()
def PySem.W.Fast.tw9166329721473545042 : Unit := ()
def PySem.W.Fast.tw9214646899826338795 : Unit := ()
def PySem.W.Fast.tw16183036507735543418 : Unit := ()
set_option maxRecDepth 100000 in
set_option maxHeartbeats 0 in
theorem PySem.Challenge.cw_LID_holds : PySem.Challenge.rw_LID.Holds := by
  w_on; o_law; k_head; (case hw => w_witness2)
  k_fill
  refine L2.walk_of (l := PySem.Challenge.rw_LID) (n := 63) (k := 40) (x := "script") (CX := fun w => ..) (sp := fun _ => My.sp_law) rfl (by decide) rfl ⟨rfl, by decide, by decide⟩ (fun w h Y => PySem.W.kIn_of Y) ?F ?S ?C
  case F =>
    intro w mg fa h KX G hmg
    have T : ∃ t, My.Txt (L2.KOf KX) t := by
      dsimp only [L2.KOf]                          -- K must stand as «<heap const> w.params» for k_is
      refine' My.txt_mk ?e1 ?e2 ?e3 ..
      (case e1 => PySem.W.k_is)                    -- in the order: a name -> its address -> its object -> its parts
      (case e2 => PySem.W.k_is)
      ..
    obtain ⟨t, T⟩ := T
    have e0 := hmg.symm.trans (PySem.W.mg_of KX G T.law)
    cases e0                                       -- fa is the law's own address
    exact ⟨_, fun s u => .of_eq rfl, fun base kb nb => My.law_fn T kb nb⟩     -- if «.of_eq rfl» comes too early: refine' ⟨_, ?b, fun base kb nb => My.law_fn T kb nb⟩; exact fun s u => .of_eq rfl
  case S => exact fun w H a ns hl hO hS => ..
  case C => exact ..
(the tactic k_is has no namespace: write k_is) -/

/-! SHORT WORDS over the layer: a def of the text, its body, what a loop and a test want. -/
namespace L2
open PySem PySem.Spec PyProof.Rows

/-! ### the text by places -/
def defArgs (s : Stmt) : Arguments := match s with
  | .FunctionDef _ a _ _ _ _ _ _ _ _ => a
  | _ => { posonlyargs := [], args := [], vararg := none, kwonlyargs := [], kw_defaults := [], kwarg := none, defaults := [] }
def defBody (s : Stmt) : List Stmt := match s with
  | .FunctionDef _ _ b _ _ _ _ _ _ _ => b
  | _ => []
def defScope (s : Stmt) : Scope := match s with
  | .FunctionDef _ _ _ _ _ _ sc _ _ _ => sc
  | _ => { kind := .function, names := [], isGenerator := false, isCoroutine := false }

/-! ### no exception leaves a def -/
abbrev CX0 : CXT := fun _ _ _ _ _ _ => False
abbrev E0 : XK := fun _ _ _ => False
theorem pass0 {X : Cx} : Passes CX0 X E0 := fun _ _ _ _ _ _ _ h => h.elim

/-! ### a def (or method) of the text as it stands behind the top -/
structure Fun (K : PySem.W.Frag) (x qual : Str) (st : Stmt) (f : Addr) (fd : FuncData) : Prop where
  ex : ∃ (oc : Value) (od : Option Addr) (kV doc pm : Value) (an : Option Addr) (cdv ct : Value) (osl : Array (Option Value)),
    fd = PySem.W.fnOf x qual (defArgs st) (defBody st) (defScope st) .none kV doc pm an cdv ct ∧ K.lookup f = some ⟨oc, od, .func fd, osl⟩ ∧ PySem.W.codeIn K cdv qual = true
  kp : PySem.W.keepIn K (.ref f) = true
section
variable {P : Program} {w : World} {K : PySem.W.Frag} {mg : Str → Option Value} {base : Heap}
/-- THE RULE for a def: its body as a term of rules, and the reading of that term -/
theorem Fun.ok {x qual : Str} {st : Stmt} {f : Addr} {fd : FuncData} {N ps : List Str} {k : Nat} {sp : Sp} (F : Fun K x qual st f fd) (S : FnScope N ps (defScope st)) (len : ∀ vs H Q E, sp vs H Q E → vs.length = ps.length)
    (hbody : ∀ (cdv : Value) (A : Around) (outer : List Env) (s : Shared) (H : Hp) (vs : List V) (Q : VK) (E : XK), Room k (A.deeper (envOfC qual (defScope st) s.heap.objs.size f cdv)) → sp vs H Q E →
      ∃ t, PSs (cxOf CX0 P w K mg base N qual (defScope st) f cdv A outer s H E).nox (defBody st) t ∧ t { nx := fun _ H' => Q .non H', rt := Q } (start N vs) H) : FnOk P w K mg base CX0 (k + 1) f fd ps sp := by
  obtain ⟨oc, od, kV, doc, pm, an, cdv, ct, osl, rfl, lk, hcd⟩ := F.ex
  refine fn_of lk hcd S len fun A outer s H vs Q E hr hsp => ?_
  obtain ⟨t, h, q⟩ := hbody cdv A outer s H vs Q E hr hsp
  exact ⟨t, h.nox, q⟩
/-- how its arguments bind (no defaults): h is «fun _ _ _ _ _ _ us hl => match us, hl with | [_, _], _ => rfl», one _ a parameter -/
theorem Fun.binds {x qual : Str} {st : Stmt} {f : Addr} {fd : FuncData} {ps : List Str} (F : Fun K x qual st f fd)
    (h : ∀ (kV doc pm : Value) (an : Option Addr) (cdv ct : Value) (us : List Value), us.length = ps.length → bindArgs (PySem.W.fnOf x qual (defArgs st) (defBody st) (defScope st) .none kV doc pm an cdv ct) ⟨us, []⟩ = pure (ps.zip us)) : Binds K fd ps [] := by
  obtain ⟨oc, od, kV, doc, pm, an, cdv, ct, osl, rfl, lk, hcd⟩ := F.ex
  exact .all (h kV doc pm an cdv ct)
theorem fun_mk {x qual : Str} {st : Stmt} {f : Addr} {oc : Value} {od an : Option Addr} {osl : Array (Option Value)} {kV doc pm cdv ct : Value} (l : K.lookup f = some ⟨oc, od, .func (PySem.W.fnOf x qual (defArgs st) (defBody st) (defScope st) .none kV doc pm an cdv ct), osl⟩)
    (c : PySem.W.codeIn K cdv qual = true) (k : PySem.W.keepIn K (.ref f) = true) : Fun K x qual st f (PySem.W.fnOf x qual (defArgs st) (defBody st) (defScope st) .none kV doc pm an cdv ct) := ⟨⟨oc, od, kV, doc, pm, an, cdv, ct, osl, rfl, l, c⟩, k⟩
end
theorem small1000 {n : Nat} (h : n ≤ 1000) : n < sizeLine := Nat.lt_of_le_of_lt h (by decide)

/-! ### expressions in short: the name that stands in the i-th slot -/
section
variable {X : Cx}
theorem pv (i : Nat) {x : Str} {pos : Pos} (hN : X.N[i]? = some x := by rfl) (hv : Vis X.env.scope x := by first | exact Or.inl rfl | exact Or.inr (Or.inl rfl) | exact Or.inr (Or.inr rfl)) (hd : (x == ("__debug__" : Str)) = false := by decide)
    (hcd : (x == ("__classdict__" : Str)) = false := by decide) : PE X (.Name x pos) (tVar i) := pe_var hN hv hd hcd
end

/-! ### tests -/
theorem iteF {A B : Prop} (h : B) : if false = true then A else B := by
  rw [if_neg Bool.false_ne_true]
  exact h
theorem iteT {A B : Prop} (h : A) : if true = true then A else B := by
  rw [if_pos rfl]
  exact h
theorem ite2 {c A B : Prop} [Decidable c] (h1 : c → A) (h2 : ¬ c → B) : if c then A else B := by
  by_cases h : c
  · rw [if_pos h]
    exact h1 h
  · rw [if_neg h]
    exact h2 h

/-! ### heaps -/
/-- all that was tracked is as it was -/
def Same (H H' : Hp) : Prop := ∀ b o, H b = some o → H' b = some o
theorem Same.refl (H : Hp) : Same H H := fun _ _ h => h
theorem Same.trans {H H1 H2 : Hp} (a : Same H H1) (b : Same H1 H2) : Same H H2 := fun c o h => b c o (a c o h)
theorem Same.free {H H' : Hp} (e : Same H H') {l : Addr} (h : H' l = Option.none) : H l = Option.none := by
  cases q : H l with
  | none => rfl
  | some o =>
    rw [e l o q] at h
    cases h
theorem Same.seq {K : PySem.W.Frag} {H H' : Hp} {a : Addr} {xs : List V} (e : Same H H') (h : SqL K H a xs) : SqL K H' a xs := by
  rcases h with (h | ⟨o, h⟩) | h
  · exact .inl (.inl (e _ _ h))
  · exact .inl (.inr ⟨o, e _ _ h⟩)
  · exact .inr h

end L2

namespace L2
open PySem PySem.Spec PyProof.Rows

/-! ### a comprehension: its closure -/
def clOf (cells : List (Str × Addr)) : List (Str × NameKind) → List (Str × Addr) → List (Str × Addr)
  | [], acc => acc
  | (n, k) :: r, acc => clOf cells r (if k == .free then (match cells.lookup n with | some c => (n, c) :: acc | none => acc) else acc)
theorem clo_go {env : Env} : ∀ (ns : List (Str × NameKind)) (acc : List (Str × Addr)), (∀ x ∈ ns, x.2 = .free → ∃ c, env.cells.lookup x.1 = some c) →
    (forIn ns acc fun (x : Str × NameKind) (cs : List (Str × Addr)) => (if x.2 == NameKind.free then do let a ← cellOf env x.1; pure (ForInStep.yield ((x.1, a) :: cs)) else pure (ForInStep.yield cs) : Sem (ForInStep (List (Str × Addr))))) = pure (clOf env.cells ns acc)
  | [], acc, _ => by simp [clOf]
  | (n, k) :: r, acc, h => by
    rw [List.forIn_cons]
    have ih := fun a => clo_go (env := env) r a fun x hx => h x (List.mem_cons_of_mem _ hx)
    unfold clOf
    by_cases hk : (k == NameKind.free) = true
    · obtain ⟨c, hc⟩ := h (n, k) List.mem_cons_self (by simpa using hk)
      have hc' : env.cells.lookup n = some c := hc
      have hce : cellOf env n = pure c := by simp only [cellOf, hc']
      simp only [hk, if_true, hce, pure_bind, hc']
      exact ih _
    · simp only [hk, if_false, pure_bind, ih]
      simp
theorem closure_is {scope : Scope} {env : Env} (h : ∀ x ∈ scope.names, x.2 = .free → ∃ c, env.cells.lookup x.1 = some c) : closureFor scope env = pure (clOf env.cells scope.names []) := by
  have q := clo_go (env := env) scope.names [] h
  unfold closureFor
  rw [← q]
  first
    | rfl
    | simp
theorem clOf_has {cells : List (Str × Addr)} : ∀ (ns : List (Str × NameKind)) (acc : List (Str × Addr)) {x : Str} {c : Addr}, (∀ y d, acc.lookup y = some d → cells.lookup y = some d) → (clOf cells ns acc).lookup x = some c → cells.lookup x = some c
  | [], acc, x, c, ha, h => ha x c h
  | (n, k) :: r, acc, x, c, ha, h => by
    unfold clOf at h
    refine clOf_has r _ (fun y d hy => ?_) h
    split at hy
    · split at hy
      · rename_i c' hc'
        rw [List.lookup_cons] at hy
        split at hy
        · rename_i e
          have e' : y = n := by simpa using e
          subst e'
          rw [hc']; exact hy
        · exact ha y d hy
      · exact ha y d hy
    · exact ha y d hy
theorem clOf_keep {cells : List (Str × Addr)} : ∀ (ns : List (Str × NameKind)) (acc : List (Str × Addr)) {x : Str}, (∃ c, acc.lookup x = some c) → ∃ c, (clOf cells ns acc).lookup x = some c
  | [], acc, x, h => h
  | (n, k) :: r, acc, x, h => by
    unfold clOf
    refine clOf_keep r _ ?_
    split
    · split
      · rw [List.lookup_cons]
        split
        · exact ⟨_, rfl⟩
        · exact h
      · exact h
    · exact h
theorem clOf_get {cells : List (Str × Addr)} : ∀ (ns : List (Str × NameKind)) (acc : List (Str × Addr)) {x : Str}, (x, NameKind.free) ∈ ns → (∃ c, cells.lookup x = some c) → ∃ c, (clOf cells ns acc).lookup x = some c
  | [], acc, x, h, _ => nomatch h
  | (n, k) :: r, acc, x, h, hc => by
    unfold clOf
    rcases List.mem_cons.mp h with e | h
    · cases e
      obtain ⟨c, hc⟩ := hc
      refine clOf_keep r _ ?_
      simp [hc]
    · exact clOf_get r _ h hc
end L2

namespace L2
open PySem PySem.Spec PyProof.Rows

/-- an untracked object of ours is tracked from now on -/
theorem Inv.track {X : Cx} {pins : List (Addr × Obj)} {σ : St} {H : Hp} {s : Shared} {a : Addr} {o : HO} (I : Inv X pins σ H s) (hn : H a = none) (h0 : X.s₀.heap.objs.size ≤ a) (hL : a ≠ X.env.locals)
    (hc : ∀ x c, X.env.cells.lookup x = some c → c ≠ a) (hp : ∀ p ∈ X.pn ++ pins, p.1 ≠ a) (new : ObjOk X.prog X.w (upd H a o) s.heap a o) : Inv X pins σ (upd H a o) s := by
  have ne : ∀ b u, H b = some u → b ≠ a := fun b u e => ne_of_none e hn
  have q := I.step (g' := s.gens) (d' := s.drawn) (t' := s.toks) (h' := s.heap) (H' := upd H a o) (ch := [a]) (fun b hb => ?_) (fun b ob _ _ _ e _ => e) (fun b ob _ _ _ e _ => ⟨ob.slots, e⟩) (fun b ob hb _ n => ?_)
    (fun b ob _ e => ⟨ob, e⟩) (fun b xs e => by rw [upd_ne (ne b _ e)]; exact e) (fun b ob u e => by rw [upd_ne (ne b _ e)]; exact e) (fun b ps e => ⟨#[], by rw [upd_ne (ne b _ e), e]; simp⟩) (fun m hm => hm) (fun b u e => ?_) I.bare
  · exact q
  · have e : b = a := by simpa using hb
    subst e
    exact ⟨.inr h0, hL, hc, hp⟩
  · rw [upd_ne (fun z => hb (by simp [z]))]; exact n
  · by_cases hb : b = a
    · subst hb; rw [upd_same] at e; cases e; exact new
    · rw [upd_ne hb] at e
      exact (I.hok b u e).stay (fun c v _ q => q) (fun c q => by rw [upd_ne (ne_of_none q hn)]; exact q) fun c xs q => by rw [upd_ne (ne_of_none q hn)]; exact q

/-- the context of a comprehension's block -/
def cxComp (X : Cx) (N' : List Str) (scope : Scope) (C : Addr) (s : Shared) (H : Hp) (fp : List Addr) (xe : Value → Shared → Prop) : Cx :=
  { X with N := N', s₀ := s, H₀ := H, env := compEnvC scope (clOf X.env.cells scope.names []) C X.env, outer := X.stack, ex := fp, fn := fun _ => false, xe := xe }

/-- what is asked of the block's names: ix says where a captured name stands outside -/
structure BlkOk (X : Cx) (N' : List Str) (ix : List (Option Nat)) (scope : Scope) : Prop where
  kind : scope.kind = .function
  nocell : ∀ y ∈ scope.names, y.2 ≠ .cell
  locs : ∀ y ∈ scope.names, y.2 = .local → scope.names.lookup y.1 = some .local
  free : ∀ y ∈ scope.names, y.2 = .free → X.env.kindOf y.1 = some .cell ∨ X.env.kindOf y.1 = some .free
  len : ix.length = N'.length
  cap : ∀ (i j : Nat), ix[i]? = some (some j) → ∃ x, N'[i]? = some x ∧ X.N[j]? = some x ∧ scope.names.lookup x = some .free
def capt (ix : List (Option Nat)) (σ : St) : St := ix.map fun o => o.bind fun j => (σ[j]?).join

theorem relabel_free {env : Env} {x : Str} : ∀ {names : List (Str × NameKind)}, names.lookup x = some .free → (names.map fun (n, k) => if (k == NameKind.free && env.scope.kind == .function && env.kindOf n == some .cell) then (n, NameKind.cell) else (n, k)).lookup x = some .cell ∨ (names.map fun (n, k) => if (k == NameKind.free && env.scope.kind == .function && env.kindOf n == some .cell) then (n, NameKind.cell) else (n, k)).lookup x = some .free
  | [], h => by simp at h
  | (n, k) :: r, h => by
    have ih := @relabel_free env x r
    simp only [List.map_cons]
    cases hx : x == n with
    | true =>
      simp only [List.lookup_cons, hx] at h
      cases h
      by_cases hc : (NameKind.free == NameKind.free && env.scope.kind == .function && env.kindOf n == some .cell) = true
      · rw [if_pos hc]; left; simp [List.lookup_cons, hx]
      · rw [if_neg hc]; right; simp [List.lookup_cons, hx]
    | false =>
      simp only [List.lookup_cons, hx] at h
      by_cases hc : (k == NameKind.free && env.scope.kind == .function && env.kindOf n == some .cell) = true
      · rw [if_pos hc]; simp only [List.lookup_cons, hx]; exact ih h
      · rw [if_neg hc]; simp only [List.lookup_cons, hx]; exact ih h
theorem relabel_back {env : Env} {x : Str} : ∀ {names : List (Str × NameKind)}, (∀ y ∈ names, y.2 ≠ .cell) → ((names.map fun (n, k) => if (k == NameKind.free && env.scope.kind == .function && env.kindOf n == some .cell) then (n, NameKind.cell) else (n, k)).lookup x = some .cell ∨ (names.map fun (n, k) => if (k == NameKind.free && env.scope.kind == .function && env.kindOf n == some .cell) then (n, NameKind.cell) else (n, k)).lookup x = some .free) → (x, NameKind.free) ∈ names
  | [], _, h => by simp at h
  | (n, k) :: r, hn, h => by
    have ih := @relabel_back env x r fun y hy => hn y (List.mem_cons_of_mem _ hy)
    simp only [List.map_cons] at h
    cases hx : x == n with
    | true =>
      have e : x = n := by simpa using hx
      subst e
      have hk := hn (x, k) List.mem_cons_self
      by_cases hc : (k == NameKind.free && env.scope.kind == .function && env.kindOf x == some .cell) = true
      · have hf : k = .free := by
          simp only [Bool.and_eq_true, beq_iff_eq] at hc
          exact hc.1.1
        subst hf
        exact List.mem_cons_self
      · rw [if_neg hc] at h
        simp only [List.lookup_cons, hx] at h
        rcases h with h | h
        · exact absurd (Option.some.inj h) hk
        · have hf : k = .free := Option.some.inj h
          subst hf
          exact List.mem_cons_self
    | false =>
      refine List.mem_cons_of_mem _ (ih ?_)
      by_cases hc : (k == NameKind.free && env.scope.kind == .function && env.kindOf n == some .cell) = true
      · rw [if_pos hc] at h; simpa only [List.lookup_cons, hx] using h
      · rw [if_neg hc] at h; simpa only [List.lookup_cons, hx] using h

theorem capt_cell {X : Cx} {pins : List (Addr × Obj)} {σ : St} {H : Hp} {s : Shared} {N' : List Str} {ix : List (Option Nat)} {scope : Scope} {i : Nat} {x : Str} {v : V} (B : BlkOk X N' ix scope) (I : Inv X pins σ H s)
    (h1 : N'[i]? = some x) (h2 : (capt ix σ)[i]? = some (some v)) : ∃ u c, RelV v u ∧ (clOf X.env.cells scope.names []).lookup x = some c ∧ X.env.cells.lookup x = some c ∧ s.heap.IsCell c (some u) ∧
      ((relabel scope X.env).names.lookup x = some .cell ∨ (relabel scope X.env).names.lookup x = some .free) := by
  have clB : ∀ x c, (clOf X.env.cells scope.names []).lookup x = some c → X.env.cells.lookup x = some c := fun x c h => clOf_has scope.names [] (fun _ _ z => by simp at z) h
  obtain ⟨j, hj, hv⟩ : ∃ j, ix[i]? = some (some j) ∧ σ[j]? = some (some v) := by
    unfold capt at h2
    rw [List.getElem?_map] at h2
    cases e : ix[i]? with
    | none => rw [e] at h2; cases h2
    | some o =>
      rw [e] at h2
      cases o with
      | none => cases h2
      | some j =>
        refine ⟨j, rfl, ?_⟩
        have h2' : (σ[j]?).join = some v := Option.some.inj h2
        cases e2 : σ[j]? with
        | none => rw [e2] at h2'; cases h2'
        | some o2 => rw [e2] at h2'; have : o2 = some v := h2'; rw [this]
  obtain ⟨x', hx1, hx2, hx3⟩ := B.cap i j hj
  have exx : x' = x := by
    have h1' : N'[i]? = some x := h1
    rw [hx1] at h1'; exact Option.some.inj h1'
  subst exx
  have hmem := PySem.mem_of_lookup hx3
  have hout := B.free _ hmem rfl
  obtain ⟨m0, _, hl⟩ := I.loc
  obtain ⟨u, r, l⟩ := hl j x' v hx2 hv (by
    rcases hout with e | e
    · exact .inr (.inl e)
    · exact .inr (.inr e))
  rcases l with ⟨k, _⟩ | ⟨k, c, e, z⟩
  · rcases hout with e | e
    · rw [e] at k; cases k
    · rw [e] at k; cases k
  · obtain ⟨c', hc'⟩ := clOf_get scope.names [] hmem (I.ok.has x' hout)
    have := clB x' c' hc'
    rw [e] at this; cases this
    exact ⟨u, c, r, hc', e, z, relabel_free hx3⟩

theorem inv_block {X : Cx} {pins : List (Addr × Obj)} {σ : St} {H : Hp} {s s4 : Shared} {N' : List Str} {ix : List (Option Nat)} {scope : Scope} {C : Addr} {fp : List Addr} {xe : Value → Shared → Prop} {m : Str → Option Value}
    (B : BlkOk X N' ix scope) (I : Inv X pins σ H s) (hf : ∀ b ∈ fp, FpOk X pins H b) (hC : s.heap.objs.size ≤ C) (hfs : ∀ b ∈ fp, b < s.heap.objs.size)
    (ho : s4.os = s.os) (hg : s4.gens = s.gens) (hk : ∀ b o, s.heap.get? b = some o → s4.heap.get? b = some o) (hns : s4.heap.Ns C m) :
    Inv (cxComp X N' scope C s H fp xe) pins (capt ix σ) H s4 := by
  have clB : ∀ x c, (clOf X.env.cells scope.names []).lookup x = some c → X.env.cells.lookup x = some c := fun x c h => clOf_has scope.names [] (fun _ _ z => by simp at z) h
  have hfree : H C = none := I.hok.fresh hC
  have neC : ∀ b o, s.heap.get? b = some o → b ≠ C := fun b o e => Nat.ne_of_lt (Nat.lt_of_lt_of_le (Heap.lt_size e) hC)
  refine ⟨⟨I.ok.mod, B.kind, I.ok.glob, I.ok.blt, hC, fun x y c h1 h2 => I.ok.inj x y c (clB x c h1) (clB y c h2), fun x hx => ?_, fun x c h => absurd (show false = true from h) Bool.false_ne_true, I.ok.hd, I.ok.frames, .inl rfl, fun b hb => ⟨?_, fun x c e => ?_⟩, I.bs, ?_, fun b o e hb => ?_, fun b hb z => ?_, I.stack, I.stkFree⟩,
    ho, ?_, Un.kept hk, ⟨m, hns, fun i x v h1 h2 h3 => ?_⟩, fun x c e => ?_, hfree, fun x c e => I.freeC x c (clB x c e), fun p hp => ?_, I.hok.kept hk, ?_⟩
  · have hx' := relabel_back (env := X.env) (x := x) B.nocell hx
    exact clOf_get scope.names [] hx' (I.ok.has x (B.free _ hx' rfl))
  · exact Nat.ne_of_lt (Nat.lt_of_lt_of_le (hfs b hb) hC)
  · exact (hf b hb).2.2.2.2.1 x c (clB x c e)
  · exact Nat.le_trans I.ok.bsz I.sz
  · obtain ⟨_, _, _, q, _⟩ := hf b hb
    rcases q with q | q
    · exact I.ok.noex b o e q
    · exact absurd (Nat.lt_of_lt_of_le (Heap.lt_size (I.ok.bs b o e).1) q) (Nat.lt_irrefl _)
  · obtain ⟨_, q1, q2, _⟩ := hf b hb
    rcases List.mem_cons.mp (I.stkSub b z) with e | e
    · exact q1 e
    · exact q2 e
  · rw [hg]; exact I.bare
  · obtain ⟨u, c, r, hc1, _, ⟨oc, z1, z2⟩, hk'⟩ := capt_cell B I h1 h2
    exact ⟨u, r, .inr ⟨hk', c, hc1, oc, hk _ _ z1, z2⟩⟩
  · obtain ⟨v, oc, h1, h2⟩ := I.cell x c (clB x c e)
    exact ⟨v, oc, hk _ _ h1, h2⟩
  · obtain ⟨e, n, ne, nf, d⟩ := I.pin p hp
    refine ⟨hk _ _ e, n, neC _ _ e, fun z => ?_, d⟩
    rcases List.mem_cons.mp (I.stkSub p.1 z) with e' | e'
    · exact ne e'
    · exact nf e'
  · show (ix.map _).length = N'.length
    rw [List.length_map]; exact B.len
end L2

namespace L2
open PySem PySem.Spec PyProof.Rows

theorem compLoop_go {prog : Program} {w : World} {A : Around} {R : Result → Shared → Prop} {s : Shared} {elt target iter : Expr} {ifs : List Expr} {scope : Scope} {pos : Pos} {it acc : Value} {env : Env} (Iv : Nat → Shared → Prop)
    (turn : ∀ n s, Iv n s → wpAny (model prog w) A (pyNext it) (fun r s₁ => match r with
      | none => R (.ok .next) s₁
      | some v => wpAny (model prog w) A (letOwnedTupleGo target it v) (fun _ s₁' => wpAny (model prog w) A (assign target env v) (fun _ s₂ =>
          wpAny (model prog w) A (forIn ifs true fun c r => if r = true then do let ok ← isTrue c env (eval c env); pure (ForInStep.yield ok) else pure (ForInStep.yield r)) (fun ok s₃ =>
            if ok = true then wpAny (model prog w) A (eval elt env) (fun x s₄ =>
              wpAny (model prog w) A (call (.builtin "list.append") [acc, x]) (fun _ s₅ => ∃ m, m < n ∧ Iv m s₅) (notedBy (model prog w) A env fun e s' => R (.error e) s') s₄) (notedBy (model prog w) A env fun e s' => R (.error e) s') s₃
            else ∃ m, m < n ∧ Iv m s₃) (notedBy (model prog w) A env fun e s' => R (.error e) s') s₂) (notedBy (model prog w) A env fun e s' => R (.error e) s') s₁') (notedBy (model prog w) A env fun e s' => R (.error e) s') s₁) (notedBy (model prog w) A env fun e s' => R (.error e) s') s)
    (n : Nat) (h : Iv n s) :
    codeAny (model prog w) A (.compLoop (.ListComp elt [⟨target, iter, ifs, 0⟩] scope pos) 0 it acc env) R s := by
  refine codeAny_loop rfl Iv (fun n s hI => ?_) n h
  show wpAny _ A ((compTurn (.ListComp elt [⟨target, iter, ifs, 0⟩] scope pos) 0 it acc env).onRaise (fun x => do noteFrame x env; theTreesLotGoes x)) _ _ s
  refine wpAny_noted ?_
  rw [compTurn_list]
  refine wpAny_bind (wpAny_standAt (wpAny_bind (wpAny_mono (turn n s hI) (fun r s₁ h₁ => ?_) fun _ _ h' => h')))
  cases r with
  | none => exact wpAny_pure h₁
  | some v =>
    refine wpAny_bind (wpAny_mono h₁ (fun _ s₁' h₁' => ?_) fun _ _ h' => h')
    refine wpAny_bind (wpAny_mono h₁' (fun _ s₂ h₂ => wpAny_bind (wpAny_mono h₂ (fun ok s₃ h₃ => ?_) fun _ _ h' => h')) fun _ _ h' => h')
    cases ok with
    | false => exact wpAny_pure ⟨rfl, h₃⟩
    | true =>
      exact wpAny_bind (wpAny_bind (wpAny_mono h₃ (fun x s₄ h₄ => wpAny_bind (wpAny_mono h₄ (fun _ s₅ h₅ => wpAny_pure (wpAny_pure ⟨rfl, h₅⟩)) fun _ _ h' => h')) fun _ _ h' => h'))

/-- the tests of a comprehension's clause -/
def PTs (X : Cx) (ifs : List Expr) (t : TT) : Prop :=
  ∀ (pins : List (Addr × Obj)) (s : Shared) (σ : St) (H : Hp) (Q : Bool → Hp → Prop), Inv X pins σ H s → t σ H Q →
    wpAny (model X.prog X.w) X.A (forIn ifs true fun c r => if r = true then do let ok ← isTrue c X.env (eval c X.env); pure (ForInStep.yield ok) else pure (ForInStep.yield r)) (TP X pins σ Q) X.xe s
def tTrue : TT := fun _ H Q => Q true H
theorem pts_nil {X : Cx} : PTs X [] tTrue := fun _ _ _ H _ I h => wpAny_tests_nil ⟨H, I, h⟩
theorem pts_one {X : Cx} {c : Expr} {t : TT} (h : PT X c t) : PTs X [c] t := fun pins s σ H Q I hw => wpAny_tests_one (h pins s σ H Q I hw)

/-- the turns of a comprehension's block -/
def LcGoal (ix : List (Option Nat)) (g : TG) (tt : TT) (te : TE) (σ : St) (H1 : Hp) (Q : VK) (J : It) : Prop := ∃ W : Nat → Nat → List V → Hp → Prop, (∃ m, W 0 m [] H1) ∧ ∀ i m ys H, W i m ys H →
  (J.stop i H ∧ ys.length ≤ sizeLine ∧ ∀ p, H p = none → Q (.ref p) (upd H p (.lst ys))) ∨
  (J.go i H ∧ ys.length ≤ sizeLine ∧ ∃ N : List V → Hp → Prop, (∀ ys' H', N ys' H' → ∃ m', m' < m ∧ W (i + 1) m' ys' H') ∧ ∀ x H', J.yld i H x H' → g x (capt ix σ) H' fun σ2 H2 => tt σ2 H2 fun b H3 => if b = true then te σ2 H3 fun v H4 => N (ys ++ [v]) H4 else N ys H3)
def tLC (ix : List (Option Nat)) (wi : TI) (g : TG) (tt : TT) (te : TE) : TE := fun σ H Q => wi σ H fun J H1 => LcGoal ix g tt te σ H1 Q J

section
variable {X : Cx} {elt tg iter : Expr} {ifs : List Expr} {scope : Scope} {pos : Pos} {N' : List Str} {ix : List (Option Nat)} {wi : TI} {g : TG} {tt : TT} {te : TE}

/-- the loop's end, by what is wanted -/
theorem lc_run (B : BlkOk X N' ix scope) (hc : X.calm = true)
    (hg : ∀ C s H fp xe, PG (cxComp X N' scope C s H fp xe) tg g) (ht : ∀ C s H fp xe, PTs (cxComp X N' scope C s H fp xe) ifs tt) (he : ∀ C s H fp xe, PE (cxComp X N' scope C s H fp xe) elt te)
    {pins : List (Addr × Obj)} {s2 : Shared} {σ : St} {H2 : Hp} {Q : VK} {it : Addr} {fp : List Addr} {tn : Nat → Heap → Prop} {J : It} {RR : Value → Addr → Result → Shared → Prop} {E : Value → Shared → Prop}
    (I2 : Inv X pins σ H2 s2) (T : Turn X.prog X.w X.K tg J fp it tn) (st2 : tn 0 s2.heap) (f2 : ∀ b ∈ fp, FpOk X pins H2 b)
    (q : ∃ W : Nat → Nat → List V → Hp → Prop, (∃ m, W 0 m [] H2) ∧ ∀ i m ys H, W i m ys H →
      (J.stop i H ∧ ys.length ≤ sizeLine ∧ ∀ p, H p = none → Q (.ref p) (upd H p (.lst ys))) ∨
      (J.go i H ∧ ys.length ≤ sizeLine ∧ ∃ N : List V → Hp → Prop, (∀ ys' H', N ys' H' → ∃ m', m' < m ∧ W (i + 1) m' ys' H') ∧ ∀ x H', J.yld i H x H' → g x (capt ix σ) H' fun σ2 H2 => tt σ2 H2 fun b H3 => if b = true then te σ2 H3 fun v H4 => N (ys ++ [v]) H4 else N ys H3))
    (hRR : ∀ D C s' H' ys, Inv X pins σ (upd H' D (.lst ys)) s' → H' D = none → Q (.ref D) (upd H' D (.lst ys)) → (∃ m, s'.heap.Ns C m) → upd H' D (.lst ys) C = none → C ≠ X.env.locals → X.s₀.heap.objs.size ≤ C → (∀ x c, X.env.cells.lookup x = some c → c ≠ C) → (∀ p ∈ X.pn ++ pins, p.1 ≠ C) → RR (.ref D) C (.ok .next) s') :
    wpAny (model X.prog X.w) X.A (newList []) (fun acc s₃ => wpAny (model X.prog X.w) X.A (newFunctionEnv scope X.env.globals (clOf X.env.cells scope.names []) [] X.env.qual none .none (some X.env)) (fun cenv s₄ =>
      codeAny (model X.prog X.w) X.A (.compStart (.ListComp elt [⟨tg, iter, ifs, 0⟩] scope pos) 0 (.ref it) acc { cenv with scope := relabel scope X.env }) (RR acc cenv.locals) s₄) E s₃) E s2 := by
  have hfs : ∀ b ∈ fp, b < s2.heap.objs.size := fun b hb => by
    obtain ⟨o, e, _⟩ := T.obj _ _ st2 b hb
    exact Heap.lt_size e
  refine wpAny_newObj_type (wpAny_newFunctionEnv B.nocell (by intro y hy; simp at hy) (fun h₁ hns₁ hsb₁ => ?_) B.kind)
  dsimp only at hns₁ hsb₁ ⊢
  generalize hH3 : s2.heap.push { cls := .type "list", dict := none, data := .seq ([] : List Value).toArray } = H3 at hns₁ hsb₁ ⊢
  have hC : H3.objs.size = s2.heap.objs.size + 1 := by rw [← hH3, Heap.size_push]
  have hDC : s2.heap.objs.size ≠ H3.objs.size := by rw [hC]; exact Nat.ne_of_lt (Nat.lt_succ_self _)
  have below : ∀ b, b < s2.heap.objs.size → b ≠ H3.objs.size ∧ b ≠ s2.heap.objs.size := fun b hb => ⟨by rw [hC]; exact Nat.ne_of_lt (Nat.lt_succ_of_lt hb), Nat.ne_of_lt hb⟩
  have old : ∀ b o, s2.heap.get? b = some o → h₁.get? b = some o := fun b o e => hsb₁.extBut b o (below b (Heap.lt_size e)).1 (Heap.get?_push_of_some _ (hH3 ▸ Heap.get?_push_of_some _ e))
  have hacc : h₁.get? s2.heap.objs.size = some { cls := .type "list", data := .seq ([] : List Value).toArray 0 } := hsb₁.extBut _ _ hDC (Heap.get?_push_of_some _ (hH3 ▸ Heap.get?_push_size _ rfl))
  have hCle : s2.heap.objs.size ≤ H3.objs.size := by rw [hC]; exact Nat.le_succ _
  generalize hD : s2.heap.objs.size = D at *
  generalize hCC : H3.objs.size = C at *
  obtain ⟨W, ⟨m0, w0⟩, turn⟩ := q
  let xe : Value → Shared → Prop := notedBy (model X.prog X.w) X.A (compEnvC scope (clOf X.env.cells scope.names []) C X.env) fun e s' => RR (.ref D) C (.error e) s'
  let X' : Cx := cxComp X N' scope C s2 H2 fp xe
  have DL : D ∉ frs X.stack := fun z => by
    rcases List.mem_cons.mp (I2.stkSub D z) with e | e
    · exact absurd I2.lt (by rw [← e, hD]; exact Nat.lt_irrefl _)
    · exact I2.nofs (by rw [hD]; exact Nat.le_refl _) e
  have cellLt : ∀ x c, X.env.cells.lookup x = some c → c < D := fun x c e => by
    obtain ⟨v, oc, h, _⟩ := I2.cell x c e
    rw [← hD]; exact Heap.lt_size h
  have clB : ∀ x c, (clOf X.env.cells scope.names []).lookup x = some c → X.env.cells.lookup x = some c := fun x c h => clOf_has scope.names [] (fun _ _ z => by simp at z) h
  have pinLt : ∀ p ∈ X.pn ++ pins, p.1 < D := fun p hp => by rw [← hD]; exact Heap.lt_size (I2.pin p hp).1
  have fpX : ∀ {pl : List (Addr × Obj)} {H' : Hp}, (∀ b ∈ fp, H' b = none) → (∀ p ∈ pl, p ∈ pins ∨ p.1 = D) → ∀ b ∈ fp, FpOk X' pl H' b := fun {pl H'} hn hpl b hb => by
    obtain ⟨_, q1, q2, q3, q4, q5⟩ := f2 b hb
    refine ⟨hn b hb, (below b (hfs b hb)).1, fun z => ?_, .inl hb, fun x c e => q4 x c (clB x c e), fun p hp => ?_⟩
    · rcases List.mem_cons.mp (I2.stkSub b z) with e | e
      · exact q1 e
      · exact q2 e
    · rcases List.mem_append.mp hp with hp | hp
      · exact q5 p (List.mem_append_left _ hp)
      · rcases hpl p hp with z | z
        · exact q5 p (List.mem_append_right _ z)
        · rw [z]; exact Ne.symm (below b (hfs b hb)).2
  have loop : ∀ s₃ : Shared, s₃ = { s2 with heap := h₁, toks := s2.toks + ([] : List (Str × Value)).length } →
      codeAny (model X.prog X.w) X.A (.compLoop (.ListComp elt [⟨tg, iter, ifs, 0⟩] scope pos) 0 (.ref it) (.ref D) (compEnvC scope (clOf X.env.cells scope.names []) C X.env)) (RR (.ref D) C) s₃ := by
    rintro s₃ rfl
    refine compLoop_go (fun n s' => ∃ i H' ys its k, Inv X' pins (capt ix σ) H' s' ∧ tn i s'.heap ∧ (∀ b ∈ fp, H' b = none) ∧ H' D = none ∧ s'.heap.get? D = some { cls := .type "list", data := .seq (List.toArray its) k } ∧ Vals ys its ∧ W i n ys H') ?_ m0
      ⟨0, H2, [], [], 0, inv_block B I2 f2 (by rw [hD]; exact hCle) (fun b hb => by rw [hD]; exact hfs b hb) rfl rfl old hns₁, T.keep _ _ _ st2 fun b _ o e => old b o e, fun b hb => (f2 b hb).1, I2.hok.fresh (by rw [hD]; exact Nat.le_refl _), hacc, .nil, w0⟩
    rintro n s' ⟨i, H', ys, its, k, I', st', fr', hDn, hDo, rv, w'⟩
    have hDX : ∀ v, ({ cls := .type "list", data := .seq (List.toArray its) k } : Obj).data ≠ .cell v := fun v z => by
      have z' : Data.seq (List.toArray its) k = Data.cell v := z
      cases z'
    have pinD : ∀ {σ' : St} {H'' : Hp} {s'' : Shared} {its' : List Value} {k' : Nat}, Inv X' pins σ' H'' s'' → H'' D = none → s''.heap.get? D = some { cls := .type "list", data := .seq (List.toArray its') k' } → Inv X' (pins ++ [(D, { cls := .type "list", data := .seq (List.toArray its') k' })]) σ' H'' s'' := fun {σ' H'' s'' its' k'} J hn ho =>
      J.pins_of fun p hp => (List.mem_append.mp hp).elim (fun z => J.pin p (List.mem_append_right _ z)) fun z => by
        have e : p = (D, { cls := .type "list", data := .seq (List.toArray its') k' }) := by simpa using z
        subst e
        exact ⟨ho, hn, hDC, DL, fun v z => by
          have z' : Data.seq (List.toArray its') k' = Data.cell v := z
          cases z'⟩
    have plD : ∀ {its' : List Value} {k' : Nat}, ∀ p ∈ pins ++ [(D, ({ cls := .type "list", data := .seq (List.toArray its') k' } : Obj))], p ∈ pins ∨ p.1 = D := fun {its' k'} p hp => (List.mem_append.mp hp).elim .inl fun z => by
      have e : p = (D, { cls := .type "list", data := .seq (List.toArray its') k' }) := by simpa using z
      subst e
      exact .inr rfl
    have unD : ∀ {pl : List (Addr × Obj)} {σ' : St} {H'' : Hp} {s'' : Shared}, Inv X' (pins ++ pl) σ' H'' s'' → Inv X' pins σ' H'' s'' := fun J => J.pins_of fun p hp => J.pin p (List.mem_append_right _ (List.mem_append_left _ hp))
    have I'p := pinD I' hDn hDo
    rcases turn i n ys H' w' with ⟨stop, hsz, fin⟩ | ⟨go, hsz, N, hN, step⟩
    · refine wpAny_mono (T.done X' rfl rfl rfl hc i _ s' (capt ix σ) H' X'.xe I'p (fpX fr' plD) st' stop) (fun r s5 ⟨hr, I5⟩ => ?_) fun _ _ z => z
      subst hr
      have hDo5 : s5.heap.get? D = some { cls := .type "list", data := .seq (List.toArray its) k } := (I5.pin (D, _) (List.mem_append_right _ (List.mem_append_right _ (List.mem_singleton.mpr rfl)))).1
      have sz0 : X.s₀.heap.objs.size ≤ D := by rw [← hD]; exact I2.sz
      have J : Inv X pins σ H' s5 := I2.call' (ch := fp) I5.os I5.base I5.hok I5.bare fun b hb => by
        obtain ⟨_, q1, _, q3, q4, q5⟩ := f2 b hb
        exact ⟨q3, q1, q4, q5⟩
      have nL : X.env.locals < D := by rw [← hD]; exact I2.lt
      have J2 : Inv X pins σ (upd H' D (.lst ys)) s5 := Inv.track J hDn sz0 (Nat.ne_of_gt nL) (fun x c e => Nat.ne_of_lt (cellLt x c e)) (fun p hp => Nat.ne_of_lt (pinLt p hp)) ⟨hsz, its, k, rv, hDo5⟩
      obtain ⟨mC, hnC, _⟩ := I5.loc
      have DltC : D < C := Nat.lt_of_le_of_ne hCle hDC
      refine hRR D C s5 H' ys J2 hDn (fin D hDn) ⟨mC, hnC⟩ ?_ (Nat.ne_of_gt (Nat.lt_trans nL DltC)) (Nat.le_trans sz0 hCle) (fun x c e => Nat.ne_of_lt (Nat.lt_trans (cellLt x c e) DltC)) fun p hp => Nat.ne_of_lt (Nat.lt_trans (pinLt p hp) DltC)
      rw [upd_ne (Ne.symm hDC)]
      exact I5.free
    · refine wpAny_mono (T.item X' rfl rfl rfl hc i _ s' (capt ix σ) H' X'.xe I'p (fpX fr' plD) st' go) (fun r s5 ⟨u, hr, h5⟩ => ?_) fun _ _ z => z
      subst hr
      refine wpAny_mono h5 (fun _ s6 ⟨x, H6, I6, r6, y6, st6, fr6⟩ => ?_) fun _ _ z => z
      have I6' := I6.pinned (fpX fr6 plD) (T.obj _ _ st6)
      refine wpAny_mono (hg C s2 H2 fp xe _ s6 (capt ix σ) H6 x u _ I6' r6 (step x H6 y6)) (fun _ s7 ⟨σ7, H7, I7, q7⟩ => ?_) fun _ _ z => z
      have after : ∀ {σ8 : St} {H8 : Hp} {s8 : Shared}, Inv X' ((pins ++ [(D, { cls := .type "list", data := .seq (List.toArray its) k })]) ++ pinsAt fp s6.heap) σ8 H8 s8 →
          Inv X' pins (capt ix σ) H8 s8 ∧ tn (i + 1) s8.heap ∧ (∀ b ∈ fp, H8 b = none) ∧ H8 D = none ∧ s8.heap.get? D = some { cls := .type "list", data := .seq (List.toArray its) k } := fun {σ8 H8 s8} I8 => by
        have pD := I8.pin (D, { cls := .type "list", data := .seq (List.toArray its) k }) (List.mem_append_right _ (List.mem_append_left _ (List.mem_append_right _ (List.mem_singleton.mpr rfl))))
        have fpP : ∀ b ∈ fp, ∀ o, s6.heap.get? b = some o → s8.heap.get? b = some o ∧ H8 b = none := fun b hb o e => by
          have z := I8.pin (b, o) (List.mem_append_right _ (List.mem_append_right _ (mem_pinsAt hb e)))
          exact ⟨z.1, z.2.1⟩
        refine ⟨⟨I8.ok, I8.os, I8.bare, I8.base, ?_, I8.cell, I8.free, I8.freeC, fun p hp => ?_, I8.hok, ?_⟩, T.keep _ _ _ st6 fun b hb o e => (fpP b hb o e).1, fun b hb => ?_, pD.2.1, pD.1⟩
        · obtain ⟨m8, hn8, _⟩ := I8.loc
          refine ⟨m8, hn8, fun i x v h1 h2 h3 => ?_⟩
          obtain ⟨u, c, r, hc1, hc2, ⟨oc, z1, z2⟩, hk'⟩ := capt_cell B I2 h1 h2
          obtain ⟨sl, e8⟩ := I8.base.any z1 (I2.freeC x c hc2) fun z => (f2 c z).2.2.2.2.1 x c hc2 rfl
          exact ⟨u, r, .inr ⟨hk', c, hc1, _, e8, z2⟩⟩
        · rcases List.mem_append.mp hp with hp | hp
          · exact I8.pin p (List.mem_append_left _ hp)
          · exact I8.pin p (List.mem_append_right _ (List.mem_append_left _ (List.mem_append_left _ hp)))
        · show (capt ix σ).length = N'.length
          unfold capt
          rw [List.length_map]; exact B.len
        · obtain ⟨o, e, _⟩ := T.obj _ _ st6 b hb
          exact (fpP b hb o e).2
      refine wpAny_mono (ht C s2 H2 fp xe _ s7 σ7 H7 _ I7 q7) (fun b s8 ⟨H8, I8, q8⟩ => ?_) fun _ _ z => z
      cases b with
      | false =>
        rw [if_neg Bool.false_ne_true] at q8 ⊢
        obtain ⟨m', hm, w8⟩ := hN _ _ q8
        obtain ⟨J, tn8, f8, d8, o8⟩ := after I8
        exact ⟨m', hm, i + 1, H8, ys, its, k, J, tn8, f8, d8, o8, rv, w8⟩
      | true =>
        rw [if_pos rfl] at q8 ⊢
        refine wpAny_mono (he C s2 H2 fp xe _ s8 σ7 H8 _ I8 q8) (fun v s9 ⟨y, H9, I9, r9, q9⟩ => ?_) fun _ _ z => z
        obtain ⟨J, tn9, f9, d9, o9⟩ := after I9
        obtain ⟨m', hm, w9⟩ := hN _ _ q9
        refine append_at (hsz := by rw [List.size_toArray, ← rv.length]; exact hsz) o9 fun h10 hs10 hD10 => ?_
        refine ⟨m', hm, i + 1, H9, ys ++ [y], its ++ [v], k + 1, ?_, T.keep _ _ _ tn9 fun b hb o e => hs10.extBut b o (fun z => ?_) e, f9, d9, by rw [List.push_toArray] at hD10; exact hD10, rv.append (.cons r9 .nil), w9⟩
        · refine J.turned (t' := s9.toks) (it := D) (fun b o hb e => hs10.extBut b o hb e) d9 hDC (.inr (by show s2.heap.objs.size ≤ D; rw [hD]; exact Nat.le_refl _)) (fun x c e => Nat.ne_of_lt (cellLt x c (clB x c e))) fun p hp => Nat.ne_of_lt (pinLt p hp)
        · exact (below b (hfs b hb)).2 z
  exact codeAny_compStart_list (loop _ rfl) (T.self X.A 0 _ _ _ (T.keep _ _ _ st2 fun b _ o e => old b o e) (loop _ rfl))
end
end L2

namespace L2
open PySem PySem.Spec PyProof.Rows

/-- the block's names, checked -/
def blkCheck (outer : Scope) (N N' : List Str) (ix : List (Option Nat)) (scope : Scope) : Bool :=
  (scope.kind == .function) && (scope.names.all fun y => y.2 != .cell) && (scope.names.all fun y => y.2 != .local || scope.names.lookup y.1 == some .local) &&
  (scope.names.all fun y => y.2 != .free || outer.names.lookup y.1 == some .cell || outer.names.lookup y.1 == some .free) && (ix.length == N'.length) &&
  (List.range ix.length).all fun i => match ix[i]? with
    | some (some j) => (match N'[i]? with | some x => N[j]? == some x && scope.names.lookup x == some .free | none => false)
    | _ => true
theorem blk_of {X : Cx} {N' : List Str} {ix : List (Option Nat)} {scope : Scope} (h : blkCheck X.env.scope X.N N' ix scope = true) : BlkOk X N' ix scope := by
  unfold blkCheck at h
  simp only [Bool.and_eq_true] at h
  obtain ⟨⟨⟨⟨⟨h1, h2⟩, h3⟩, h4⟩, h5⟩, h6⟩ := h
  refine ⟨?_, fun y hy => ?_, fun y hy hl => ?_, fun y hy hl => ?_, by simpa using h5, fun i j e => ?_⟩
  · simpa using h1
  · have := List.all_eq_true.mp h2 y hy
    simpa using this
  · have := List.all_eq_true.mp h3 y hy
    rw [hl] at this
    simpa using this
  · have := List.all_eq_true.mp h4 y hy
    rw [hl] at this
    simp at this
    exact this
  · have hi : i < ix.length := (List.getElem?_eq_some_iff.mp e).1
    have := List.all_eq_true.mp h6 i (List.mem_range.mpr hi)
    rw [e] at this
    simp only at this
    cases q : N'[i]? with
    | none => rw [q] at this; simp at this
    | some x =>
      rw [q] at this
      simp at this
      exact ⟨x, rfl, this.1, this.2⟩

section
variable {X : Cx} {elt tg iter : Expr} {ifs : List Expr} {scope : Scope} {pos : Pos} {N' : List Str} {ix : List (Option Nat)} {wi : TI} {g : TG} {tt : TT} {te : TE}
theorem pe_lc (N' : List Str) (ix : List (Option Nat)) (hB : blkCheck X.env.scope X.N N' ix scope = true) (hc : X.calm = true) (hi : PI X tg iter wi)
    (hg : ∀ C s H fp xe, PG (cxComp X N' scope C s H fp xe) tg g) (ht : ∀ C s H fp xe, PTs (cxComp X N' scope C s H fp xe) ifs tt) (he : ∀ C s H fp xe, PE (cxComp X N' scope C s H fp xe) elt te)
    (hs : ∀ x, foldedSetIterable iter X.env x = pure x := by intro _; rfl) : PE X (.ListComp elt [⟨tg, iter, ifs, 0⟩] scope pos) (tLC ix wi g tt te) := by
  intro pins s σ H Q I h
  have B := blk_of hB
  rw [eval_ListComp]
  refine wpAny_comprehension_free (use := none) rfl hs (closure_is fun y hy hf => I.ok.has y.1 (B.free y hy hf)) B.kind B.locs (thn (hi pins s σ H _ I h) fun v s1 h1 => thn h1 fun itv s2 h2 => ?_)
  obtain ⟨it, fp, tn, J, H2, e, I2, T, st2, f2, q⟩ := h2
  subst e
  refine lc_run B hc hg ht he I2 T st2 f2 q ?_
  intro D C s' H' ys J2 hDn hq ⟨m, hn⟩ hC1 hC2 hC3 hC4 hC5
  refine ⟨m, hn, fun h' hs' => ?_⟩
  exact ⟨.ref D, _, J2.turned (t' := s'.toks) (it := C) (fun b o hb e => hs'.extBut b o hb e) hC1 hC2 (.inr hC3) hC4 hC5, rfl, hq⟩
/-- name = [..]: the stores are exchanged -/
theorem ps_setLC {i : Nat} {x : Str} {pos' spos : Pos} (N' : List Str) (ix : List (Option Nat)) (hN : X.N.Nodup) (hi' : X.N[i]? = some x) (hx : X.env.scope.names.lookup x = some .local)
    (hB : blkCheck X.env.scope X.N N' ix scope = true) (hc : X.calm = true) (hi : PI X tg iter wi)
    (hg : ∀ C s H fp xe, PG (cxComp X N' scope C s H fp xe) tg g) (ht : ∀ C s H fp xe, PTs (cxComp X N' scope C s H fp xe) ifs tt) (he : ∀ C s H fp xe, PE (cxComp X N' scope C s H fp xe) elt te)
    (hsw : swapsWith (.ListComp elt [⟨tg, iter, ifs, 0⟩] scope pos) (some (.Name x pos')) spos.line X.env = pure true)
    (hs : ∀ x, foldedSetIterable iter X.env x = pure x := by intro _; rfl) : PS X (.Assign [.Name x pos'] (.ListComp elt [⟨tg, iter, ifs, 0⟩] scope pos) spos) (tAsg (tLC ix wi g tt te) (gName i)) := by
  intro pins s σ H D0 I h
  have B := blk_of hB
  rw [exec_Assign_Name_used _ _ _ _ hsw]
  refine wpAny_bind (wpAny_standAt (wpAny_bind ?_))
  show wpAny _ X.A (do let _ ← comprehension (.ListComp elt [⟨tg, iter, ifs, 0⟩] scope pos) scope X.env _ (newList []) false (eval iter X.env) (some (assign (.Name x pos') X.env))) _ _ s
  refine wpAny_bind (wpAny_mono (wpAny_comprehension_free (use := some (assign (.Name x pos') X.env)) (Q := fun _ s' => SP X pins D0 .next s') rfl hs (closure_is fun y hy hf => I.ok.has y.1 (B.free y hy hf)) B.kind B.locs
    (thn (hi pins s σ H _ I h) fun v s1 h1 => thn h1 fun itv s2 h2 => ?_)) (fun _ s' hq => wpAny_pure (wpAny_pure hq)) fun _ _ e => e)
  obtain ⟨it, fp, tn, J, H2, e, I2, T, st2, f2, q⟩ := h2
  subst e
  refine lc_run (Q := fun x H1 => gName i x σ H1 D0.nx) B hc hg ht he I2 T st2 f2 q ?_
  intro D C s' H' ys J2 hDn hq ⟨m, hn⟩ hC1 hC2 hC3 hC4 hC5
  show wpAny _ X.A (assign (.Name x pos') X.env (.ref D)) _ _ _
  refine wpAny_assign_Name (store_ok2 (v := .ref D) J2 hN hi' (.inl hx) rfl (fun s'' I'' hsb => ?_) (.inr hx))
  obtain ⟨a, hsb, ha⟩ := hsb
  have aC : C ≠ a := by
    rcases ha with rfl | ha
    · exact hC2
    · exact fun z => hC4 x a ha z.symm
  refine ⟨m, hn.sameBut hsb aC, fun h'' hs'' => ?_⟩
  exact ⟨_, _, I''.turned (t' := s''.toks) (it := C) (fun b o hb e => hs''.extBut b o hb e) hC1 hC2 (.inr hC3) hC4 hC5, hq⟩
end

/-! ### the forms one uses: over a list that the block leaves as it is; over a range -/
section
variable {K : PySem.W.Frag} {a : Addr} {xs : List V} {ix : List (Option Nat)} {g : TG} {tt : TT} {te : TE} {σ : St} {H1 : Hp} {Q : VK}
theorem lc_list (Pv : Nat → List V → Hp → Prop) (h0 : Pv 0 [] H1) (hl : ∀ i ys H, i ≤ xs.length → Pv i ys H → SqL K H a xs ∧ ys.length ≤ sizeLine)
    (hs : ∀ i x ys H, xs[i]? = some x → Pv i ys H → g x (capt ix σ) H fun σ2 H2 => tt σ2 H2 fun b H3 => if b = true then te σ2 H3 fun v H4 => Pv (i + 1) (ys ++ [v]) H4 else Pv (i + 1) ys H3)
    (hd : ∀ ys H, Pv xs.length ys H → ∀ p, H p = none → Q (.ref p) (upd H p (.lst ys))) : LcGoal ix g tt te σ H1 Q (Itl K a) := by
  refine ⟨fun i m ys H => m = xs.length - i ∧ i ≤ xs.length ∧ Pv i ys H, ⟨xs.length, by simp, Nat.zero_le _, h0⟩, ?_⟩
  rintro i m ys H ⟨rfl, hi, p⟩
  obtain ⟨q, z⟩ := hl i ys H hi p
  by_cases hlt : i < xs.length
  · refine .inr ⟨⟨xs, xs[i], q, by simp [hlt]⟩, z, Pv (i + 1), fun ys' H' p' => ⟨xs.length - (i + 1), by omega, rfl, hlt, p'⟩, fun x H' y => ?_⟩
    obtain ⟨e, y⟩ := y
    subst e
    exact hs i x ys _ (y xs q) p
  · have e : i = xs.length := by omega
    subst e
    exact .inl ⟨⟨xs, q, Nat.le_refl _⟩, z, hd ys H p⟩
theorem lc_range {lo : Int} {n : Nat} (Pv : Nat → List V → Hp → Prop) (h0 : Pv 0 [] H1) (hl : ∀ i ys H, i ≤ n → Pv i ys H → ys.length ≤ sizeLine)
    (hs : ∀ i ys H, i < n → Pv i ys H → g (.int (lo + i)) (capt ix σ) H fun σ2 H2 => tt σ2 H2 fun b H3 => if b = true then te σ2 H3 fun v H4 => Pv (i + 1) (ys ++ [v]) H4 else Pv (i + 1) ys H3)
    (hd : ∀ ys H, Pv n ys H → ∀ p, H p = none → Q (.ref p) (upd H p (.lst ys))) : LcGoal ix g tt te σ H1 Q (Itr lo n) := by
  refine ⟨fun i m ys H => m = n - i ∧ i ≤ n ∧ Pv i ys H, ⟨n, by simp, Nat.zero_le _, h0⟩, ?_⟩
  rintro i m ys H ⟨rfl, hi, p⟩
  have z := hl i ys H hi p
  by_cases hlt : i < n
  · refine .inr ⟨hlt, z, Pv (i + 1), fun ys' H' p' => ⟨n - (i + 1), by omega, rfl, hlt, p'⟩, fun x H' y => ?_⟩
    obtain ⟨e, y⟩ := y
    subst e y
    exact hs i ys _ hlt p
  · have e : i = n := by omega
    subst e
    exact .inl ⟨Nat.le_refl _, z, hd ys H p⟩
end
/-- by a function of the item: nothing that was tracked is changed -/
theorem lc_fm {K : PySem.W.Frag} {a : Addr} {xs : List V} {ix : List (Option Nat)} {g : TG} {tt : TT} {te : TE} {σ : St} {H1 : Hp} {Q : VK} (f : V → Option V) (hx : SqL K H1 a xs) (hz : xs.length ≤ sizeLine)
    (hs : ∀ x H (N : Option V → Hp → Prop), x ∈ xs → Same H1 H → (∀ H', Same H1 H' → N (f x) H') → g x (capt ix σ) H fun σ2 H2 => tt σ2 H2 fun b H3 => if b = true then te σ2 H3 fun v H4 => N (some v) H4 else N none H3)
    (hd : ∀ H p, Same H1 H → H p = none → Q (.ref p) (upd H p (.lst (xs.filterMap f)))) : LcGoal ix g tt te σ H1 Q (Itl K a) := by
  refine lc_list (K := K) (a := a) (xs := xs) (fun i ys H => ys = (xs.take i).filterMap f ∧ Same H1 H) ⟨rfl, Same.refl _⟩ (fun i ys H hi ⟨e, s⟩ => ⟨s.seq hx, ?_⟩) (fun i x ys H hi ⟨e, s⟩ => ?_) fun ys H ⟨e, s⟩ p hp => ?_
  · subst e
    refine Nat.le_trans (List.length_filterMap_le _ _) (Nat.le_trans ?_ hz)
    rw [List.length_take]; exact Nat.min_le_right _ _
  · have hm : x ∈ xs := List.mem_of_getElem? hi
    obtain ⟨hil, hix⟩ := List.getElem?_eq_some_iff.mp hi
    have et : xs.take (i + 1) = xs.take i ++ [x] := by rw [List.take_succ_eq_append_getElem hil, hix]
    refine hs x H (fun o H' => match o with | some v => (ys ++ [v] = (xs.take (i + 1)).filterMap f ∧ Same H1 H') | none => (ys = (xs.take (i + 1)).filterMap f ∧ Same H1 H')) hm s fun H' s' => ?_
    cases ef : f x with
    | some v =>
      refine ⟨?_, s'⟩
      rw [e, et, List.filterMap_append]
      simp [ef]
    | none =>
      refine ⟨?_, s'⟩
      rw [e, et, List.filterMap_append]
      simp [ef]
  · subst e
    rw [List.take_length]
    exact hd H p s hp
end L2

namespace L2
open PySem PySem.Spec PyProof.Rows

/-! ### data, by the abstract heap -/
mutual
inductive IsD (K : PySem.W.Frag) (H : Hp) : V → PyData → Prop
  | non : IsD K H .non .none
  | bl (b : Bool) : IsD K H (.bl b) (.bool b)
  | int (i : Int) : IsD K H (.int i) (.int i)
  | str (x : Str) : IsD K H (.str x) (.str x)
  | lst {a : Addr} {xs : List V} {ds : List PyData} : SqL K H a xs → IsDs K H xs ds → IsD K H (.ref a) (.list ds)
  | tup {a : Addr} {xs : List V} {ds : List PyData} : SqT K H a xs → IsDs K H xs ds → IsD K H (.ref a) (.tuple ds)
inductive IsDs (K : PySem.W.Frag) (H : Hp) : List V → List PyData → Prop
  | nil : IsDs K H [] []
  | cons {x : V} {xs : List V} {d : PyData} {ds : List PyData} : IsD K H x d → IsDs K H xs ds → IsDs K H (x :: xs) (d :: ds)
end
mutual
theorem IsD.reads {X : Cx} {pins : List (Addr × Obj)} {σ : St} {H : Hp} {s : Shared} (I : Inv X pins σ H s) : ∀ {v : V} {d : PyData} {u : Value}, IsD X.K H v d → RelV v u → ∃ as, Reads s.heap u d as
  | _, _, _, .non, r => by cases r; exact ⟨_, .none⟩
  | _, _, _, .bl b, r => by cases r; exact ⟨_, .bool b⟩
  | _, _, _, .int i, r => by obtain ⟨t, rfl⟩ := r; exact ⟨_, .int i t⟩
  | _, _, _, .str x, r => by obtain ⟨t, rfl⟩ := r; exact ⟨_, .str x t⟩
  | _, _, _, .lst h q, r => by
    cases r
    obtain ⟨its, rv, ⟨o, n, e, c, _, d⟩, _⟩ := I.list h
    obtain ⟨as, ra⟩ := IsDs.reads I q rv
    exact ⟨_, .list e c d (by simpa using ra)⟩
  | _, _, _, .tup h q, r => by
    cases r
    obtain ⟨its, rv, ⟨o, e, c, n, d⟩, _⟩ := I.tuple h
    obtain ⟨as, ra⟩ := IsDs.reads I q rv
    exact ⟨_, .tuple e c d (by simpa using ra)⟩
theorem IsDs.reads {X : Cx} {pins : List (Addr × Obj)} {σ : St} {H : Hp} {s : Shared} (I : Inv X pins σ H s) : ∀ {xs : List V} {ds : List PyData} {us : List Value}, IsDs X.K H xs ds → Vals xs us → ∃ as, ReadsAll s.heap us ds as
  | _, _, _, .nil, .nil => ⟨_, .nil⟩
  | _, _, _, .cons h q, .cons r t => by
    obtain ⟨as, ra⟩ := IsD.reads I h r
    obtain ⟨bs, rb⟩ := IsDs.reads I q t
    exact ⟨_, .cons ra rb⟩
end
theorem IsDs.ints {K : PySem.W.Frag} {H : Hp} : ∀ ns : List Int, IsDs K H (ns.map V.int) (ns.map PyData.int)
  | [] => .nil
  | n :: ns => .cons (.int n) (IsDs.ints ns)

section
variable {X : Cx}
def rEqD (K : PySem.W.Frag) (neg : Bool) : R2 := fun x y H Q => ∃ d d', IsD K H x d ∧ IsD K H y d' ∧ SeqAt.shaped d = true ∧ SeqAt.shaped d' = true ∧ Q (.bl (if neg then !PyData.eqv d d' else PyData.eqv d d')) H
theorem op_eqD (hu : X.A.units + 64 < cLine) : OpR X (compareOp .Eq) (rEqD X.K false) := by
  intro pins s σ H x y v u Q I rx ry h
  obtain ⟨d, d', h1, h2, s1, s2, q⟩ := h
  obtain ⟨as, ra⟩ := h1.reads I rx
  obtain ⟨bs, rb⟩ := h2.reads I ry
  exact eq_dataH ra rb s1 s2 hu ⟨.bl _, H, I, rfl, q⟩
theorem op_neD (hu : X.A.units + 64 < cLine) : OpR X (compareOp .NotEq) (rEqD X.K true) := by
  intro pins s σ H x y v u Q I rx ry h
  obtain ⟨d, d', h1, h2, s1, s2, q⟩ := h
  obtain ⟨as, ra⟩ := h1.reads I rx
  obtain ⟨bs, rb⟩ := h2.reads I ry
  exact ne_dataH ra rb s1 s2 hu ⟨.bl _, H, I, rfl, q⟩
def rInD (K : PySem.W.Frag) (neg : Bool) : R2 := fun x y H Q => ∃ d ds, IsD K H x d ∧ IsD K H y (.list ds) ∧ SeqAt.shaped d = true ∧ SeqAt.shaped (.list ds) = true ∧ Q (.bl (if neg then !ds.any (fun e => PyData.eqv e d) else ds.any (fun e => PyData.eqv e d))) H
theorem op_inD (hu : X.A.units + 65 < cLine) : OpR X (compareOp .In) (rInD X.K false) := by
  intro pins s σ H x y v u Q I rx ry h
  obtain ⟨d, ds, h1, h2, s1, s2, q⟩ := h
  obtain ⟨as, ra⟩ := h1.reads I rx
  obtain ⟨bs, rb⟩ := h2.reads I ry
  exact SeqAt.in_list_reads rb ra (SeqAt.canLay_of_shaped s2) (SeqAt.canLay_of_shaped s1) (room_in_shaped s1 hu) ⟨.bl _, H, I, rfl, q⟩
theorem op_notInD (hu : X.A.units + 65 < cLine) : OpR X (compareOp .NotIn) (rInD X.K true) := by
  intro pins s σ H x y v u Q I rx ry h
  obtain ⟨d, ds, h1, h2, s1, s2, q⟩ := h
  obtain ⟨as, ra⟩ := h1.reads I rx
  obtain ⟨bs, rb⟩ := h2.reads I ry
  exact SeqAt.notIn_list_reads rb ra (SeqAt.canLay_of_shaped s2) (SeqAt.canLay_of_shaped s1) (room_in_shaped s1 hu) ⟨.bl _, H, I, rfl, q⟩

/-! ### isinstance -/
def clsV : V → Option Value
  | .ty n => some (.type n)
  | .ref a => some (.ref a)
  | _ => none
theorem clsV_rel {c : V} {cv u : Value} (h : clsV c = some cv) (r : RelV c u) : u = cv := by
  cases c with
  | ty n => cases h; exact r
  | ref a => cases h; exact r
  | _ => cases h
theorem call_isinst : CallR X (.builtin "isinstance") (fun xs H Q => ∃ x c cv t b, xs = [x, c] ∧ clsV c = some cv ∧ TyOf X.K H x t ∧ PySem.W.kitOne X.K t cv = some b ∧ Q (.bl b) H) := by
  intro pins s σ H xs us Q I r h
  obtain ⟨x, c, cv, t, b, rfl, hc, ty, hk, q⟩ := h
  obtain ⟨u1, u2, rfl, r1, r2⟩ := vals2 r
  obtain rfl := clsV_rel hc r2
  exact isinst_ok I r1 ty hk fun tk => ⟨.bl b, H, I.tok tk, rfl, q⟩

/-! ### all, any by the items' truth -/
abbrev Cx.in1 (X : Cx) : Cx := { X with A := X.A.in1 }
theorem Inv.in1 {pins : List (Addr × Obj)} {σ : St} {H : Hp} {s : Shared} (I : Inv X pins σ H s) : Inv X.in1 pins σ H s :=
  ⟨⟨I.ok.mod, I.ok.kind, I.ok.glob, I.ok.blt, I.ok.above, I.ok.inj, I.ok.has, I.ok.cab, I.ok.hd, I.ok.frames, I.ok.stk, I.ok.exf, I.ok.bs, I.ok.bsz, I.ok.noex, I.ok.exfs, I.ok.funs, I.ok.frf⟩, I.os, I.bare, I.base, I.loc, I.cell, I.free, I.freeC, I.pin, I.hok, I.len⟩
theorem Inv.of_in1 {pins : List (Addr × Obj)} {σ : St} {H : Hp} {s : Shared} (I : Inv X.in1 pins σ H s) : Inv X pins σ H s :=
  ⟨⟨I.ok.mod, I.ok.kind, I.ok.glob, I.ok.blt, I.ok.above, I.ok.inj, I.ok.has, I.ok.cab, I.ok.hd, I.ok.frames, I.ok.stk, I.ok.exf, I.ok.bs, I.ok.bsz, I.ok.noex, I.ok.exfs, I.ok.funs, I.ok.frf⟩, I.os, I.bare, I.base, I.loc, I.cell, I.free, I.freeC, I.pin, I.hok, I.len⟩
def Truths (K : PySem.W.Frag) (H : Hp) (xs : List V) (bs : List Bool) : Prop := Paired (fun x b => TruV K x H b) xs bs
theorem Truths.get {K : PySem.W.Frag} {H : Hp} : ∀ {xs : List V} {bs : List Bool} {i : Nat} {x : V}, Truths K H xs bs → xs[i]? = some x → ∃ b, bs[i]? = some b ∧ TruV K x H b
  | _, _, _, _, .nil, h => by simp at h
  | _, _, 0, _, .cons h r, e => by
    simp at e; subst e
    exact ⟨_, rfl, h⟩
  | _, _, i + 1, _, .cons h r, e => by
    obtain ⟨d, e1, q⟩ := Truths.get (i := i) r (by simpa using e)
    exact ⟨d, by simpa using e1, q⟩
theorem Truths.bls {K : PySem.W.Frag} {H : Hp} : ∀ bs : List Bool, Truths K H (bs.map V.bl) bs
  | [] => .nil
  | b :: bs => .cons rfl (Truths.bls bs)
theorem all_loop {pins : List (Addr × Obj)} {σ : St} {H : Hp} {p it : Addr} {ys : List V} {bs : List Bool} {R : Result → Shared → Prop} (hc : X.calm = true) (hq : SqL X.K H p ys) (ht : Truths X.K H ys bs) (f : FpOk X pins H it) :
    ∀ (k i : Nat) (s : Shared), ys.length - i = k → Inv X pins σ H s → s.heap.IsListIter it p i → (∀ s', Inv X pins σ H s' → R (.ok (.ret (.bool ((bs.drop i).all id)))) s') →
    codeAny (model X.prog X.w) X.A (.builtin "all.loop" ⟨[.ref it], []⟩) R s := by
  obtain ⟨f0, f1, f2, f3, f4, f5⟩ := f
  intro k
  induction k with
  | zero =>
    intro i s hk I st hR
    obtain ⟨its, rv, pl, hz⟩ := I.list hq
    have hl := rv.length
    refine codeAny_builtin F.entry_all_loop ?_
    rw [Around.under_plainId F.plain_all_loop _]
    show wpAny _ X.A.in1 (pyNext (.ref it) >>= _) _ _ s
    refine wpAny_bind (wpAny_pyNext_list_end (I.ok.hd hc) st pl.isList (by simp; omega) fun h' eb => ?_)
    refine wpAny_bind (wpAny_rule (wpAny_pure ?_))
    have q := hR _ (I.turned (t' := s.toks) (fun b o hb e => eb b o hb e) f0 f1 f3 f4 f5)
    have hlb : bs.length = ys.length := (Paired.length ht).symm
    rw [List.drop_of_length_le (by omega)] at q
    exact q
  | succ k ih =>
    intro i s hk I st hR
    obtain ⟨its, rv, pl, hz⟩ := I.list hq
    have hl := rv.length
    have hlt : i < ys.length := by omega
    have hx : ys[i]? = some ys[i] := by simp [hlt]
    obtain ⟨u, hu, ru⟩ := rv.get hx
    obtain ⟨b, hb, tb⟩ := ht.get hx
    refine codeAny_builtin F.entry_all_loop ?_
    rw [Around.under_plainId F.plain_all_loop _]
    show wpAny _ X.A.in1 (pyNext (.ref it) >>= _) _ _ s
    refine wpAny_bind (wpAny_pyNext_list_item st pl.isList (x := u) (by simpa using hu) fun h' st' sb => ?_)
    have I1 : Inv X pins σ H { s with heap := h' } := I.turned (t' := s.toks) (fun b o hb e => (sb.2 b hb).trans e) f0 f1 f3 f4 f5
    have hdb : bs.drop i = b :: bs.drop (i + 1) := by
      obtain ⟨hlb, eb⟩ := List.getElem?_eq_some_iff.mp hb
      rw [List.drop_eq_getElem_cons hlb, eb]
    rw [hdb] at hR
    have I1p : Inv X (pins ++ pinsAt [it] h') σ H { s with heap := h' } := I1.pinned (fp := [it]) (fun c hcc => by rw [List.mem_singleton.mp hcc]; exact ⟨f0, f1, f2, f3, f4, f5⟩) fun c hcc => by
      rw [List.mem_singleton.mp hcc]
      obtain ⟨o, e, c', d⟩ := st'
      exact ⟨o, e, fun v z => by rw [d] at z; cases z⟩
    refine wpAny_bind (wpAny_holding (wpAny_mono (tru_ok (X := X.in1.nox) _ _ σ H ys[i] u (fun c H' => c = b ∧ H' = H) ((Inv.in1 I1p).wish _) ru ⟨b, tb, rfl, rfl⟩) (fun c s2 ⟨H', I2, e1, e2⟩ => ?_) fun _ _ z => False.elim z))
    rw [e2] at I2
    subst e1
    have I2' : Inv X (pins ++ pinsAt [it] h') σ H s2 := Inv.of_in1 I2.unwish
    have I2'' : Inv X pins σ H s2 := I2'.unpinned
    have st2 : s2.heap.IsListIter it p (i + 1) := st'.at fun o e => (I2'.pin (it, o) (List.mem_append_right _ (List.mem_append_right _ (mem_pinsAt (List.mem_singleton.mpr rfl) e)))).1
    refine wpAny_bind (wpAny_letGo ?_)
    cases c with
    | true =>
      simp only [if_true]
      exact wpAny_pure ⟨plainId_quiet F.plain_all_loop _, ih (i + 1) s2 (by omega) I2'' st2 fun s' I' => by simpa using hR s' I'⟩
    | false =>
      simp only [Bool.false_eq_true, if_false]
      refine wpAny_bind (wpAny_rule (wpAny_pure ?_))
      simpa using hR s2 I2''
theorem call_allT (hc : X.calm = true) : CallR X (.builtin "all") (fun xs H Q => ∃ p ys bs, xs = [.ref p] ∧ SqL X.K H p ys ∧ Truths X.K H ys bs ∧ Q (.bl (bs.all id)) H) := by
  intro pins s σ H xs us Q I r h
  obtain ⟨p, ys, bs, rfl, hq, ht, q⟩ := h
  obtain ⟨u, rfl, rx⟩ := vals1 r
  cases rx
  refine call_function_tree F.kind_all F.plain_all F.entry_all (F.args_all1 _) ?_
  unfold Builtin.«all»
  refine wpAny_bind (m := oneArg "all" _) (wpAny_pure ?_)
  obtain ⟨its, rv, pl, hz⟩ := I.list hq
  refine wpAny_bind (wpAny_pyIter_list pl.isList ?_)
  have I1 : Inv X pins σ H { s with heap := s.heap.push { cls := .type "list_iterator", data := .fields #[.ref p, .int 0 0] } } := I.kept (t' := s.toks) fun b o e => Heap.get?_push_of_some _ e
  refine wpAny_pure ⟨plainId_quiet F.plain_all_loop _, all_loop hc hq ht (I.fpOk (Nat.le_refl _) (I.hok.fresh (Nat.le_refl _))) ys.length 0 _ (Nat.sub_zero _) I1 ⟨_, Heap.get?_push_size _ rfl, rfl, rfl⟩ fun s' I' => ?_⟩
  exact ⟨.bl _, H, I', rfl, by simpa using q⟩
end
end L2

namespace L2
open PySem PySem.Spec PyProof.Rows

/-- a def of the text as it stands behind the top -/
structure Dn (K : PySem.W.Frag) (mg : Str → Option Value) (x : Str) (st : Stmt) (ps : List Str) where
  f : Addr
  fd : FuncData
  F : Fun K x x st f fd
  b : Binds K fd ps []
  m : mg x = some (.ref f)
  bd : ∀ (s : Shared) (us : List Value), us.length = ps.length → BindsTo s fd ⟨us, []⟩ (ps.zip us)
/-- the built-ins' names are the built-ins' -/
structure Bl (mg : Str → Option Value) : Prop where
  get : ∀ x : Str, x ∈ (["len", "range", "list", "isinstance", "int", "bool", "str", "all", "any", "sorted", "set", "min", "max", "tuple", "enumerate", "dict", "ValueError"] : List Str) → mg x = none
theorem Bl.len {mg : Str → Option Value} (B : Bl mg) : mg "len" = none := B.get _ (by decide +kernel)
theorem Bl.range {mg : Str → Option Value} (B : Bl mg) : mg "range" = none := B.get _ (by decide +kernel)
theorem Bl.list {mg : Str → Option Value} (B : Bl mg) : mg "list" = none := B.get _ (by decide +kernel)
theorem Bl.isinstance {mg : Str → Option Value} (B : Bl mg) : mg "isinstance" = none := B.get _ (by decide +kernel)
theorem Bl.int {mg : Str → Option Value} (B : Bl mg) : mg "int" = none := B.get _ (by decide +kernel)
theorem Bl.bool {mg : Str → Option Value} (B : Bl mg) : mg "bool" = none := B.get _ (by decide +kernel)
theorem Bl.str {mg : Str → Option Value} (B : Bl mg) : mg "str" = none := B.get _ (by decide +kernel)
theorem Bl.all {mg : Str → Option Value} (B : Bl mg) : mg "all" = none := B.get _ (by decide +kernel)
theorem Bl.sorted {mg : Str → Option Value} (B : Bl mg) : mg "sorted" = none := B.get _ (by decide +kernel)
theorem Bl.tuple {mg : Str → Option Value} (B : Bl mg) : mg "tuple" = none := B.get _ (by decide +kernel)
theorem Bl.ValueError {mg : Str → Option Value} (B : Bl mg) : mg "ValueError" = none := B.get _ (by decide +kernel)

/-! ### the kinds of plain values -/
theorem kit_int_int {K : PySem.W.Frag} : PySem.W.kitOne K (.type "int") (.type "int") = some true := by rfl
theorem kit_int_bool {K : PySem.W.Frag} : PySem.W.kitOne K (.type "int") (.type "bool") = some false := by rfl
end L2

namespace L2
open PySem PySem.Spec PyProof.Rows
/-! the rules with the written part named (a block's own context does not show it) -/
section
variable {X : Cx} {K : PySem.W.Frag}
theorem ix_listK (e : X.K = K) : IxR X (rIxL K) := by subst e; exact ix_list
theorem ix_tupK (e : X.K = K) : IxR X (rIxT K) := by subst e; exact ix_tup
theorem op_eqDK (e : X.K = K) (hu : X.A.units + 64 < cLine) : OpR X (compareOp .Eq) (rEqD K false) := by subst e; exact op_eqD hu
theorem op_neDK (e : X.K = K) (hu : X.A.units + 64 < cLine) : OpR X (compareOp .NotEq) (rEqD K true) := by subst e; exact op_neD hu
theorem op_inDK (e : X.K = K) (hu : X.A.units + 65 < cLine) : OpR X (compareOp .In) (rInD K false) := by subst e; exact op_inD hu
theorem op_notInDK (e : X.K = K) (hu : X.A.units + 65 < cLine) : OpR X (compareOp .NotIn) (rInD K true) := by subst e; exact op_notInD hu
def rLen (K : PySem.W.Frag) : List V → Hp → VK → Prop := fun xs H Q => ∃ p ys, xs = [.ref p] ∧ (SqL K H p ys ∨ SqT K H p ys) ∧ Q (.int ys.length) H
theorem call_lenK (e : X.K = K) : CallR X (.builtin "len") (rLen K) := by subst e; exact call_len_seq
def rListOf (K : PySem.W.Frag) : List V → Hp → VK → Prop := fun xs H Q => ∃ p ys, xs = [.ref p] ∧ (SqL K H p ys ∨ SqT K H p ys) ∧ ∀ l, H l = none → Q (.ref l) (upd H l (.lst ys))
theorem call_listK (e : X.K = K) : CallR X (.type "list") (rListOf K) := by subst e; exact call_list_of
def rIsin (K : PySem.W.Frag) : List V → Hp → VK → Prop := fun xs H Q => ∃ x c cv t b, xs = [x, c] ∧ clsV c = some cv ∧ TyOf K H x t ∧ PySem.W.kitOne K t cv = some b ∧ Q (.bl b) H
theorem call_isinstK (e : X.K = K) : CallR X (.builtin "isinstance") (rIsin K) := by subst e; exact call_isinst
def rAll (K : PySem.W.Frag) : List V → Hp → VK → Prop := fun xs H Q => ∃ p ys bs, xs = [.ref p] ∧ SqL K H p ys ∧ Truths K H ys bs ∧ Q (.bl (bs.all id)) H
theorem call_allK (e : X.K = K) (hc : X.calm = true) : CallR X (.builtin "all") (rAll K) := by subst e; exact call_allT hc
theorem pi_listK {tg l : Expr} {tl : TE} (e : X.K = K) (hl : PE X l tl) : PI X tg l (iList K tl) := by subst e; exact pi_list hl
def tTru (K : PySem.W.Frag) (ta : TE) : TT := fun σ H Q => ta σ H fun x H' => ∃ k, TruV K x H' k ∧ Q k H'
theorem pt_truthK {a : Expr} {ta : TE} (e : X.K = K) (ha : PE X a ta) (he : ∀ whole, isTrue a X.env whole = (do let v ← whole; standAt a.pos; holding [v] (truthy v))) : PT X a (tTru K ta) := by subst e; exact pt_truth ha he
theorem pg_tupK {es : List Expr} {k : Nat} {t : TGs} {n : Nat} {pos : Pos} (e : X.K = K) (hc : X.calm = true) (h : PGs X es t)
    (hn : (assignEach es X.env).length = n := by rfl) (hst : (assignEach es X.env).findIdx? (·.1) = none := by rfl) : PG X (.Tuple es k pos) (gTup K n t) := by subst e; exact pg_tup hc h hn hst
theorem pe_bmK {o e : Expr} {es : List Expr} {to : TE} {t : TA} {name : Str} {apos cpos : Pos} {T id : String} {r : V → List V → Hp → VK → Prop} (e0 : X.K = K) (pa : PlainAttrs T) (slot : Slot T name id) (hty : typeOf (.builtin id) = pure (.type "method_descriptor")) (hm : MtR X id r) (ho : PE X o to) (ha : PA X (e :: es) t)
    (hbase : attributeBase o name X.env (eval o X.env) = eval o X.env := by rfl)
    (hfew : ((backTo cpos (starEach (e :: es) X.env)).all (fun x => !x.1) && (backToKw cpos (keywordEach [] X.env)).all (fun x => x.1.isSome)
      && decide ((e :: es).length + ([] : List Keyword).length + (if ([] : List Keyword).isEmpty then 0 else 1) < 30)) = true := by rfl)
    (hline : (apos.endLine == cpos.line) = true := by rfl) (hs : starEach (e :: es) X.env = (false, eval e X.env) :: starEach es X.env := by rfl) (hplain : (backTo cpos (starEach es X.env)).any (·.1) = false := by rfl) :
    PE X (.Call (.Attribute o name apos) (e :: es) [] cpos) (tBM K T r to t) := by subst e0; exact pe_bm pa slot hty hm ho ha hbase hfew hline hs hplain

/-! ### xs.insert(i, v) -/
end
end L2

namespace L2
open PySem PySem.Spec PyProof.Rows
/-- a statement whose ways meet: J is what holds behind it -/
def tCut (t u : TS) : TS := fun D σ H => ∃ J : St → Hp → Prop, t { D with nx := J } σ H ∧ ∀ σ' H', J σ' H' → u D σ' H'
theorem pss_cut {X : Cx} {st : Stmt} {rest : List Stmt} {t u : TS} (h1 : PS X st t) (h2 : PSs X rest u) : PSs X (st :: rest) (tCut t u) := by
  intro pins s σ H D I h
  obtain ⟨J, q1, q2⟩ := h
  refine wpAny_execs_cons (thn (h1 pins s σ H { D with nx := J } I q1) fun f s1 q => ?_)
  cases f with
  | next =>
    obtain ⟨σ', H', I', q⟩ := q
    exact h2 pins s1 σ' H' D I' (q2 σ' H' q)
  | ret v => exact q
  | brk => exact q
  | cont => exact q
end L2

namespace L2
open PySem PySem.Spec PyProof.Rows
/-- o has been laid at p -/
structure New (H : Hp) (p : Addr) (o : HO) (H' : Hp) : Prop where
  fresh : H p = none
  here : H' p = some o
  rest : ∀ b, b ≠ p → H' b = H b
theorem New.mk0 {H : Hp} {p : Addr} {o : HO} (h : H p = none) : New H p o (upd H p o) := ⟨h, upd_same, fun _ hb => upd_ne hb⟩
theorem New.same {H H' : Hp} {p : Addr} {o : HO} (n : New H p o H') : Same H H' := fun b u e => (n.rest b (ne_of_none e n.fresh)).trans e
/-- the object at l has been changed into o -/
structure Chg (H : Hp) (l : Addr) (o : HO) (H' : Hp) : Prop where
  here : H' l = some o
  rest : ∀ b, b ≠ l → H' b = H b
theorem Chg.mk0 {H : Hp} {l : Addr} {o : HO} : Chg H l o (upd H l o) := ⟨upd_same, fun _ hb => upd_ne hb⟩
section
variable {X : Cx} {K : PySem.W.Frag} {es : List Expr} {t : TA} {pos : Pos}
def tTupN (t : TA) : TE := fun σ H Q => t σ H fun xs H1 => xs.length ≤ 1000 ∧ ∀ p H', New H1 p (.tup xs) H' → Q (.ref p) H'
def tLstN (t : TA) : TE := fun σ H Q => t σ H fun xs H1 => xs.length ≤ 1000 ∧ ∀ p H', New H1 p (.lst xs) H' → Q (.ref p) H'
theorem pe_tupN {x1} (h : PA X es t) : PE X (.Tuple es x1 pos) (tTupN t) := by
  intro pins s σ H Q I hq
  refine wpAny_Tuple_spliced (thn (h pos pins s σ H _ I hq) fun us s1 ⟨xs, H1, I1, r, z, q⟩ => ?_)
  have z' : xs.length ≤ sizeLine := Nat.le_of_lt (small1000 z)
  refine ⟨by rw [← r.length]; exact z', ?_⟩
  have hf : H1 s1.heap.objs.size = none := I1.hok.fresh (Nat.le_refl _)
  refine ⟨.ref s1.heap.objs.size, upd H1 s1.heap.objs.size (.tup xs), I1.laid (t' := s1.toks) (fun b u e => Heap.get?_push_of_some _ e) (Nat.le_refl _) ?_, rfl, q _ _ (New.mk0 hf)⟩
  exact ⟨z', us, r, ⟨_, Heap.get?_push_size _ rfl, rfl, _, rfl⟩⟩
theorem pe_lstN (h : PA X es t) : PE X (.List es pos) (tLstN t) := by
  intro pins s σ H Q I hq
  refine wpAny_List_spliced (thn (h pos pins s σ H _ I hq) fun us s1 ⟨xs, H1, I1, r, z, q⟩ => ?_)
  have z' : xs.length ≤ sizeLine := Nat.le_of_lt (small1000 z)
  refine ⟨by rw [← r.length]; exact z', ?_⟩
  have hf : H1 s1.heap.objs.size = none := I1.hok.fresh (Nat.le_refl _)
  refine ⟨.ref s1.heap.objs.size, upd H1 s1.heap.objs.size (.lst xs), I1.laid (t' := s1.toks) (fun b u e => Heap.get?_push_of_some _ e) (Nat.le_refl _) ?_, rfl, q _ _ (New.mk0 hf)⟩
  exact ⟨z', us, 0, r, Heap.get?_push_size _ rfl⟩
theorem OpR.weak {f : Value → Value → Sem Value} {r r' : R2} (h : OpR X f r) (m : ∀ x y H Q, r' x y H Q → r x y H Q) : OpR X f r' := fun pins s σ H x y v u Q I rx ry q => h pins s σ H x y v u Q I rx ry (m x y H Q q)
theorem CallR.weak {f : Value} {r r' : List V → Hp → VK → Prop} (h : CallR X f r) (m : ∀ xs H Q, r' xs H Q → r xs H Q) : CallR X f r' := fun pins s σ H xs us Q I rs q => h pins s σ H xs us Q I rs (m xs H Q q)
def rCatN : R2 := fun x y H Q => ∃ l b xs zs, x = .ref l ∧ y = .ref b ∧ H l = some (.lst xs) ∧ H b = some (.lst zs) ∧ xs.length + zs.length ≤ 1000 ∧ ∀ p H', New H p (.lst (xs ++ zs)) H' → Q (.ref p) H'
theorem op_catN : OpR X (binaryOp .Add) rCatN := op_cat.weak fun x y H Q ⟨l, b, xs, zs, e1, e2, h1, h2, z, q⟩ => ⟨l, b, xs, zs, e1, e2, h1, h2, Nat.le_of_lt (small1000 z), fun p hp => q p _ (New.mk0 hp)⟩
def rSlN (K : PySem.W.Frag) : V → Option Int → Option Int → Hp → VK → Prop := fun x lo hi H Q => ∃ a xs, x = .ref a ∧ SqL K H a xs ∧ ∀ p H', New H p (.lst (cutV xs lo hi)) H' → Q (.ref p) H'
theorem sl_listN (e : X.K = K) : SlR X (rSlN K) := by
  subst e
  exact fun pins s σ H x v vl vu lo hi sl Q I rx hs pl pu ⟨a, xs, e, h, q⟩ => sl_list pins s σ H x v vl vu lo hi sl Q I rx hs pl pu ⟨a, xs, e, h, fun p hp => q p _ (New.mk0 hp)⟩
def rListN (K : PySem.W.Frag) : List V → Hp → VK → Prop := fun xs H Q => ∃ p ys, xs = [.ref p] ∧ (SqL K H p ys ∨ SqT K H p ys) ∧ ∀ l H', New H l (.lst ys) H' → Q (.ref l) H'
theorem call_listN (e : X.K = K) : CallR X (.type "list") (rListN K) := (call_listK e).weak fun xs H Q ⟨p, ys, e, h, q⟩ => ⟨p, ys, e, h, fun l hl => q l _ (New.mk0 hl)⟩
theorem MtM.weak {id : String} {r r' : V → List V → Hp → VK → Prop} (h : MtM X id r) (m : ∀ x xs H Q, r' x xs H Q → r x xs H Q) : MtM X id r' := fun pins s σ H x xs v us Q I rx rs q => h pins s σ H x xs v us Q I rx rs (m x xs H Q q)
def rAppN : V → List V → Hp → VK → Prop := fun x vs H Q => ∃ l xs y, x = .ref l ∧ vs = [y] ∧ H l = some (.lst xs) ∧ xs.length < 1000 ∧ ∀ H', Chg H l (.lst (xs ++ [y])) H' → Q .non H'
theorem mt_appendN : MtM X "list.append" rAppN := mt_append.weak fun x vs H Q ⟨l, xs, y, e1, e2, h, z, q⟩ => ⟨l, xs, y, e1, e2, h, small1000 (Nat.le_of_lt z), q _ Chg.mk0⟩
end
theorem lc_fmN {K : PySem.W.Frag} {a : Addr} {xs : List V} {ix : List (Option Nat)} {g : TG} {tt : TT} {te : TE} {σ : St} {H1 : Hp} {Q : VK} (f : V → Option V) (hx : SqL K H1 a xs) (hz : xs.length ≤ 1000)
    (hs : ∀ x H (N : Option V → Hp → Prop), x ∈ xs → Same H1 H → (∀ H', Same H1 H' → N (f x) H') → g x (capt ix σ) H fun σ2 H2 => tt σ2 H2 fun b H3 => if b = true then te σ2 H3 fun v H4 => N (some v) H4 else N none H3)
    (hd : ∀ H p H', Same H1 H → New H p (.lst (xs.filterMap f)) H' → Q (.ref p) H') : LcGoal ix g tt te σ H1 Q (Itl K a) :=
  lc_fm f hx (Nat.le_of_lt (small1000 hz)) hs fun H p s hp => hd H p _ s (New.mk0 hp)
end L2

/-! the law's own draws, as functions -/
namespace Lw
open PySem L2
theorem same_new {H : Hp} {p : Addr} (h : H p = none) (o : HO) : Same H (upd H p o) := fun b u q => by rw [upd_ne (ne_of_none q h)]; exact q
theorem fm_some {α β : Type} {f : α → Option β} {g : α → β} : ∀ {l : List α}, (∀ x ∈ l, f x = some (g x)) → l.filterMap f = l.map g
  | [], _ => rfl
  | x :: r, h => by
    rw [List.filterMap_cons_some (h x List.mem_cons_self), List.map_cons, fm_some fun y hy => h y (List.mem_cons_of_mem _ hy)]
/-- the cell k of the script -/
def cellF (ns : List Int) (k : Int) : Int :=
  if k < (ns.length : Int) then ns.getD k.toNat 0
  else
    let z : Int := if (ns.length : Int) > 0 then (ns.getD (k * 7 % (ns.length : Int)).toNat 0) % 2147483647 * 48271 + k * 7919 else k * 7919 + 5
    z * z % 2147483629
def mixF (c m : Int) : Int := c % 2 ^ 64 * 11400714819323198485 % 2 ^ 64 / 2 ^ 11 % m
theorem mixF_lo {c m : Int} (h : 0 < m) : 0 ≤ mixF c m := Int.emod_nonneg _ (by omega)
theorem mixF_hi {c m : Int} (h : 0 < m) : mixF c m < m := Int.emod_lt_of_pos _ h
theorem at_ints {ns : List Int} {k : Int} (h0 : 0 ≤ k) (h : k < (ns.length : Int)) : atI (ns.map V.int) k = some (.int (ns.getD k.toNat 0)) := by
  have hk : k.toNat < ns.length := by omega
  have ek : k = ((k.toNat : Nat) : Int) := by omega
  have q : atI (ns.map V.int) ((k.toNat : Nat) : Int) = some (.int (ns.getD k.toNat 0)) := atI_nat (by
    rw [List.getElem?_map, List.getElem?_eq_getElem hk, List.getD_eq_getElem?_getD, List.getElem?_eq_getElem hk]; rfl)
  rw [← ek] at q
  exact q
/-- the script: frozen, or the module's own -/
def Scr (K : PySem.W.Frag) (H : Hp) (a : Addr) (ns : List Int) : Prop := (∃ o, H a = some (.frz o (.lst (ns.map V.int)))) ∨
  ∃ (o : Obj) (its : Array Value) (n : Nat), K.lookup a = some o ∧ o.cls = .type "list" ∧ o.dict = none ∧ o.data = .seq its n ∧ its.size ≤ sizeLine ∧ Vals (ns.map V.int) its.toList
theorem Scr.seq {K : PySem.W.Frag} {H : Hp} {a : Addr} {ns : List Int} (h : Scr K H a ns) : SqL K H a (ns.map V.int) := by
  rcases h with ⟨o, h⟩ | h
  · exact .inl (.inr ⟨o, h⟩)
  · exact .inr h
theorem Scr.of {K : PySem.W.Frag} {H : Hp} {a : Addr} {ns : List Int} (hO : Only H) (h : SqL K H a (ns.map V.int)) : Scr K H a ns := by
  rcases h with (h | ⟨o, h⟩) | h
  · rcases hO a with z | ⟨ob, xs, z⟩
    · rw [z] at h; cases h
    · rw [z] at h; cases h
  · exact .inl ⟨o, h⟩
  · exact .inr h
/-- the promise of the cell -/
def spCell (K : PySem.W.Frag) : Sp := fun vs H Q _ => ∃ (a : Addr) (ns : List Int) (k : Int), vs = [.ref a, .int k] ∧ SqL K H a (ns.map V.int) ∧ ns.length ≤ 63 ∧ 0 ≤ k ∧ k ≤ 1000 ∧ Q (.int (cellF ns k)) H
def spMix : Sp := fun vs H Q _ => ∃ (c m : Int), vs = [.int c, .int m] ∧ 0 < m ∧ Q (.int (mixF c m)) H
/-- the script, and law's promise -/
def spLaw (K : PySem.W.Frag) : Sp := fun vs H Q _ => ∃ (a : Addr) (ns : List Int), vs = [.ref a] ∧ Scr K H a ns ∧ ns.length ≤ 63 ∧ ∀ H', Q (.bl true) H'
theorem cell_bound (c k : Int) (h0 : 0 ≤ k) (h1 : k ≤ 1000) : -(2 ^ 64) < c % 2147483647 * 48271 + k * 7919 ∧ c % 2147483647 * 48271 + k * 7919 < 2 ^ 64 := by
  have a1 := Int.emod_nonneg c (show (2147483647 : Int) ≠ 0 by decide)
  have a2 := Int.emod_lt_of_pos c (show (0 : Int) < 2147483647 by decide)
  omega
end Lw

namespace L2
open PySem PySem.Spec PyProof.Rows
theorem dn_mk {K : PySem.W.Frag} {h : Heap} {mg : Str → Option Value} {x : Str} {st : Stmt} {ps : List Str} {f : Addr} {oc : Value} {od an : Option Addr} {osl : Array (Option Value)} {kV doc pm cdv ct : Value} (X : K.In h) (G : h.Ns mainGlobals mg)
    (a : PySem.W.nsIn K mainGlobals x = some (some (.ref f))) (l : K.lookup f = some ⟨oc, od, .func (PySem.W.fnOf x x (defArgs st) (defBody st) (defScope st) .none kV doc pm an cdv ct), osl⟩) (c : PySem.W.codeIn K cdv x = true) (k : PySem.W.keepIn K (.ref f) = true)
    (hb : ∀ (kV doc pm : Value) (an : Option Addr) (cdv ct : Value) (us : List Value), us.length = ps.length → bindArgs (PySem.W.fnOf x x (defArgs st) (defBody st) (defScope st) .none kV doc pm an cdv ct) ⟨us, []⟩ = pure (ps.zip us)) :
    Nonempty (Dn K mg x st ps) :=
  have F := fun_mk (st := st) l c k
  ⟨⟨f, _, F, F.binds hb, PySem.W.mg_of X G a, fun s us hl => .of_eq (hb _ _ _ _ _ _ us hl)⟩⟩
theorem bl_mk {K : PySem.W.Frag} {h : Heap} {mg : Str → Option Value} (X : K.In h) (G : h.Ns mainGlobals mg)
    (z1 : PySem.W.nsIn K mainGlobals "len" = some none) (z2 : PySem.W.nsIn K mainGlobals "range" = some none) (z3 : PySem.W.nsIn K mainGlobals "list" = some none) (z4 : PySem.W.nsIn K mainGlobals "isinstance" = some none) (z5 : PySem.W.nsIn K mainGlobals "int" = some none)
    (z6 : PySem.W.nsIn K mainGlobals "bool" = some none) (z7 : PySem.W.nsIn K mainGlobals "str" = some none) (z8 : PySem.W.nsIn K mainGlobals "all" = some none) (z9 : PySem.W.nsIn K mainGlobals "any" = some none) (z10 : PySem.W.nsIn K mainGlobals "sorted" = some none)
    (z11 : PySem.W.nsIn K mainGlobals "set" = some none) (z12 : PySem.W.nsIn K mainGlobals "min" = some none) (z13 : PySem.W.nsIn K mainGlobals "max" = some none) (z14 : PySem.W.nsIn K mainGlobals "tuple" = some none) (z15 : PySem.W.nsIn K mainGlobals "enumerate" = some none)
    (z16 : PySem.W.nsIn K mainGlobals "dict" = some none) (z17 : PySem.W.nsIn K mainGlobals "ValueError" = some none) : Bl mg := by
  refine ⟨fun x hx => ?_⟩
  simp only [List.mem_cons, List.not_mem_nil, or_false] at hx
  rcases hx with rfl | rfl | rfl | rfl | rfl | rfl | rfl | rfl | rfl | rfl | rfl | rfl | rfl | rfl | rfl | rfl | rfl
  · exact PySem.W.mg_none_of X G z1
  · exact PySem.W.mg_none_of X G z2
  · exact PySem.W.mg_none_of X G z3
  · exact PySem.W.mg_none_of X G z4
  · exact PySem.W.mg_none_of X G z5
  · exact PySem.W.mg_none_of X G z6
  · exact PySem.W.mg_none_of X G z7
  · exact PySem.W.mg_none_of X G z8
  · exact PySem.W.mg_none_of X G z9
  · exact PySem.W.mg_none_of X G z10
  · exact PySem.W.mg_none_of X G z11
  · exact PySem.W.mg_none_of X G z12
  · exact PySem.W.mg_none_of X G z13
  · exact PySem.W.mg_none_of X G z14
  · exact PySem.W.mg_none_of X G z15
  · exact PySem.W.mg_none_of X G z16
  · exact PySem.W.mg_none_of X G z17
/-- law's own call: the promise of a def d is the promise at its address -/
theorem law_at {P : Program} {w : World} {K : PySem.W.Frag} {mg : Str → Option Value} {fa : Addr} {st : Stmt} {k : Nat} {sp : Sp} {x : Str} (hfa : mg "law" = some (.ref fa)) (d : Dn K mg "law" st [x]) (F : ∀ base : Heap, FnOk P w K mg base CX0 k d.f d.fd [x] sp) :
    ∃ fd : FuncData, (∀ (s : Shared) (u : Value), BindsTo s fd ⟨[u], []⟩ [(x, u)]) ∧ ∀ base : Heap, K.In base → base.Ns mainGlobals mg → FnOk P w K mg base CX0 k fa fd [x] sp := by
  have e : fa = d.f := by
    have := hfa.symm.trans d.m
    have := Option.some.inj this
    cases this
    rfl
  subst e
  exact ⟨d.fd, fun s u => d.bd s [u] rfl, fun base _ _ => F base⟩
end L2

namespace L2
open PySem PySem.Spec PyProof.Rows
/-! ### for k, x in enumerate(xs) -/
section
variable {X : Cx} {K : PySem.W.Frag}
end
end L2

/-! the program's answers as functions, and how rows and graphs lie in the heap -/
namespace Bg
open PySem L2 Lw
abbrev Row := Option Int × List Int
inductive Flt where
  | ok | row (k : Nat) | place (v : Nat) | tie (a b : Int) | apart (v j k : Nat)
  deriving DecidableEq
/-! ### in the heap -/
def upV : Option Int → V
  | none => .non
  | some i => .int i
theorem paired_get {α β : Type} {F : α → β → Prop} : ∀ {xs : List α} {ys : List β} {i : Nat} {x : α}, Paired F xs ys → xs[i]? = some x → ∃ y, ys[i]? = some y ∧ F x y
  | _, _, _, _, .nil, h => by simp at h
  | _, _, 0, _, .cons h r, e => by
    simp at e; subst e
    exact ⟨_, rfl, h⟩
  | _, _, i + 1, _, .cons h r, e => by
    obtain ⟨d, e1, q⟩ := paired_get (i := i) r (by simpa using e)
    exact ⟨d, by simpa using e1, q⟩
theorem paired_getr {α β : Type} {F : α → β → Prop} : ∀ {xs : List α} {ys : List β} {i : Nat} {y : β}, Paired F xs ys → ys[i]? = some y → ∃ x, xs[i]? = some x ∧ F x y
  | _, _, _, _, .nil, h => by simp at h
  | _, _, 0, _, .cons h r, e => by
    simp at e; subst e
    exact ⟨_, rfl, h⟩
  | _, _, i + 1, _, .cons h r, e => by
    obtain ⟨d, e1, q⟩ := paired_getr (i := i) r (by simpa using e)
    exact ⟨d, by simpa using e1, q⟩
/-! ### data -/
theorem any_int (ns : List Int) (v : Int) : (ns.map PyData.int).any (fun e => PyData.eqv e (.int v)) = decide (v ∈ ns) := by
  induction ns with
  | nil => rfl
  | cons a r ih =>
    rw [List.map_cons, List.any_cons, ih, PyData.eqv]
    by_cases h : a = v
    · subst h; simp
    · have h' : ¬ v = a := fun z => h z.symm
      simp [h, h']
theorem depth_ints (ns : List Int) : PyData.depthAll (ns.map PyData.int) = 0 := by
  induction ns with
  | nil => rfl
  | cons a r ih => rw [List.map_cons, PyData.depthAll, ih]; rfl
theorem can_ints (ns : List Int) : PyData.canLayAll0 (ns.map PyData.int) = true := by
  induction ns with
  | nil => rfl
  | cons a r ih => rw [List.map_cons, PyData.canLayAll0, ih]; rfl
theorem shaped_ints (ns : List Int) : SeqAt.shaped (.list (ns.map PyData.int)) = true := by
  unfold SeqAt.shaped
  rw [PyData.canLay0, can_ints, PyData.depth, depth_ints]
  decide
/-- v in a list of ints -/
theorem inInts {K : PySem.W.Frag} {H : Hp} {b : Addr} {ns : List Int} {v : Int} {Q : VK} (hS : SqL K H b (ns.map V.int)) (q : Q (.bl (decide (v ∈ ns))) H) : rInD K false (.int v) (.ref b) H Q :=
  ⟨_, _, .int v, .lst hS (IsDs.ints ns), rfl, shaped_ints ns, by rw [any_int]; exact q⟩
end Bg

namespace L2
open PySem PySem.Spec PyProof.Rows
def rSetN : V → V → V → Hp → (Hp → Prop) → Prop := fun o i v H Q => ∃ p xs k j, o = .ref p ∧ i = .int k ∧ H p = some (.lst xs) ∧ ixN xs.length k = some j ∧ ∀ H', Chg H p (.lst (xs.set j v)) H' → Q H'
theorem set_listN {X : Cx} : PSet X rSetN := fun pins s σ H o i v ov iv u Q I ro ri rv ⟨p, xs, k, j, e1, e2, h1, h2, q⟩ => set_list pins s σ H o i v ov iv u Q I ro ri rv ⟨p, xs, k, j, e1, e2, h1, h2, q _ Chg.mk0⟩
theorem ixN_nat {n j : Nat} (h : j < n) : ixN n (j : Int) = some j := by
  unfold ixN
  rw [if_pos (by omega), if_pos (by omega)]; simp
theorem Same.chg {H H' : Hp} {l : Addr} {o : HO} {H0 : Hp} (s : Same H0 H) (h0 : H0 l = none) (c : Chg H l o H') : Same H0 H' := fun b u e => (c.rest b (ne_of_none e h0)).trans (s b u e)
end L2
namespace Bg
open PySem L2 Lw
/-! ### sets of places -/
/-! ### rows and ties as they are made -/
def RowL (l : Addr) (H : Hp) (v : V) (r : Row) : Prop := ∃ p b, v = .ref p ∧ H p = some (.tup [upV r.1, .ref b]) ∧ H b = some (.lst (r.2.map V.int)) ∧ b ≠ l ∧ r.2.length ≤ 1000
theorem RowL.same {l : Addr} {H H' : Hp} {v : V} {r : Row} (s : Same H H') (h : RowL l H v r) : RowL l H' v r := by
  obtain ⟨p, b, e, q1, q2, n, z⟩ := h
  exact ⟨p, b, e, s _ _ q1, s _ _ q2, n, z⟩
theorem RowL.chg {H H' : Hp} {l : Addr} {xs ys : List V} {v : V} {r : Row} (hl : H l = some (.lst xs)) (c : Chg H l (.lst ys) H') (h : RowL l H v r) : RowL l H' v r := by
  obtain ⟨p, b, e, q1, q2, n, z⟩ := h
  exact ⟨p, b, e, (c.rest p (ne_of q1 hl (by intro z; cases z))).trans q1, (c.rest b n).trans q2, n, z⟩
theorem paired_snoc {α β : Type} {F : α → β → Prop} : ∀ {xs : List α} {ys : List β} {x : α} {y : β}, Paired F xs ys → F x y → Paired F (xs ++ [x]) (ys ++ [y])
  | _, _, _, _, .nil, h => .cons h .nil
  | _, _, _, _, .cons h r, q => .cons h (paired_snoc r q)
/-! ### data -/
theorem eqv_self {d : PyData} (h : SeqAt.shaped d = true) : PyData.eqv d d = true := SeqAt.eqv_refl d (SeqAt.canLay_of_shaped h)
end Bg

set_option maxHeartbeats 4100000
namespace L2
open PySem PySem.Spec PyProof.Rows
section
variable {X : Cx} {K : PySem.W.Frag} {a b : Expr} {rest : List Expr} {pos : Pos} {ta tb : TE}
end
end L2

set_option maxHeartbeats 4100000
namespace L2
open PySem PySem.Spec PyProof.Rows
section
variable {K : PySem.W.Frag} {a : Addr} {xs : List V} {ix : List (Option Nat)} {g : TG} {tt : TT} {te : TE} {σ : St} {H1 : Hp} {Q : VK}
end
section
variable {X : Cx} {K : PySem.W.Frag}
end
end L2

namespace Srt
open PySem PySem.W PyProof.Rows
/-- a tree of questions, answered by a key: all asked places are below n, and the end is as wished -/
def Ok (n : Nat) (key : Nat → Int) {α : Type} : KasT α → (α → Prop) → Prop
  | .ret a, Q => Q a
  | .ask i j k, Q => i < n ∧ j < n ∧ Ok n key (k (decide (key i < key j))) Q
section
variable {n : Nat} {key : Nat → Int} {α β : Type}
theorem Ok.mono {Q Q' : α → Prop} (h : ∀ a, Q a → Q' a) : ∀ {t : KasT α}, Ok n key t Q → Ok n key t Q'
  | .ret _, x => h _ x
  | .ask _ _ _, ⟨a, b, x⟩ => ⟨a, b, Ok.mono h x⟩
theorem Ok.bind {f : α → KasT β} {Q : β → Prop} : ∀ {t : KasT α}, Ok n key t (fun a => Ok n key (f a) Q) → Ok n key (t.bind f) Q
  | .ret _, x => x
  | .ask _ _ _, ⟨a, b, x⟩ => ⟨a, b, Ok.bind x⟩
theorem Ok.wp {cmp : Nat → Nat → (Bool → Shared → Prop) → Shared → Prop} {s : Shared} {Q : α → Prop} {R : α → Shared → Prop} (hc : ∀ i j (C : Bool → Shared → Prop), i < n → j < n → C (decide (key i < key j)) s → cmp i j C s) (hq : ∀ a, Q a → R a s) :
    ∀ {t : KasT α}, Ok n key t Q → t.kasWp cmp R s
  | .ret _, x => hq _ x
  | .ask i j k, ⟨a, b, x⟩ => hc i j _ a b (Ok.wp hc hq x)
/-- the places, in some order -/
structure Pm (n : Nat) (p : Array Nat) : Prop where
  perm : p.Perm (List.range n).toArray
theorem Pm.size {p : Array Nat} (h : Pm n p) : p.size = n := by
  have := h.perm.size_eq
  simpa using this
theorem Pm.lt {p : Array Nat} (h : Pm n p) {i : Nat} (hi : i < n) : p.getD i 0 < n := by
  have hs := h.size
  have hi' : i < p.size := by omega
  have hm : p[i] ∈ (List.range n) := by
    have := (Array.perm_iff_toList_perm.mp h.perm).mem_iff (a := p[i])
    simpa using this
  have : p.getD i 0 = p[i] := by simp [Array.getD, hi']
  rw [this]; exact List.mem_range.mp hm
theorem Pm.of {p q : Array Nat} (h : Pm n p) (e : q.Perm p) : Pm n q := ⟨e.trans h.perm⟩
def KK (key : Nat → Int) (p : Array Nat) (i : Nat) : Int := key (p.getD i 0)
theorem getD_q (p : Array Nat) (i : Nat) : p.getD i 0 = (p[i]?).getD 0 := by simp [Array.getD_eq_getD_getElem?]
theorem KK_rev {p : Array Nat} {i j : Nat} (hj : j ≤ p.size) (k : Nat) : KK key (kas_rev p i j) k = if i ≤ k ∧ k < j then KK key p (i + j - 1 - k) else KK key p k := by
  unfold KK kas_rev
  rw [getD_q, getElem?_mirror_all hj]
  split <;> rw [getD_q]
theorem KK_bub {p : Array Nat} {k d : Nat} (hk : k < p.size) (hd : d ≤ k) (i : Nat) : KK key (bubble p k d) i = if i = k - d then KK key p k else if k - d < i ∧ i ≤ k then KK key p (i - 1) else KK key p i := by
  unfold KK
  rw [getD_q, getD_q p k, getD_q p (i - 1), getD_q p i, getElem?_bubble hk d hd]
  split
  · rfl
  · split <;> rfl
def Srtd (key : Nat → Int) (p : Array Nat) (m : Nat) : Prop := ∀ i j, i ≤ j → j < m → KK key p i ≤ KK key p j
def Down (key : Nat → Int) (p : Array Nat) (m : Nat) : Prop := ∀ i j, i ≤ j → j < m → KK key p j ≤ KK key p i
theorem Pm.rev {p : Array Nat} (h : Pm n p) (i j : Nat) : Pm n (kas_rev p i j) := h.of (mirror_perm _ _ _ _)
theorem ok_asc {p : Array Nat} (hp : Pm n p) : ∀ (f m : Nat), 1 ≤ m → m + f ≤ n → Srtd key p m → Ok n key (kas_asc p f m) (fun r => m ≤ r ∧ r ≤ m + f ∧ Srtd key p r ∧ (r = m + f ∨ KK key p r < KK key p (r - 1)))
  | 0, m, _, _, hs => ⟨Nat.le_refl _, Nat.le_refl _, hs, .inl rfl⟩
  | f + 1, m, h1, hm, hs => by
    refine ⟨hp.lt (by omega), hp.lt (by omega), ?_⟩
    by_cases c : key (p.getD m 0) < key (p.getD (m - 1) 0)
    · rw [decide_eq_true c]; dsimp only; rw [if_pos rfl]
      exact ⟨Nat.le_refl _, by omega, hs, .inr c⟩
    · rw [decide_eq_false c]; dsimp only; rw [if_neg Bool.false_ne_true]
      refine Ok.mono (fun r ⟨a, b, d, e⟩ => ⟨by omega, by omega, d, ?_⟩) (ok_asc hp f (m + 1) (by omega) (by omega) ?_)
      · intro i j hij hj
        by_cases hjm : j < m
        · exact hs i j hij hjm
        · have : j = m := by omega
          subst this
          by_cases hi : i = j
          · subst hi; exact Int.le_refl _
          · have q := hs i (j - 1) (by omega) (by omega)
            have c' : KK key p (j - 1) ≤ KK key p j := by unfold KK; omega
            omega
      · rcases e with e | e
        · exact .inl (by omega)
        · exact .inr e
theorem ok_tail3 {p : Array Nat} (hp : Pm n p) {m : Nat} (h1 : 1 ≤ m) (hm : m ≤ n) (hd : Down key p m) : Ok n key (kas_tail3 m n p) (fun r => Pm n r.2 ∧ 1 ≤ r.1 ∧ r.1 ≤ n ∧ Srtd key r.2 r.1) := by
  refine Ok.bind (Ok.mono (fun r ⟨a, b, c, _⟩ => ?_) (ok_asc (hp.rev 0 m) (n - m) m h1 (by omega) ?_))
  · intro i j hij hj
    have hs := hp.size
    rw [KK_rev (by omega), KK_rev (by omega), if_pos (by omega), if_pos (by omega)]
    exact hd _ _ (by omega) (by omega)
  · exact ⟨hp.rev 0 m, by show 1 ≤ r; omega, by show r ≤ n; omega, c⟩
theorem KK_rev_eq {p : Array Nat} {m q : Nat} (hm : m ≤ p.size) (he : ∀ i, m - (q + 1) ≤ i → i < m → KK key p i = KK key p (m - 1)) (k : Nat) : KK key (kas_rev p (m - (q + 1)) m) k = KK key p k := by
  rw [KK_rev hm]
  by_cases c : m - (q + 1) ≤ k ∧ k < m
  · rw [if_pos c, he k c.1 c.2, he _ (by omega) (by omega)]
  · rw [if_neg c]
theorem ok_desc : ∀ (f : Nat) {p : Array Nat} (m q : Nat), Pm n p → 1 ≤ m → m + f ≤ n → Down key p m → q + 1 ≤ m → (∀ i, m - (q + 1) ≤ i → i < m → KK key p i = KK key p (m - 1)) →
    Ok n key (kas_desc f p m q) (fun r => Pm n r.1 ∧ 1 ≤ r.2.1 ∧ r.2.1 ≤ n ∧ Down key r.1 r.2.1 ∧ r.2.2 + 1 ≤ r.2.1 ∧ ∀ i, r.2.1 - (r.2.2 + 1) ≤ i → i < r.2.1 → KK key r.1 i = KK key r.1 (r.2.1 - 1))
  | 0, p, m, q, hp, h1, hm, hd, hq, he => ⟨hp, h1, by show m ≤ n; omega, hd, hq, he⟩
  | f + 1, p, m, q, hp, h1, hm, hd, hq, he => by
    refine ⟨hp.lt (by omega), hp.lt (by omega), ?_⟩
    have hs := hp.size
    have one : ∀ (p' : Array Nat), (∀ k, KK key p' k = KK key p k) → KK key p m ≤ KK key p (m - 1) → Down key p' (m + 1) := fun p' hk c i j hij hj => by
      rw [hk, hk]
      by_cases hjm : j < m
      · exact hd i j hij hjm
      · have : j = m := by omega
        subst this
        by_cases hi : i = j
        · subst hi; exact Int.le_refl _
        · have := hd i (j - 1) (by omega) (by omega); omega
    by_cases c : key (p.getD m 0) < key (p.getD (m - 1) 0)
    · rw [decide_eq_true c]; dsimp only; rw [if_pos rfl]
      have c1 : KK key p m ≤ KK key p (m - 1) := by unfold KK; omega
      by_cases hq0 : q > 0
      · rw [if_pos hq0]
        exact ok_desc f (m + 1) 0 (hp.rev _ _) (by omega) (by omega) (one _ (KK_rev_eq (by omega) he) c1) (by omega) fun i a b => by congr 1; omega
      · rw [if_neg hq0]
        exact ok_desc f (m + 1) 0 hp (by omega) (by omega) (one _ (fun _ => rfl) c1) (by omega) fun i a b => by congr 1; omega
    · rw [decide_eq_false c]; dsimp only; rw [if_neg Bool.false_ne_true]
      refine ⟨hp.lt (by omega), hp.lt (by omega), ?_⟩
      by_cases d : key (p.getD (m - 1) 0) < key (p.getD m 0)
      · rw [decide_eq_true d]; dsimp only; rw [if_pos rfl]
        exact ⟨hp, h1, by show m ≤ n; omega, hd, hq, he⟩
      · rw [decide_eq_false d]; dsimp only; rw [if_neg Bool.false_ne_true]
        have e : KK key p m = KK key p (m - 1) := by unfold KK; omega
        refine ok_desc f (m + 1) (q + 1) hp (by omega) (by omega) (one _ (fun _ => rfl) (by omega)) (by omega) fun i a b => ?_
        rw [show m + 1 - 1 = m by omega]
        by_cases hi : i = m
        · subst hi; rfl
        · rw [e]; exact he i (by omega) (by omega)
theorem ok_descPart {p : Array Nat} (hp : Pm n p) {m : Nat} (hm : m + 1 ≤ n) (hd : Down key p (m + 1)) : Ok n key (kas_descPart m n p) (fun r => Pm n r.2 ∧ 1 ≤ r.1 ∧ r.1 ≤ n ∧ Srtd key r.2 r.1) := by
  refine Ok.bind (Ok.mono (fun r ⟨a, b, c, d, e, g⟩ => ?_) (ok_desc (n - (m + 1)) (m + 1) 0 hp (by omega) (by omega) hd (by omega) fun i x y => by congr 1; omega))
  have hs := a.size
  by_cases q : r.2.2 > 0
  · rw [if_pos q]
    exact ok_tail3 (a.rev _ _) b c fun i j x y => by rw [KK_rev_eq (by omega) g, KK_rev_eq (by omega) g]; exact d i j x y
  · rw [if_neg q]
    exact ok_tail3 a b c d
theorem ok_count {p : Array Nat} (hp : Pm n p) (h1 : 1 ≤ n) : Ok n key (kas_count n p) (fun r => Pm n r.2 ∧ 1 ≤ r.1 ∧ r.1 ≤ n ∧ Srtd key r.2 r.1) := by
  refine Ok.bind (Ok.mono (fun m ⟨a, b, c, d⟩ => ?_) (ok_asc hp (n - 1) 1 (Nat.le_refl _) (by omega) fun i j x y => by have : i = j := (by omega); subst this; exact Int.le_refl _))
  by_cases e : m = n
  · rw [if_pos (by simpa using e)]
    exact ⟨hp, a, by omega, c⟩
  · rw [if_neg (by simpa using e)]
    have lt : KK key p m < KK key p (m - 1) := by
      rcases d with d | d
      · omega
      · exact d
    have hs := hp.size
    by_cases g : m > 1
    · rw [if_pos g]
      refine ⟨hp.lt (by omega), hp.lt (by omega), ?_⟩
      by_cases z : key (p.getD 0 0) < key (p.getD (m - 1) 0)
      · rw [decide_eq_true z]; dsimp only; rw [if_pos rfl]
        exact ⟨hp, a, by show m ≤ n; omega, c⟩
      · rw [decide_eq_false z]; dsimp only; rw [if_neg Bool.false_ne_true]
        refine ok_descPart (hp.rev _ _) (by omega) ?_
        have z' : KK key p (m - 1) ≤ KK key p 0 := by unfold KK; omega
        have all : ∀ i, i < m → KK key p i = KK key p 0 := fun i hi => by
          have q1 := c 0 i (by omega) hi
          have q2 := c i (m - 1) (by omega) (by omega)
          omega
        intro i j hij hj
        rw [KK_rev (by omega), KK_rev (by omega)]
        by_cases hjm : j < m
        · rw [if_pos (by omega), if_pos (by omega)]
          have u1 := all (0 + m - 1 - j) (by omega)
          have u2 := all (0 + m - 1 - i) (by omega)
          omega
        · have : j = m := by omega
          subst this
          rw [if_neg (by omega)]
          by_cases hi : i < j
          · rw [if_pos (by omega)]
            have u1 := all (j - 1) (by omega)
            have u2 := all (0 + j - 1 - i) (by omega)
            omega
          · rw [if_neg (by omega)]
            have : i = j := by omega
            subst this; exact Int.le_refl _
    · rw [if_neg g]
      have m1 : m = 1 := by omega
      subst m1
      refine ok_descPart hp (by omega) fun i j hij hj => ?_
      by_cases hi : i = j
      · subst hi; exact Int.le_refl _
      · have i0 : i = 0 := by omega
        have j1 : j = 1 := by omega
        subst i0; subst j1
        exact Int.le_of_lt lt
theorem ok_place {p : Array Nat} (hp : Pm n p) {k : Nat} (hk : k < n) (hs : Srtd key p k) : ∀ (f l r : Nat), l ≤ r → r ≤ k → r - l ≤ f → (∀ i, i < l → KK key p i ≤ KK key p k) → (∀ i, r ≤ i → i < k → KK key p k < KK key p i) →
    Ok n key (kas_place p k f l r) (fun l => l ≤ k ∧ (∀ i, i < l → KK key p i ≤ KK key p k) ∧ ∀ i, l ≤ i → i < k → KK key p k < KK key p i)
  | 0, l, r, h1, h2, h3, lo, hi => ⟨by omega, lo, fun i a b => hi i (by omega) b⟩
  | f + 1, l, r, h1, h2, h3, lo, hi => by
    unfold kas_place
    by_cases c : l ≥ r
    · rw [if_pos c]
      exact ⟨by omega, lo, fun i a b => hi i (by omega) b⟩
    · rw [if_neg c]
      refine ⟨hp.lt hk, hp.lt (by omega), ?_⟩
      by_cases d : key (p.getD k 0) < key (p.getD ((l + r) / 2) 0)
      · rw [decide_eq_true d]; dsimp only; rw [if_pos rfl]
        refine ok_place hp hk hs f l ((l + r) / 2) (by omega) (by omega) (by omega) lo fun i a b => ?_
        have := hs ((l + r) / 2) i a b
        have d' : KK key p k < KK key p ((l + r) / 2) := d
        omega
      · rw [decide_eq_false d]; dsimp only; rw [if_neg Bool.false_ne_true]
        refine ok_place hp hk hs f ((l + r) / 2 + 1) r (by omega) h2 (by omega) (fun i a => ?_) hi
        have := hs i ((l + r) / 2) (by omega) (by omega)
        have d' : KK key p ((l + r) / 2) ≤ KK key p k := by unfold KK; omega
        omega
theorem ok_bin : ∀ (f : Nat) {p : Array Nat} (k : Nat), Pm n p → k + f = n → Srtd key p k → Ok n key (kas_bin f p k) (fun p => Pm n p ∧ Srtd key p n)
  | 0, p, k, hp, hk, hs => ⟨hp, by have : k = n := (by omega); rw [← this]; exact hs⟩
  | f + 1, p, k, hp, hk, hs => by
    refine Ok.bind (Ok.mono (fun l ⟨a, lo, hi⟩ => ?_) (ok_place hp (by omega) hs k 0 k (by omega) (Nat.le_refl _) (by omega) (fun i h => by omega) fun i h1 h2 => by omega))
    have hz := hp.size
    refine ok_bin f (k + 1) (hp.of (bubble_perm _ _ _)) (by omega) fun i j hij hj => ?_
    rw [KK_bub (by omega) (by omega), KK_bub (by omega) (by omega)]
    rw [show k - (k - l) = l by omega]
    by_cases i1 : i = l
    · rw [if_pos i1]
      by_cases j1 : j = l
      · rw [if_pos j1]; exact Int.le_refl _
      · rw [if_neg j1, if_pos (by omega)]
        exact Int.le_of_lt (hi (j - 1) (by omega) (by omega))
    · rw [if_neg i1]
      by_cases i2 : l < i ∧ i ≤ k
      · rw [if_pos i2, if_neg (by omega), if_pos (by omega)]
        exact hs (i - 1) (j - 1) (by omega) (by omega)
      · rw [if_neg i2]
        by_cases j1 : j = l
        · rw [if_pos j1]; exact lo i (by omega)
        · rw [if_neg j1]
          by_cases j2 : l < j ∧ j ≤ k
          · rw [if_pos j2]; exact hs i (j - 1) (by omega) (by omega)
          · rw [if_neg j2]; exact hs i j hij (by omega)
/-- the sort by questions: the places in some order, rising by the key -/
theorem ok_sort (h1 : 1 ≤ n) : Ok n key (kas_sort n) (fun p => Pm n p ∧ Srtd key p n) := by
  refine Ok.bind (Ok.mono (fun r ⟨a, b, c, d⟩ => ?_) (ok_count ⟨Array.Perm.refl _⟩ h1))
  by_cases e : r.1 < n
  · rw [if_pos e]
    refine ok_bin _ _ a (by omega) ?_
    rw [show max r.1 1 = r.1 by omega]
    exact d
  · rw [if_neg e]
    exact ⟨a, by have : r.1 = n := (by omega); rw [← this]; exact d⟩
end
end Srt

set_option maxHeartbeats 4100000
namespace Srt
open PySem PyProof.Rows PySem.Calls PySem.W
section
variable {prog : Program} {wo : World} {A : Around} {E : Value → Shared → Prop} {s : Shared}
/-- how the things of zs are asked for at a heap: their kind, and each two by the key -/
def Asks (prog : Program) (wo : World) (A : Around) (κ : SortKind) (zs : List Value) (key : Nat → Int) (s : Shared) : Prop :=
  (∀ (E : Value → Shared → Prop) (R : SortKind → Shared → Prop), R κ s → wpAny (model prog wo) A (keyKind' zs.toArray) R E s) ∧
  ∀ (i j : Nat) (C : Bool → Shared → Prop), i < zs.length → j < zs.length → C (decide (key i < key j)) s → kas_ask prog wo A κ zs i j C s
abbrev outOf (zs : List Value) (p : Array Nat) : Array Value := List.toArray (p.toList.map fun i => zs.getD i Value.none)
theorem out_id (zs : List Value) : outOf zs (List.range zs.length).toArray = zs.toArray := by
  unfold outOf
  congr 1
  apply List.ext_getElem?
  intro i
  by_cases h : i < zs.length
  · simp [h]
  · simp [h]
theorem list_sort_by {a : Addr} {zs : List Value} {n : Nat} {κ : SortKind} {key : Nat → Int} {P : PySem.Fin → Shared → Prop} (oa : s.heap.get? a = some (seqObj "list" zs.toArray n)) (h64 : zs.length < 64)
    (hk : 2 ≤ zs.length → ∀ h', (∀ b o, b ≠ a → s.heap.get? b = some o → h'.get? b = some o) → Asks prog wo A κ zs key { s with heap := h' })
    (h : ∀ p, Pm zs.length p → Srtd key p zs.length → P (.done (.ret .none)) { s with heap := sortedHeap s.heap a zs (outOf zs p) }) :
    wpAny (model prog wo) A (Builtin.«list.sort» ⟨[.ref a], []⟩) P E s := by
  rw [list_sort_plain]
  have la : a < s.heap.objs.size := Heap.lt_size oa
  refine wpAny_bind (listItems_at oa rfl ?_)
  refine wpAny_bind (listUpdate_at oa rfl ?_ (by rw [List.size_toArray, sizeLine_eq]; omega) (Nat.zero_le _))
  obtain ⟨ep, oa1⟩ : ∃ ep, (s.heap.update a (Obj.mapSeq fun _ => #[])).get? a = some (seqObj "list" #[] ep) := ⟨_, get?_update_seq oa (fun _ => #[])⟩
  refine wpAny_bind (seqEpoch_at oa1 rfl ?_)
  refine wpAny_bind (wpAny_newTuple ?_ (by show zs.length ≤ _; rw [sizeLine_eq]; omega))
  refine wpAny_bind (wpAny_newList (wpAny_holding ?_) (Nat.zero_le _))
  have oa6 : (((s.heap.update a (Obj.mapSeq fun _ => #[])).push (seqObj "tuple" zs.toArray 0)).push (seqObj "list" #[] 0)).get? a = some (seqObj "list" #[] ep) := by
    rw [Heap.get?_push_ne _ _ _ (by rw [size_push', Heap.size_update]; exact Nat.ne_of_lt (Nat.lt_succ_of_lt la)), Heap.get?_push_ne _ _ _ (by rw [Heap.size_update]; exact Nat.ne_of_lt la)]
    exact oa1
  show wpAny (model prog wo) A _ P E { s with heap := ((s.heap.update a (Obj.mapSeq fun _ => #[])).push (seqObj "tuple" zs.toArray 0)).push (seqObj "list" #[] 0) }
  dsimp only
  have lz : zs.toArray.size = zs.length := by simp
  by_cases g2 : zs.toArray.size < 2
  · rw [if_pos g2, if_pos g2]
    refine wpAny_bind (wpAny_pure ?_); rw [StateT.run_pure]; refine wpAny_bind (wpAny_pure ?_); dsimp only
    refine wpAny_bind (seqEpoch_at oa6 rfl ?_)
    refine wpAny_bind (listUpdate_at oa6 rfl ?_ (Nat.zero_le _) (by rw [Array.size_map]; show (pairsOf zs).size ≤ _; rw [pairsOf_size, sizeLine_eq]; omega))
    simp only [if_false, Bool.false_eq_true, bne_self_eq_false]
    have q := h (List.range zs.length).toArray ⟨Array.Perm.refl _⟩ (fun i j hij hj => by have : i = j := (by omega); subst this; exact Int.le_refl _)
    rw [out_id] at q
    refine wpAny_pure ?_
    have e : (arrOf (SortSt.mk' general' (zs.toArray.zip zs.toArray) #[] 7 none)).map (·.2) = zs.toArray := by
      show (zs.toArray.zip zs.toArray).map (·.2) = zs.toArray
      rw [Array.map_snd_zip]
      exact Nat.le_refl _
    rw [e]
    exact q
  · rw [if_neg g2, if_neg g2]
    have h2' : 2 ≤ zs.length := by omega
    obtain ⟨ak, ac⟩ := hk h2' (((s.heap.update a (Obj.mapSeq fun _ => #[])).push (seqObj "tuple" zs.toArray 0)).push (seqObj "list" #[] 0)) fun b o hb e => Heap.get?_push_of_some _ (Heap.get?_push_of_some _ (by rw [Heap.get?_update_ne _ _ _ _ hb]; exact e))
    refine wpAny_bind (ak _ _ ?_)
    have ask : (kas_sort zs.length).kasWp (kas_ask prog wo A κ zs) (fun p s' => s' = { s with heap := ((s.heap.update a (Obj.mapSeq fun _ => #[])).push (seqObj "tuple" zs.toArray 0)).push (seqObj "list" #[] 0) } ∧ Pm zs.length p ∧ Srtd key p zs.length)
        { s with heap := ((s.heap.update a (Obj.mapSeq fun _ => #[])).push (seqObj "tuple" zs.toArray 0)).push (seqObj "list" #[] 0) } :=
      Ok.wp (n := zs.length) (key := key) ac (fun p hp => ⟨rfl, hp⟩) (ok_sort (by omega))
    rw [kas_ask_eq] at ask
    have est : SortSt.mk' κ (zs.toArray.zip zs.toArray) #[] 7 none = kas_st κ (pairsOf zs) (List.toArray (List.range zs.length)) := by
      have e := kas_range (pairsOf zs)
      rw [pairsOf_size] at e
      show SortSt.mk' κ (pairsOf zs) #[] 7 none = SortSt.mk' κ ((List.toArray (List.range zs.length)).map (kas_item (pairsOf zs))) #[] 7 none
      rw [e]
    have rn := kas_runs (E := E) (Q := fun _ st' s' => ∃ p : Array Nat, p.size = zs.length ∧ arrOf st' = p.map (kas_item (pairsOf zs)) ∧ failedOf st' = none ∧ (s' = { s with heap := ((s.heap.update a (Obj.mapSeq fun _ => #[])).push (seqObj "tuple" zs.toArray 0)).push (seqObj "list" #[] 0) } ∧ Pm zs.length p ∧ Srtd key p zs.length))
      h2' h64 (fun p' st' s' a1 a2 a3 a4 => ⟨p', a1, a2, a3, a4⟩) ask
    rw [← est] at rn
    refine wpAny_bind (wpAny_mono rn ?_ fun _ _ e => e)
    rintro ⟨⟨⟩, st'⟩ s' ⟨p, hp, ra, hf, rfl, pm, sr⟩
    dsimp only
    have hout : (arrOf st').map (·.2) = outOf zs p := by
      apply Array.toList_inj.mp
      rw [ra, Array.map_map, Array.toList_map]
      exact List.map_congr_left fun i _ => by show (kas_item (pairsOf zs) i).2 = _; rw [kas_item_eq]
    have hso : (outOf zs p).size = zs.length := by rw [List.size_toArray, List.length_map, Array.length_toList, hp]
    rw [hout]
    refine wpAny_bind (seqEpoch_at oa6 rfl ?_)
    refine wpAny_bind (listUpdate_at oa6 rfl ?_ (Nat.zero_le _) (Nat.le_trans (Nat.le_of_eq hso) (by rw [sizeLine_eq]; omega)))
    rw [hf]
    simp only [if_false, Bool.false_eq_true, bne_self_eq_false]
    exact wpAny_pure (h p pm sr)
theorem sorted_by {l : Addr} {zs : List Value} {κ : SortKind} {key : Nat → Int} {R : Value → Shared → Prop} (il : s.heap.IsList l zs.toArray) (h64 : zs.length < 64)
    (hk : 2 ≤ zs.length → ∀ (A' : Around) (h' : Heap), (∀ b o, s.heap.get? b = some o → h'.get? b = some o) → Asks prog wo A' κ zs key { s with heap := h' })
    (h : ∀ p, Pm zs.length p → Srtd key p zs.length → R (.ref (s.heap.objs.size + 1)) { s with heap := sortedAll s.heap zs (outOf zs p) }) :
    wpAny (model prog wo) A (call (.builtin "sorted") [.ref l]) R E s := by
  apply Calls.call_function_entry kind_sorted plain_sorted entry_sorted (args_sorted1 _)
  unfold Builtin.«sorted»
  refine wpAny_bind (m := checkCount "sorted" 1 1 _) (wpAny_pure ?_); refine wpAny_bind (collect_list il ?_ (by rw [sizeLine_eq]; omega))
  refine wpAny_bind (wpAny_newList ?_ (by rw [sizeLine_eq]; omega))
  have lz : ((s.heap.push (seqObj "list" #[] 0)).update s.heap.objs.size (Obj.mapSeq (· ++ zs.toArray))).objs.size = s.heap.objs.size + 1 := by
    rw [Heap.size_update]; exact size_push' _ _
  have oL : (((s.heap.push (seqObj "list" #[] 0)).update s.heap.objs.size (Obj.mapSeq (· ++ zs.toArray))).push (seqObj "list" zs.toArray 0)).get? (s.heap.objs.size + 1) = some (seqObj "list" zs.toArray 0) := by
    rw [← lz]; exact Heap.get?_push_size _ rfl
  show wpAny _ _ _ _ _ { s with heap := ((s.heap.push (seqObj "list" #[] 0)).update s.heap.objs.size (Obj.mapSeq (· ++ zs.toArray))).push (seqObj "list" zs.toArray 0) }
  rw [lz]
  refine wpAny_bind (wpAny_holding (wpAny_call_entry slot_list_sort ⟨_, oL, rfl⟩ entry_list_sort (list_sort_by (κ := κ) (key := key) oL h64 (fun g2 h' kp => hk g2 _ h' fun b o e => ?_) fun p a1 a2 => ⟨_, rfl, ?_⟩) (args_list_sort _)))
  · have lb : b < s.heap.objs.size := Heap.lt_size e
    refine kp b o (Nat.ne_of_lt (Nat.lt_succ_of_lt lb)) ?_
    rw [Heap.get?_push_ne _ _ _ (by rw [lz]; exact Nat.ne_of_lt (Nat.lt_succ_of_lt lb)), Heap.get?_update_ne _ _ _ _ (Nat.ne_of_lt lb), Heap.get?_push_ne _ _ _ (Nat.ne_of_lt lb)]
    exact e
  · exact wpAny_pure ⟨_, rfl, h p a1 a2⟩
end
end Srt

set_option maxHeartbeats 4100000
namespace Srt
open PySem PyProof.Rows PySem.Calls PySem.W
/-! ### lists of ints by their order: a rank -/
theorem countP_le {α : Type} {p q : α → Bool} (h : ∀ x, p x = true → q x = true) (l : List α) : l.countP p ≤ l.countP q := by
  induction l with
  | nil => exact Nat.le_refl _
  | cons a r ih =>
    rw [List.countP_cons, List.countP_cons]
    by_cases c : p a = true
    · rw [if_pos c, if_pos (h a c)]; omega
    · rw [if_neg c]; omega
theorem countP_lt {α : Type} {p q : α → Bool} (h : ∀ x, p x = true → q x = true) {x : α} : ∀ {l : List α}, x ∈ l → p x = false → q x = true → l.countP p < l.countP q
  | a :: r, hx, h1, h2 => by
    rw [List.countP_cons, List.countP_cons]
    have le := countP_le h r
    rcases List.mem_cons.mp hx with rfl | hx
    · rw [if_neg (by rw [h1]; exact Bool.false_ne_true), if_pos h2]; omega
    · have ih := countP_lt h hx h1 h2
      by_cases c : p a = true
      · rw [if_pos c, if_pos (h a c)]; omega
      · rw [if_neg c]; omega
def rank (ls : List (List Int)) (i : Nat) : Int := (ls.countP fun z => decide (z < ls.getD i []) : Nat)
theorem lt_le {x y z : List Int} (h : z < y) (h2 : ¬ x < y) : z < x := by
  by_cases c : z < x
  · exact c
  · exact absurd (List.lt_of_le_of_lt (List.not_lt.mp c) h) h2
theorem rank_lt {ls : List (List Int)} {i j : Nat} (hi : i < ls.length) : decide (rank ls i < rank ls j) = decide (ls.getD i [] < ls.getD j []) := by
  have hm : ls.getD i [] ∈ ls := by
    rw [List.getD_eq_getElem?_getD, List.getElem?_eq_getElem hi]; exact List.getElem_mem hi
  unfold rank
  by_cases c : ls.getD i [] < ls.getD j []
  · rw [decide_eq_true c]
    refine decide_eq_true (Int.ofNat_lt.mpr (countP_lt (fun z hz => ?_) hm ?_ ?_))
    · exact decide_eq_true (List.lt_trans (of_decide_eq_true hz) c)
    · exact decide_eq_false (List.lt_irrefl _)
    · exact decide_eq_true c
  · rw [decide_eq_false c]
    refine decide_eq_false fun z => ?_
    have := countP_le (p := fun z => decide (z < ls.getD j [])) (q := fun z => decide (z < ls.getD i [])) (fun z hz => decide_eq_true (lt_le (of_decide_eq_true hz) c)) ls
    omega
/-! ### tuples of ints -/
section
variable {prog : Program} {w : World} {A : Around} {E : Value → Shared → Prop} {s : Shared} {Q : Bool → Shared → Prop}
theorem kat_ints : ∀ {xs ys : List Value} {ns ms : List Int} (i : Nat), IntsAre xs ns → IntsAre ys ms → Q (decide (ns < ms)) s → KatLex prog w A true (decide (xs.length < ys.length)) Q (xs.zip ys) i s
  | _, _, _, _, i, .nil, .nil, h => by
    refine kat_nil ?_
    exact h
  | _, _, _, _, i, .nil, .cons (vs := ys) (ns := ms) m u y, h => by
    refine kat_nil ?_
    have e : decide (([] : List Int) < m :: ms) = true := decide_eq_true (List.Lex.nil)
    rw [e] at h
    have e2 : decide (([] : List Value).length < (Value.int m u :: ys).length) = true := by simp
    rw [e2]; exact h
  | _, _, _, _, i, .cons (vs := xs) (ns := ns) n t x, .nil, h => by
    refine kat_nil ?_
    have e : decide (n :: ns < ([] : List Int)) = false := decide_eq_false (List.not_lt_nil _)
    rw [e] at h
    have e2 : decide ((Value.int n t :: xs).length < ([] : List Value).length) = false := by simp
    rw [e2]; exact h
  | _, _, _, _, i, .cons (vs := xs) (ns := ns) n t x, .cons (vs := ys) (ns := ms) m u y, h => by
    have ef : decide ((Value.int n t :: xs).length < (Value.int m u :: ys).length) = decide (xs.length < ys.length) := by
      simp only [List.length_cons, Nat.add_lt_add_iff_right]
    rw [ef]
    refine kat_cons (wpAny_eqBool_int ?_)
    by_cases c : n = m
    · subst c
      rw [beq_self_eq_true]
      refine kat_yes (kat_ints (i + 1) x y ?_)
      have e : decide (n :: ns < n :: ms) = decide (ns < ms) := by
        have : (n :: ns < n :: ms) ↔ ns < ms := by rw [List.cons_lt_cons_iff]; simp
        simp only [this]
      rw [e] at h; exact h
    · rw [beq_eq_false_iff_ne.mpr c]
      refine kat_no ?_
      have e : decide (n :: ns < m :: ms) = decide (n < m) := by
        have : (n :: ns < m :: ms) ↔ n < m := by rw [List.cons_lt_cons_iff]; simp [c]
        simp only [this]
      rw [e] at h
      cases z : (true && i == 0) with
      | true => exact oneLt_int h
      | false => exact kat_one _ _ (lt_int h)
/-- the tuples at a heap -/
structure TupI (h : Heap) (v : Value) (ns : List Int) : Prop where
  at' : ∃ a o xs n, v = .ref a ∧ h.get? a = some o ∧ o.cls = .type "tuple" ∧ o.data = .seq xs n ∧ IntsAre xs.toList ns
  ne : ns ≠ []
inductive TupsI (h : Heap) : List Value → List (List Int) → Prop
  | nil : TupsI h [] []
  | cons {v ns vs ls} : TupI h v ns → TupsI h vs ls → TupsI h (v :: vs) (ns :: ls)
theorem TupsI.keep {h h' : Heap} (k : ∀ b o, h.get? b = some o → h'.get? b = some o) : ∀ {vs ls}, TupsI h vs ls → TupsI h' vs ls
  | _, _, .nil => .nil
  | _, _, .cons ⟨⟨a, o, xs, n, e, ho, r⟩, ne⟩ t => .cons ⟨⟨a, o, xs, n, e, k _ _ ho, r⟩, ne⟩ (TupsI.keep k t)
theorem TupsI.len {h : Heap} : ∀ {vs ls}, TupsI h vs ls → vs.length = ls.length
  | _, _, .nil => rfl
  | _, _, .cons _ t => by rw [List.length_cons, List.length_cons, t.len]
theorem TupsI.get {h : Heap} : ∀ {vs ls}, TupsI h vs ls → ∀ {i}, i < vs.length → TupI h (vs.getD i .none) (ls.getD i [])
  | _, _, .cons a t, 0, _ => a
  | _, _, .cons a t, i + 1, hi => by
    have := t.get (i := i) (by simpa using hi)
    simpa using this
theorem TupsI.kat {h : Heap} : ∀ {vs ls}, TupsI h vs ls → ∃ fs, KatTups h vs fs ∧ fs.length = vs.length ∧ ∀ v ∈ fs, ∃ n t, v = Value.int n t
  | _, _, .nil => ⟨[], KatTups.nil, rfl, fun v hv => absurd hv List.not_mem_nil⟩
  | _, _, .cons (ns := ns) ⟨⟨a, o, xs, n, e, ho, hc, hd, hi⟩, ne⟩ t => by
    obtain ⟨fs, k, l, q⟩ := t.kat
    subst e
    obtain ⟨xl⟩ := xs
    have hi : IntsAre xl ns := hi
    cases hi with
    | nil => exact absurd rfl ne
    | cons m u r =>
      refine ⟨.int m u :: fs, KatTups.cons ho hc hd rfl k, by rw [List.length_cons, List.length_cons, l], fun v hv => ?_⟩
      rcases List.mem_cons.mp hv with rfl | hv
      · exact ⟨m, u, rfl⟩
      · exact q v hv
theorem asks_tups {vs : List Value} {ls : List (List Int)} (h : TupsI s.heap vs ls) (h2 : 2 ≤ vs.length) : Asks prog w A (tuples' true) vs (rank ls) s := by
  refine ⟨fun E Q q => ?_, fun i j C hi hj q => ?_⟩
  · obtain ⟨fs, k, l, ty⟩ := h.kat
    refine kat_kind (T := .type "int") k (by omega) (fun v hv => ?_) rfl q
    obtain ⟨n, t, rfl⟩ := ty v hv
    exact Looks.of_pure rfl
  · obtain ⟨⟨a, o, xs, n, e1, ho, hc, hd, hx⟩, _⟩ := h.get hi
    obtain ⟨⟨a', o', ys, n', e2, ho', hc', hd', hy⟩, _⟩ := h.get hj
    unfold kas_ask
    rw [e1, e2]
    refine kat_lt ho hd ho' hd' ?_
    rw [rank_lt (by rw [← h.len]; exact hi)] at q
    exact kat_ints 0 hx hy q
end
end Srt

set_option maxHeartbeats 4100000
namespace L2
open PySem PySem.Spec PyProof.Rows Bg Srt
def TupV (K : PySem.W.Frag) (H : Hp) (v : V) (ns : List Int) : Prop := ∃ p, v = .ref p ∧ SqT K H p (ns.map V.int)
def rSortT (K : PySem.W.Frag) : List V → Hp → VK → Prop := fun xs H Q => ∃ l vs, ∃ ls : List (List Int), xs = [.ref l] ∧ SqL K H l vs ∧ Paired (TupV K H) vs ls ∧ (∀ ns ∈ ls, ns ≠ []) ∧ vs.length < 64 ∧
  ∀ (q : List Nat) p H', q.Perm (List.range vs.length) → (q.map fun i => ls.getD i []).Pairwise (fun a b => ¬ b < a) → New H p (.lst (q.map fun i => vs.getD i .non)) H' → Q (.ref p) H'
theorem ints_of : ∀ {ns : List Int} {us : List Value}, Vals (ns.map V.int) us → IntsAre us ns
  | [], _, .nil => .nil
  | n :: ns, _, .cons r t => by
    obtain ⟨k, rfl⟩ := r
    exact .cons n k (ints_of t)
section
variable {X : Cx} {K : PySem.W.Frag}
theorem tups_of {pins : List (Addr × Obj)} {σ : St} {H : Hp} {s : Shared} (I : Inv X pins σ H s) : ∀ {vs : List V} {us : List Value} {ls : List (List Int)}, Vals vs us → Paired (TupV X.K H) vs ls → (∀ ns ∈ ls, ns ≠ []) → TupsI s.heap us ls
  | _, _, _, .nil, p, _ => by
    cases p
    exact .nil
  | _, _, _, .cons r t, p, ne => by
    cases p with
    | cons a b =>
      obtain ⟨pt, rfl, hT⟩ := a
      obtain ⟨its, ri, ⟨o, ho, hc, n, hd⟩, _⟩ := I.tuple hT
      cases r
      exact .cons ⟨⟨pt, o, its.toArray, n, rfl, ho, hc, hd, by simpa using ints_of ri⟩, ne _ List.mem_cons_self⟩ (tups_of I t b fun ns h => ne ns (List.mem_cons_of_mem _ h))
theorem getD_vals : ∀ {vs : List V} {us : List Value}, Vals vs us → ∀ i, i < vs.length → RelV (vs.getD i .non) (us.getD i .none)
  | _, _, .cons r t, 0, _ => r
  | _, _, .cons r t, i + 1, hi => by
    have := getD_vals t i (by simpa using hi)
    simpa using this
theorem vals_map {vs : List V} {us : List Value} (r : Vals vs us) : ∀ (q : List Nat), (∀ i ∈ q, i < vs.length) → Vals (q.map fun i => vs.getD i .non) (q.map fun i => us.getD i .none)
  | [], _ => .nil
  | i :: q, h => .cons (getD_vals r i (h i List.mem_cons_self)) (vals_map r q fun j hj => h j (List.mem_cons_of_mem _ hj))
theorem call_sortedT (e : X.K = K) : CallR X (.builtin "sorted") (rSortT K) := by
  subst e
  intro pins s σ H xs us Q I r h
  obtain ⟨l, vs, ls, rfl, hL, hP, ne, h64, q⟩ := h
  obtain ⟨u, rfl, rx⟩ := vals1 r
  cases rx
  obtain ⟨its, r', pl, hz⟩ := I.list hL
  have hlen := r'.length
  have ht := tups_of I r' hP ne
  have hl2 := ht.len
  refine sorted_by (κ := tuples' true) (key := rank ls) pl.isList (by omega) (fun h2 A' h' kp => asks_tups (ht.keep kp) h2) fun p pm sr => ?_
  obtain ⟨c, hc⟩ := sortedAll_at s.heap its (outOf its p)
  have hs := pm.size
  have mem : ∀ i ∈ p.toList, i < its.length := fun i hi => by
    have := (Array.perm_iff_toList_perm.mp pm.perm).mem_iff (a := i)
    have h1 := this.mp hi
    simpa using h1
  have z : (p.toList.map fun i => vs.getD i V.non).length = its.length := by rw [List.length_map, Array.length_toList]; exact hs
  refine ⟨.ref (s.heap.objs.size + 1), _, I.laid (t' := s.toks) (o := .lst (p.toList.map fun i => vs.getD i V.non)) (fun b o eo => sortedAll_old eo) (Nat.le_succ _) ?_, rfl, ?_⟩
  · exact ⟨by rw [z, ← hlen]; exact hz, _, c, vals_map r' p.toList (fun i hi => by rw [hlen]; exact mem i hi), hc⟩
  · refine q p.toList _ _ ?_ ?_ (New.mk0 (I.hok.fresh (Nat.le_succ _)))
    · have := Array.perm_iff_toList_perm.mp pm.perm
      rw [hlen]; exact this
    · rw [List.pairwise_iff_getElem]
      intro i j hi hj hij
      rw [List.length_map, Array.length_toList, hs] at hi hj
      have q1 := sr i j (Nat.le_of_lt hij) hj
      unfold Srt.KK at q1
      have li := pm.lt hi
      have lj := pm.lt hj
      rw [List.getElem_map, List.getElem_map]
      have e1 : p.getD i 0 = p.toList[i]'(by rw [Array.length_toList, hs]; exact hi) := by simp [Array.getD, hs, hi]
      have e2 : p.getD j 0 = p.toList[j]'(by rw [Array.length_toList, hs]; exact hj) := by simp [Array.getD, hs, hj]
      rw [← e1, ← e2]
      intro c
      have z1 := rank_lt (ls := ls) (i := p.getD j 0) (j := p.getD i 0) (by omega)
      rw [decide_eq_true c] at z1
      have := of_decide_eq_true z1
      omega
end
end L2

set_option maxHeartbeats 4100000
namespace Srt
open PySem PySem.W PySem.Calls PySem.Spec PyProof.Rows PySem.MeetsSeq
abbrev lsO (z : Array Value) (n : Nat) : Obj := { cls := .type "list", dict := none, data := .seq z n, slots := #[] }
/-- what is asked of the things at a heap -/
def Same2 (z : Array Value) (x : Value) (eq : Nat → Bool) (A : Around) (h : Heap) : Prop := ∀ s' : Shared, s'.heap = h → ∀ m (hm : m < z.size), SeqAt.EqAt A s' z[m] x (eq m)
end Srt

namespace L2
open PySem PySem.Spec PyProof.Rows Srt
section
variable {X : Cx} {K : PySem.W.Frag}
theorem reads_at {pins : List (Addr × Obj)} {σ : St} {H : Hp} {s : Shared} (I : Inv X pins σ H s) : ∀ {xs : List V} {us : List Value} {ds : List PyData}, Vals xs us → IsDs X.K H xs ds → ds.length = us.length ∧ ∀ i, i < us.length → ∃ as, Reads s.heap (us.getD i .none) (ds.getD i .none) as
  | _, _, _, .nil, .nil => ⟨rfl, fun i h => absurd h (Nat.not_lt_zero _)⟩
  | _, _, _, .cons r t, .cons a b => by
    obtain ⟨e, q⟩ := reads_at I t b
    refine ⟨by rw [List.length_cons, List.length_cons, e], fun i h => ?_⟩
    cases i with
    | zero => exact a.reads I r
    | succ i =>
      have := q i (by simpa using h)
      simpa using this
end
end L2

set_option maxHeartbeats 4100000
namespace L2
open PySem PySem.Spec PyProof.Rows
section
variable {X : Cx} {K : PySem.W.Frag}
end
end L2

set_option maxHeartbeats 1000000
namespace Sm
open PySem














end Sm

set_option maxHeartbeats 1000000
namespace Sm
open PySem







end Sm

set_option maxHeartbeats 1000000
namespace Sm
open PySem

section
variable {prog : Program} {w : World} {A : Around} {E : Value → Shared → Prop} {s : Shared} {B : Bool} {a : Addr} {L : List Nat}
end
end Sm

set_option maxHeartbeats 2000000
namespace Sm
open PySem

section
variable {prog : Program} {w : World} {A : Around} {E : Value → Shared → Prop} {s : Shared} {a : Addr} {L : List Nat}
end
end Sm

set_option maxHeartbeats 2000000
namespace Sm
open PySem
section
variable {prog : Program} {w : World} {A : Around} {E : Value → Shared → Prop} {s : Shared} {sA oA : Addr} {L1 L2 : List Nat}
end
end Sm

set_option maxHeartbeats 2000000
namespace Sm
open PySem PySem.Builtin.Frozenset
section
variable {prog : Program} {w : World} {A : Around} {E : Value → Shared → Prop} {s : Shared} {a b : Addr} {L1 L2 : List Nat}
end
end Sm

set_option maxHeartbeats 4000000
namespace Sm
open PySem
end Sm

set_option maxHeartbeats 4000000
namespace Sm
open PySem
section
variable {prog : Program} {w : World} {A : Around} {E : Value → Shared → Prop} {s : Shared} {a : Addr} {L : List Nat}
end
end Sm

set_option maxHeartbeats 4000000
namespace Sm
open PySem PyProof.Rows
section
variable {prog : Program} {w : World} {A : Around} {E : Value → Shared → Prop} {s : Shared} {a : Addr} {L : List Nat}
end
end Sm

set_option maxHeartbeats 4000000
namespace Sm
open PySem PyProof.Rows
section
variable {prog : Program} {w : World} {A : Around} {R : Result → Shared → Prop} {I : Addr} {fp wr : List Addr} {G : Array GenState → Array GenState → Prop} {n : Nat} {P : Nat → Value → Prop} {St : Nat → Shared → Prop}
end
section
variable {prog : Program} {w : World} {A : Around} {E : Value → Shared → Prop} {s : Shared}
end
end Sm

set_option maxHeartbeats 4100000
namespace L2
open PySem PySem.Spec PyProof.Rows Sm
def rSortI (K : PySem.W.Frag) : List V → Hp → VK → Prop := fun xs H Q => ∃ l ns, xs = [.ref l] ∧ SqL K H l (List.map V.int ns) ∧ ns.length < 64 ∧ ∀ p H' zs, New H p (.lst (List.map V.int zs)) H' → zs.Perm ns → zs.Pairwise (· ≤ ·) → Q (.ref p) H'
theorem ints_from : ∀ {vs : List Value} {ns : List Int}, IntsAre vs ns → Vals (ns.map V.int) vs
  | _, _, .nil => .nil
  | _, _, .cons n t r => .cons ⟨t, rfl⟩ (ints_from r)
section
variable {X : Cx} {K : PySem.W.Frag} {w : World}
theorem call_sortedI (e : X.K = K) : CallR X (.builtin "sorted") (rSortI K) := by
  subst e
  intro pins s σ H xs us Q I r h
  obtain ⟨l, ns, rfl, hL, h64, q⟩ := h
  obtain ⟨u, rfl, rx⟩ := vals1 r
  cases rx
  obtain ⟨its, r', pl, hz⟩ := I.list hL
  have hlen := r'.length
  rw [List.length_map] at hlen
  refine sorted_ints (ns := ns) pl.isList (ints_of r') (by omega) fun out zs hi pm le => ?_
  obtain ⟨c, hc⟩ := sortedAll_at s.heap its out
  refine ⟨.ref (s.heap.objs.size + 1), _, I.laid (t' := s.toks) (o := .lst (zs.map V.int)) (fun b o eo => sortedAll_old eo) (Nat.le_succ _) ⟨?_, out.toList, c, ints_from hi, by simpa using hc⟩, rfl, q _ _ zs (New.mk0 (I.hok.fresh (Nat.le_succ _))) pm le⟩
  rw [List.length_map, pm.length_eq, sizeLine_eq]
  omega
end
end L2

namespace L2
open PySem PySem.Spec PyProof.Rows
theorem us1 {A : Type} {us : List A} {P : List A → Prop} (h : us.length = 1) (f : ∀ a, P [a]) : P us := by
  match us, h with
  | [a], _ => exact f a
theorem us2 {A : Type} {us : List A} {P : List A → Prop} (h : us.length = 2) (f : ∀ a b, P [a, b]) : P us := by
  match us, h with
  | [a, b], _ => exact f a b
theorem us3 {A : Type} {us : List A} {P : List A → Prop} (h : us.length = 3) (f : ∀ a b c, P [a, b, c]) : P us := by
  match us, h with
  | [a, b, c], _ => exact f a b c
theorem dn_mk1 {K : PySem.W.Frag} {h : Heap} {mg : Str → Option Value} {x : Str} {st : Stmt} {ps : List Str} {f : Addr} {oc : Value} {od an : Option Addr} {osl : Array (Option Value)} {kV doc pm cdv ct : Value} (X : K.In h) (G : h.Ns mainGlobals mg)
    (a : PySem.W.nsIn K mainGlobals x = some (some (.ref f))) (l : K.lookup f = some ⟨oc, od, .func (PySem.W.fnOf x x (defArgs st) (defBody st) (defScope st) .none kV doc pm an cdv ct), osl⟩) (c : PySem.W.codeIn K cdv x = true) (k : PySem.W.keepIn K (.ref f) = true)
    (hp : ps.length = 1)
    (hb : ∀ (kV doc pm : Value) (an : Option Addr) (cdv ct : Value) (u0 : Value), bindArgs (PySem.W.fnOf x x (defArgs st) (defBody st) (defScope st) .none kV doc pm an cdv ct) ⟨[u0], []⟩ = pure (ps.zip [u0])) :
    Nonempty (Dn K mg x st ps) :=
  dn_mk X G a l c k fun kV doc pm an cdv ct us hl => us1 (P := fun us => bindArgs (PySem.W.fnOf x x (defArgs st) (defBody st) (defScope st) .none kV doc pm an cdv ct) ⟨us, []⟩ = pure (ps.zip us)) (hl.trans hp) fun u0 => hb kV doc pm an cdv ct u0
theorem dn_mk2 {K : PySem.W.Frag} {h : Heap} {mg : Str → Option Value} {x : Str} {st : Stmt} {ps : List Str} {f : Addr} {oc : Value} {od an : Option Addr} {osl : Array (Option Value)} {kV doc pm cdv ct : Value} (X : K.In h) (G : h.Ns mainGlobals mg)
    (a : PySem.W.nsIn K mainGlobals x = some (some (.ref f))) (l : K.lookup f = some ⟨oc, od, .func (PySem.W.fnOf x x (defArgs st) (defBody st) (defScope st) .none kV doc pm an cdv ct), osl⟩) (c : PySem.W.codeIn K cdv x = true) (k : PySem.W.keepIn K (.ref f) = true)
    (hp : ps.length = 2)
    (hb : ∀ (kV doc pm : Value) (an : Option Addr) (cdv ct : Value) (u0 u1 : Value), bindArgs (PySem.W.fnOf x x (defArgs st) (defBody st) (defScope st) .none kV doc pm an cdv ct) ⟨[u0, u1], []⟩ = pure (ps.zip [u0, u1])) :
    Nonempty (Dn K mg x st ps) :=
  dn_mk X G a l c k fun kV doc pm an cdv ct us hl => us2 (P := fun us => bindArgs (PySem.W.fnOf x x (defArgs st) (defBody st) (defScope st) .none kV doc pm an cdv ct) ⟨us, []⟩ = pure (ps.zip us)) (hl.trans hp) fun u0 u1 => hb kV doc pm an cdv ct u0 u1
theorem dn_mk3 {K : PySem.W.Frag} {h : Heap} {mg : Str → Option Value} {x : Str} {st : Stmt} {ps : List Str} {f : Addr} {oc : Value} {od an : Option Addr} {osl : Array (Option Value)} {kV doc pm cdv ct : Value} (X : K.In h) (G : h.Ns mainGlobals mg)
    (a : PySem.W.nsIn K mainGlobals x = some (some (.ref f))) (l : K.lookup f = some ⟨oc, od, .func (PySem.W.fnOf x x (defArgs st) (defBody st) (defScope st) .none kV doc pm an cdv ct), osl⟩) (c : PySem.W.codeIn K cdv x = true) (k : PySem.W.keepIn K (.ref f) = true)
    (hp : ps.length = 3)
    (hb : ∀ (kV doc pm : Value) (an : Option Addr) (cdv ct : Value) (u0 u1 u2 : Value), bindArgs (PySem.W.fnOf x x (defArgs st) (defBody st) (defScope st) .none kV doc pm an cdv ct) ⟨[u0, u1, u2], []⟩ = pure (ps.zip [u0, u1, u2])) :
    Nonempty (Dn K mg x st ps) :=
  dn_mk X G a l c k fun kV doc pm an cdv ct us hl => us3 (P := fun us => bindArgs (PySem.W.fnOf x x (defArgs st) (defBody st) (defScope st) .none kV doc pm an cdv ct) ⟨us, []⟩ = pure (ps.zip us)) (hl.trans hp) fun u0 u1 u2 => hb kV doc pm an cdv ct u0 u1 u2
end L2

set_option maxHeartbeats 4100000
namespace Srt
open PySem PySem.W PySem.Calls PySem.Spec PyProof.Rows PySem.MeetsSeq
theorem find_go {l : Addr} {z : Array Value} {n : Nat} {x : Value} {eq : Nat → Bool} {j : Nat} {tp : Int} (hj : j < z.size) (hit : eq j = true) (ju : (j : Int) < tp) (k : Nat) :
    ∀ i : Nat, j - i = k → i ≤ j → (∀ m (hm : m < z.size), i ≤ m → m < j → eq m = false) → Meets (Builtin.«list.index.loop» ⟨[.ref l, x, rawInt i, rawInt tp], []⟩)
      (fun A R s => s.heap.get? l = some (lsO z n) ∧ Same2 z x eq A.in1 s.heap ∧ R (.ok (.ret (.int j s.toks))) { s with toks := s.toks + 1 }) := by
  induction k with
  | zero =>
    intro i hk ij hn prog w A R s h
    obtain ⟨hp, g, d, tq, os⟩ := s
    obtain ⟨ol, he, h⟩ := h
    obtain rfl : i = j := by omega
    wp_walk using wpAny_loadPart' ol
    rw [show (if (i : Int) < tp then z[((i : Nat) : Int).toNat]? else none) = some z[i] by simp [ju, hj]]
    refine wpAny_bind (he _ rfl i hj prog w _ _ ?_)
    rw [hit]
    wp_walk
    exact h
  | succ k ih =>
    intro i hk ij hn prog w A R s h
    obtain ⟨hp, g, d, tq, os⟩ := s
    obtain ⟨ol, he, h⟩ := h
    have lb : i < z.size := by omega
    have lt : (i : Int) < tp := by omega
    wp_walk using wpAny_loadPart' ol
    rw [show (if (i : Int) < tp then z[((i : Nat) : Int).toNat]? else none) = some z[i] by simp [lt, lb]]
    refine wpAny_bind (he _ rfl i lb prog w _ _ ?_)
    rw [hn i lb (Nat.le_refl _) (by omega)]
    wp_walk
    rw [show ((i : Int) + 1) = ((i + 1 : Nat) : Int) by push_cast; rfl]
    refine ⟨plainId_quiet plain_index_loop _, codeAny_builtin entry_index_loop ?_⟩
    rw [Around.under_plainId plain_index_loop _]; exact ih (i + 1) (by omega) (by omega) (fun m hm h1 h2 => hn m hm (by omega) h2) prog w A R _ ⟨ol, he, h⟩
theorem find_at {l : Addr} {z : Array Value} {n : Nat} {x : Value} {eq : Nat → Bool} {j : Nat} (hj : j < z.size) (hit : eq j = true) (small : (j : Int) < 2 ^ 63 - 1) (hn : ∀ m (hm : m < z.size), m < j → eq m = false) :
    Meets (Builtin.«list.index» ⟨[.ref l, x], []⟩) (fun A R s => s.heap.get? l = some (lsO z n) ∧ Same2 z x eq A.in1 s.heap ∧ R (.ok (.ret (.int j s.toks))) { s with toks := s.toks + 1 }) := by
  intro prog w A R s h
  obtain ⟨hp, g, d, tq, os⟩ := s
  obtain ⟨ol, he, h⟩ := h
  wp_walk using wpAny_loadPart' ol
  rw [show ((fun i : Int => if i < 0 then max 0 (i + (z.size : Int)) else i) ((none : Option Int).getD 0)) = ((0 : Nat) : Int) by simp, show ((fun i : Int => if i < 0 then max 0 (i + (z.size : Int)) else i) ((none : Option Int).getD (2 ^ 63 - 1))) = 2 ^ 63 - 1 by simp]
  refine ⟨plainId_quiet plain_index_loop _, codeAny_builtin entry_index_loop ?_⟩
  rw [Around.under_plainId plain_index_loop _]; exact find_go (tp := 2 ^ 63 - 1) hj hit small _ 0 rfl (Nat.zero_le _) (fun m hm _ h2 => hn m hm h2) prog w A R _ ⟨ol, he, h⟩
end Srt
namespace L2
open PySem PySem.Spec PyProof.Rows Srt
section
variable {X : Cx} {K : PySem.W.Frag}
/-- xs.index(v): the first that equals v, as data -/
def rIdxD (K : PySem.W.Frag) : V → List V → Hp → VK → Prop := fun x vs H Q => ∃ l xs y d ds j, x = .ref l ∧ vs = [y] ∧ H l = some (.lst xs) ∧ IsD K H y d ∧ IsDs K H xs ds ∧ SeqAt.shaped d = true ∧ (∀ e ∈ ds, SeqAt.shaped e = true) ∧ xs.length ≤ 1000 ∧
  j < xs.length ∧ PyData.eqv (ds.getD j .none) d = true ∧ (∀ m < j, PyData.eqv (ds.getD m .none) d = false) ∧ Q (.int (j : Int)) H
theorem mt_idxD (e : X.K = K) (hv : X.A.units + 65 < cLine) : MtM X "list.index" (rIdxD K) := by
  subst e
  intro pins s σ H x vs v us Q I rx rv h
  obtain ⟨l, xs, y, d, ds, j, rfl, rfl, hH, hd, hds, sd, sds, h1000, hj, hit, hn, q⟩ := h
  cases rx
  obtain ⟨u, rfl, ru⟩ := vals1 rv
  obtain ⟨z, its, n, r, ol, e⟩ := I.lstM hH
  have hlen := r.length
  obtain ⟨as, ra⟩ := hd.reads I ru
  obtain ⟨el, rs⟩ := reads_at I r hds
  have hjz : j < its.toArray.size := by rw [List.size_toArray]; omega
  refine call_meets F.slot_list_index ⟨_, e, rfl⟩ F.entry_list_index (F.args_list_index_2 _ _) (find_at (z := its.toArray) (eq := fun m => PyData.eqv (ds.getD m .none) d) hjz hit (by omega) (fun m _ hm => hn m hm)) ⟨e, fun s' es m hm => ?_, ?_⟩
  · have hm' : m < its.length := by simpa using hm
    obtain ⟨bs, rb⟩ := rs m hm'
    have eg : its.getD m .none = its.toArray[m] := by simp [hm']
    rw [eg] at rb
    have sm : SeqAt.shaped (ds.getD m .none) = true := sds _ (by rw [List.getD_eq_getElem?_getD, List.getElem?_eq_getElem (by omega)]; exact List.getElem_mem _)
    rw [← es] at rb ra
    refine SeqAt.eqAt_reads _ _ _ _ _ _ _ _ rb ra (SeqAt.canLay_of_shaped sm) (SeqAt.canLay_of_shaped sd) (SeqAt.room_of_shaped sm ?_)
    exact hv
  · exact ⟨.int j, H, I.tok _, ⟨_, rfl⟩, q⟩
end
end L2

namespace L2
open PySem PySem.Spec PySem.Calls PyProof.Rows PySem.Builtin

/-! ### an exception whose context is none -/
def Ctx0 (h : Heap) (e : Addr) : Prop := ∃ o vs, h.get? e = some o ∧ o.data = .fields vs ∧ vs[2]? = some .none
theorem Ctx0.keep {h g : Heap} {e : Addr} (c : Ctx0 h e) (k : ∀ o, h.get? e = some o → g.get? e = some o) : Ctx0 g e := by
  obtain ⟨o, vs, a, b, d⟩ := c
  exact ⟨o, vs, k o a, b, d⟩
theorem Ctx0.at {h : Heap} {e : Addr} (c : Ctx0 h e) {o : Obj} {vs : Array Value} (a : h.get? e = some o) (b : o.data = .fields vs) : vs[2]? = some .none := by
  obtain ⟨o', vs', a', b', d⟩ := c
  rw [a] at a'
  cases a'
  rw [b] at b'
  cases b'
  exact d
section
variable {M : Model} {A : Around} {E : Value → Shared → Prop} {s : Shared} {base : Heap} {env : Env} {outer : List Env} {L e : Addr} {cls a0 : Value}
/-- the row of the traceback is written -/
theorem entryX {ob : Obj} {fs : Array Value} {first : Value} {nx : Bool} {Q : Unit → Shared → Prop} (fr : A.frames = some (env :: outer)) (ff : s.heap.FunFrames base (env :: outer)) (ef : env.frame = some L)
    (ge : s.heap.get? e = some ob) (st : base.StaysIn s.heap) (nb : base.get? e = none) (dv : ob.data = .fields fs) (big : 1 < fs.size) (arg : fs[0]? = some a0) (cx : fs[2]? = some .none)
    (k : ∀ g, Heap.NotedW base (env :: outer) e ob.cls a0 (rawInt L) s.heap g → Ctx0 g e → Q () { s with heap := g }) :
    wpAny M A (do let fo ← frameOf env; let pl ← entryPlaceOf L nx; let tb ← EntryCells.newEntry first fo .none (rawInt L) .none pl; setField (.ref e) 1 tb) Q E s := by
  have far : e ∉ (env :: outer).filterMap (·.frame) := fun z => by
    obtain ⟨_, o, ho, nf⟩ := ff.mem z
    rw [ge] at ho
    cases ho
    exact nf fs dv
  refine wpAny_bind (wpAny_frameOf_fun fr ff ef fun g1 so => ?_)
  refine wpAny_bind (wpAny_entryPlaceOf fun pl hp => ?_)
  unfold EntryCells.newEntry newFields
  refine wpAny_bind (wpAny_newObj_type ?_ (hp.sizeOk5 _ _ _ _ _))
  generalize hN : ({ cls := .type "traceback", dict := none, data := .fields ([first, .ref L, .none, rawInt L, .none] ++ (if pl.isEmpty then List.replicate 6 Value.none else pl)).toArray } : Obj) = nw
  have ge1 : g1.get? e = some ob := (so.2.1 e far).trans ge
  have st1 : base.StaysIn g1 := fun b o q => (so.2.1 b fun z => by rw [(ff.mem z).1] at q; cases q).trans (st b o q)
  have ge2 : (g1.push nw).get? e = some ob := Heap.get?_push_of_some nw ge1
  refine wpAny_setField ge2 dv big ?_
  have ne : g1.objs.size ≠ e := Nat.ne_of_gt (Heap.lt_size ge1)
  have d3 := Obj.data_mapFields dv (·.setIfInBounds 1 (Value.ref g1.objs.size))
  have g3 := Heap.get?_update_self (Obj.mapFields (·.setIfInBounds 1 (Value.ref g1.objs.size))) ge2 (Obj.isFreed_of_fields d3)
  have fresh : nw.isFreed = false := by rw [← hN]; rfl
  have t3 : ((g1.push nw).update e (Obj.mapFields (·.setIfInBounds 1 (Value.ref g1.objs.size)))).get? g1.objs.size = some nw := (Heap.get?_update_other _ _ (Ne.symm ne)).trans (Heap.get?_push_size g1 fresh)
  have stay : ∀ b o, b ≠ e → g1.get? b = some o → ((g1.push nw).update e (Obj.mapFields (·.setIfInBounds 1 (Value.ref g1.objs.size)))).get? b = some o := fun b o z q => by
    rw [Heap.get?_update_other _ _ (Ne.symm z)]
    exact Heap.get?_push_of_some nw q
  have other : ∀ b o, s.heap.get? b = some o → (∀ vs, o.data ≠ .fields vs) → b ≠ e := fun b o q nf z => by
    rw [z, ge] at q
    cases q
    exact nf fs dv
  refine k _ ⟨fun b o q => stay b o (fun z => by rw [z, nb] at q; cases q) (st1 b o q), ff.of_keeps fun b o q nf => ?_, ?_, fun b o q nf => ?_⟩ ⟨_, _, g3, d3, ?_⟩
  · obtain ⟨sl, q1⟩ := so.2.2 b o q
    exact ⟨_, stay b _ (other b o q nf) q1, rfl⟩
  · refine ⟨_, _, g1.objs.size, nw, ([first, .ref L, .none, rawInt L, .none] ++ (if pl.isEmpty then List.replicate 6 Value.none else pl)).toArray, g3, ⟨Obj.cls_mapFields _ _, ?_⟩, d3, ?_, st1.fresh, ne, t3, ?_, ?_⟩
    · rw [Array.getElem?_setIfInBounds_ne (by decide)]
      exact arg
    · simp [big]
    · rw [← hN]
    · first | (simp; done) | (rcases hp with rfl | ⟨_, _, _, _, _, _, _, rfl⟩ <;> simp)
  · obtain ⟨sl, q1⟩ := so.2.2 b o q
    exact ⟨sl, stay b _ (other b o q nf) q1⟩
  · rw [Array.getElem?_setIfInBounds_ne (by decide)]
    exact cx
/-- the mark is taken off -/
theorem flightX {l : List Env} {fl : Value} {Q : Unit → Shared → Prop} (st : base.StaysIn s.heap) (ff : s.heap.FunFrames base l) (tr : s.heap.TracedAtW base e cls a0 fl) (c : Ctx0 s.heap e)
    (k : ∀ g, base.StaysIn g → g.FunFrames base l → g.TracedW base e cls a0 → s.heap.UpToSlots g → Ctx0 g e → Q () { s with heap := g }) : wpAny M A (setFlight (.ref e) none) Q E s := by
  obtain ⟨ob, fs, T, oT, ts, x1, x2, x3, x4, x5, x6, x7, x8, x9⟩ := tr
  have big : 3 < ts.size := (Array.getElem?_eq_some_iff.mp x9).1
  have far : ∀ b o, s.heap.get? b = some o → (∀ vs, o.data ≠ .fields vs) → b ≠ T := fun b o q nf z => by
    rw [z, x7] at q
    cases q
    exact nf ts x8
  unfold setFlight
  refine wpAny_bind (wpAny_field x1 x3 x4 ?_)
  rw [if_pos (by simp)]
  refine wpAny_setField x7 x8 big (k _ (fun b o q => ?_) (ff.of_keeps fun b o q nf => ⟨o, ?_, rfl⟩) ?_ (fun b o q nf => ⟨o.slots, ?_⟩) (c.keep fun o q => ?_))
  · exact (Heap.get?_update_other _ _ fun z => by rw [← z, x5] at q; cases q).trans (st b o q)
  · exact (Heap.get?_update_other _ _ (Ne.symm (far b o q nf))).trans q
  · exact ⟨ob, fs, T, _, _, (Heap.get?_update_other _ _ x6).trans x1, x2, x3, x4, x5, x6, Heap.get?_update_self _ x7 (Obj.isFreed_of_fields (Obj.data_mapFields x8 _)), Obj.data_mapFields x8 _, by simp [big]⟩
  · exact (Heap.get?_update_other _ _ (Ne.symm (far b o q nf))).trans q
  · exact (Heap.get?_update_other _ _ x6).trans q
/-- the frame is noted where the exception flies -/
theorem noteX {Q : Unit → Shared → Prop} (fr : A.frames = some (env :: outer)) (ef : env.frame = some L) (fly : Heap.FlyingW base (env :: outer) e cls a0 s.heap) (c : Ctx0 s.heap e)
    (k : ∀ g, Heap.HeldW base (env :: outer) e cls a0 L g → s.heap.UpToSlots g → Ctx0 g e → Q () { s with heap := g }) : wpAny M A (noteFrame (.ref e) env) Q E s := by
  obtain ⟨st, nb, ff, ob, fs, T, oT, ts, x1, ⟨x2, x2'⟩, x3, x4, x5, x6, x7, x8, x9⟩ := fly
  subst x2
  have far : ∀ b o, s.heap.get? b = some o → (∀ vs, o.data ≠ .fields vs) → b ≠ T := fun b o q nf z => by
    rw [z, x7] at q
    cases q
    exact nf ts x8
  unfold noteFrame
  simp only [ef]
  refine wpAny_bind (wpAny_field x1 x3 x4 ?_)
  rw [if_pos (by simp)]
  refine wpAny_bind (wpAny_field x7 x8 x9 ?_)
  rw [if_neg (by simp [rawInt])]
  refine wpAny_bind (wpAny_setField x7 x8 (Array.getElem?_eq_some_iff.mp x9).1 ?_)
  refine entryX fr (ff.of_keeps fun b o q nf => ⟨o, (Heap.get?_update_other _ _ (Ne.symm (far b o q nf))).trans q, rfl⟩) ef ((Heap.get?_update_other _ _ x6).trans x1) (fun b o q => (Heap.get?_update_other _ _ fun z => by rw [← z, x5] at q; cases q).trans (st b o q)) nb x3 (Array.getElem?_eq_some_iff.mp x4).1 x2' (c.at x1 x3) fun g ⟨y1, y2, y3, y4⟩ cg => ?_
  exact k g ⟨y1, nb, y2, y3⟩ (fun b o q nf => y4 b o ((Heap.get?_update_other _ _ (Ne.symm (far b o q nf))).trans q) nf) cg
theorem landX {l : List Env} {Q : Unit → Shared → Prop} (h : Heap.HeldW base l e cls a0 L s.heap) (c : Ctx0 s.heap e) (k : ∀ g, Heap.FlyingW base l e cls a0 g → s.heap.UpToSlots g → Ctx0 g e → Q () { s with heap := g }) : wpAny M A (setFlight (.ref e) none) Q E s := by
  obtain ⟨x1, x2, x3, x4⟩ := h
  exact flightX x1 x3 x4 c fun g y1 y2 y3 y4 y5 => k g ⟨y1, x2, y2, y3⟩ y4 y5
theorem flyX_again {l : List Env} {Q : Unit → Shared → Prop} (fly : Heap.FlyingW base l e cls a0 s.heap) (c : Ctx0 s.heap e) (k : ∀ g, Heap.FlyingW base l e cls a0 g → s.heap.UpToSlots g → Ctx0 g e → Q () { s with heap := g }) : wpAny M A (setFlight (.ref e) none) Q E s := by
  obtain ⟨x1, x2, x3, x4⟩ := fly
  exact flightX x1 x3 x4.at c fun g y1 y2 y3 y4 y5 => k g ⟨y1, x2, y2, y3⟩ y4 y5
/-- a new exception leaves the def that made it -/
theorem madeX {h : Heap} {args : List Value} {Q : Unit → Shared → Prop} (fr : A.frames = some (env :: outer)) (ef : env.frame = some L) (st : base.StaysIn h) (ff : h.FunFrames base (env :: outer)) (m : Heap.MadeExcOf h s.heap e cls args)
    (k : ∀ g t, Heap.FlyingW base outer e cls (.ref t) g → s.heap.UpToSlots g → Ctx0 g e → Q () { s with heap := g }) : wpAny M A (leaving env (.ref e)) Q E s := by
  obtain ⟨t, x1, x2, x3⟩ := m.there
  have out : ∀ b, h.get? b = none → base.get? b = none := fun b q => by
    cases z : base.get? b with
    | none => rfl
    | some o =>
      have := st b o z
      rw [q] at this
      cases this
  unfold leaving noteFrame
  simp only [ef]
  refine wpAny_bind (wpAny_bind (wpAny_field x1 rfl (x := .none) rfl ?_))
  rw [if_neg (by decide)]
  refine wpAny_mono (entryX (a0 := .ref t) fr (ff.of_keeps fun b o q _ => ⟨o, m.keeps b o q, rfl⟩) ef x1 (fun b o q => m.keeps b o (st b o q)) (out e m.new) rfl (by simp) rfl rfl fun g ⟨y1, y2, y3, y4⟩ cg => ?_) (fun _ _ z => z) (fun _ _ z => z)
  refine flightX y1 y2 y3 cg fun g2 z1 z2 z3 z4 z5 => ?_
  obtain ⟨_, _, z2'⟩ := z2
  exact k g2 t ⟨z1, out e m.new, z2', z3⟩ (Heap.UpToSlots.trans y4 z4) z5
end
end L2

namespace L2
open PySem PySem.Spec PySem.Calls PyProof.Rows PySem.Builtin PySem.Builtin.ObjectAttr

abbrev veBases : List Value := [.type "ValueError", .type "Exception", .type "BaseException", .type "object"]
/-- what the fragment tells of a class of exceptions of the text's own -/
structure Xk (K : PySem.W.Frag) (C : Addr) : Prop where
  ga : PySem.W.findIn K (.ref C) "__getattribute__" = some (some (.builtin "BaseException.__getattribute__"))
  gh : PySem.W.findIn K (.ref C) "__getattr__" = some none
  ca : PySem.W.findIn K (.ref C) "__class__" = some (some (.builtin "object.__class__"))
  gt : PySem.W.specialIn K (.builtin "object.__class__") "__get__" = some (some (.builtin "getset_descriptor.__get__"))
  tk : PySem.W.takesIn K (.builtin "object.__class__") = some true
  mo : PySem.W.mroIn K C (.type "object") = some true
  mb : PySem.W.mroIn K C (.type "BaseException") = some true
  ex : PySem.W.excIn K C veBases "ValueError.__new__" = true

/-- an object of that class -/
def AtC (x C : Addr) (h : Heap) : Prop := ∃ o, h.get? x = some o ∧ o.cls = .ref C
section
variable {prog : Program} {w : World} {A : Around} {E : Value → Shared → Prop} {s : Shared} {K : PySem.W.Frag} {x C : Addr}
theorem AtC.type {M : Model} {h : Heap} (I : AtC x C h) : PySem.W.Looks M h (typeOf (.ref x)) (.ref C) := by
  obtain ⟨o, h1, h2⟩ := I
  exact h2 ▸ (PySem.W.Looks.ld h1).andThen .now
theorem xfind {M : Model} {h : Heap} (X : K.In h) (k : Xk K C) : PySem.W.Looks M h (find (.ref x) (.ref C) "__class__") (.bind (.builtin "getset_descriptor.__get__") (.builtin "object.__class__")) := by
  have L3 := PySem.W.looks_takesIn (M := M) X k.tk
  refine (PySem.W.looks_findIn X k.ca).andThen ((show PySem.W.Looks M h (getOf (some (.builtin "object.__class__"))) _ from PySem.W.looks_specialIn X k.gt).andThen ?_)
  have q : PySem.W.Looks M h (dataDescriptor? (some (.builtin "object.__class__")) (some (.builtin "getset_descriptor.__get__"))) (some (.builtin "getset_descriptor.__get__", .builtin "object.__class__")) := L3.andThen .now
  exact q.andThen (PySem.W.Looks.tag .now)
theorem xclass_get {R : Result → Shared → Prop} {tp : Value} (X : K.In s.heap) (I : AtC x C s.heap) (k : Xk K C)
    (h : R (.ok (.ret (.ref C))) s) : codeAny (model prog w) A (.call (.builtin "getset_descriptor.__get__") ⟨[.builtin "object.__class__", .ref x, tp], []⟩) R s := by
  obtain ⟨hp, g, dr, t, os⟩ := s
  have L0 := I.type (M := model prog w)
  have L1 := PySem.W.looks_mroIn (M := model prog w) X k.mo
  have gs := PySem.W.KF.slot_gs
  refine codeAny_call_builtin gs.plain PySem.W.KF.entry_gs (gs.check _ _ _ _ _ _ _ _ PySem.W.KF.type_class (PySem.W.KF.args_gs _ _ _) ?_)
  unfold Builtin.«getset_descriptor.__get__»; unfold Builtin.Getset_descriptor.descrGet
  rw [PySem.W.dga_obj]; refine wpAny_bind (wpAny_pure ?_)
  unfold Builtin.Getset_descriptor.descrGetter Builtin.Getset_descriptor.descrCheckInstance Builtin.Getset_descriptor.descrNameAndClass isInstance
  simp only [PySem.W.KF.owner_class]; repeat lk
  refine ⟨Code.quiet_builtin _ (by decide +kernel), codeAny_builtin PySem.W.KF.entry_class ?_⟩
  unfold Builtin.«object.__class__»; unfold shownTypeOf; repeat lk
  exact h
/-- x.__class__ -/
theorem xclass {Q : Option Value → Shared → Prop} (X : K.In s.heap) (I : AtC x C s.heap) (k : Xk K C) (h : Q (some (.ref C)) { s with toks := s.toks + 1 }) :
    wpAny (model prog w) A (getAttr? (.ref x) "__class__") Q E s := by
  obtain ⟨hp, g, dr, t, os⟩ := s
  have L0 := I.type (M := model prog w)
  have L1 := PySem.W.looks_findIn (M := model prog w) X k.ga
  have L2 := PySem.W.looks_findIn (M := model prog w) X k.gh
  have L3 := xfind (M := model prog w) (x := x) X k
  have L4 := PySem.W.looks_mroIn (M := model prog w) X k.mb
  have ga := PySem.F.attr_ValueError.ga
  unfold getAttr? getAttrBy? getAttrBy
  refine wpAny_bind (wpAny_mkText (wpAny_bind (wpAny_attempt (wpAny_holding (wpAny_bind (L0.at (wpAny_bind (L1.at ?_))))))))
  show wpAny _ _ (getAttrByItsOwn _ _ _ _ _ _) _ _ _
  unfold getAttrByItsOwn hookBefore
  refine wpAny_bind ?_
  show wpAny _ _ (typeLookup (.ref C) "__getattr__") _ _ _
  refine L2.at ?_
  refine wpAny_bind (wpAny_attempt (wpAny_holding ?_))
  show wpAny _ _ (boundAndCalled _ _ _) _ _ _
  unfold boundAndCalled
  rw [ga.bind]
  refine wpAny_bind (wpAny_pure ?_)
  refine wpAny_call (codeAny_call_builtin ga.plain PySem.F.entry_bexc_ga ?_)
  have hk : builtinKind "BaseException.__getattribute__" = some .slot := by decide +kernel
  have hsp : splitId "BaseException.__getattribute__" = some ("BaseException", "__getattribute__") := by decide +kernel
  have LI : PySem.W.Looks (model prog w) hp (isInstance (.ref x) (.type "BaseException")) true := L0.andThen L4
  have ha := PySem.F.args_bexc_ga (.ref x) (.str "__class__" t)
  simp only [checkBuiltinCall, hk, hsp]
  refine wpAny_bind (LI.at ?_)
  repeat lk
  refine wpAny_run (c := .call _ _) (h := none) (xclass_get (s := ⟨hp, g, dr, t + 1, os⟩) X I k ?_)
  dsimp only
  refine wpAny_pure (wpAny_pure ?_)
  dsimp only
  exact wpAny_pure (wpAny_pure h)
theorem xkit (k : Xk K C) : PySem.W.KitX K (.ref x) (.ref C) (AtC x C) where
  ty := fun _ _ _ I => I.type
  it := fun M h X _ => by
    have q := k.mo
    unfold PySem.W.mroIn at q
    obtain ⟨cd, hc, _⟩ := Option.bind_eq_some_iff.mp q
    unfold PySem.W.clsIn at hc
    split at hc
    · rename_i c' d' cd' sl' ho
      intro A' Q' E' s' kk qq
      unfold isType; unfold loadHead
      exact wpAny_bind (wpAny_loadPart (kk _ _ (X _ _ ho)) (wpAny_pure qq))
    · cases hc
  ne := fun h tp dd its n sl X htp => by
    have q := k.mo
    unfold PySem.W.mroIn at q
    obtain ⟨cd, hc, _⟩ := Option.bind_eq_some_iff.mp q
    refine Bool.eq_false_iff.mpr fun z => ?_
    have e : C = tp := Value.ref.inj (beq_iff_eq.mp z)
    subst e
    unfold PySem.W.clsIn at hc
    split at hc
    · rename_i ho
      cases (X _ _ ho).symm.trans htp
    · cases hc
  ca := fun X I q => xclass X I k q
end
/-- a caught exception of the class at C -/
def ExcO (p C : Addr) : HO := .ext (fun h => AtC p C h ∧ Ctx0 h p)
theorem excO_ok {P : Program} {w : World} {H : Hp} {h : Heap} {p C : Addr} (a : AtC p C h) (x : Ctx0 h p) : ObjOk P w H h p (ExcO p C) :=
  ⟨⟨a, x⟩, let ⟨o, e, _⟩ := a; ⟨o, e⟩, fun h1 h2 ⟨⟨o, e, c⟩, x⟩ k => ⟨⟨o, k o e, c⟩, x.keep k⟩⟩
section
variable {X : Cx}
/-- isinstance(e, c) for a caught e -/
def rIsinX (K : PySem.W.Frag) : List V → Hp → VK → Prop := fun xs H Q => ∃ p C c cv b, xs = [.ref p, c] ∧ H p = some (ExcO p C) ∧ Xk K C ∧ clsV c = some cv ∧ PySem.W.kitOne K (.ref C) cv = some b ∧ Q (.bl b) H
theorem call_isinX {K : PySem.W.Frag} (e : X.K = K) : CallR X (.builtin "isinstance") (rIsinX K) := by
  subst e
  intro pins s σ H xs us Q I r h
  obtain ⟨p, C, c, cv, b, rfl, ep, k, hc, hk, q⟩ := h
  obtain ⟨u1, u2, rfl, r1, r2⟩ := vals2 r
  obtain rfl := clsV_rel hc r2
  cases (show u1 = Value.ref p from r1)
  obtain ⟨⟨a, _⟩, _⟩ := (show ObjOk X.prog X.w H s.heap p (ExcO p C) from I.hok p _ ep)
  exact PySem.W.kia_one (xkit k) I.kIn a hk (fun z => nomatch z) fun tk => ⟨.bl b, H, I.tok tk, rfl, q⟩
end
end L2

namespace L2
open PySem PySem.Spec PySem.Calls PyProof.Rows

/-- what is kept of h in B, the heap at the raise without the frames at fs -/
structure UnB (fs : List Addr) (H H' : Hp) (h B : Heap) : Prop where
  keep : ∀ b o, h.get? b = some o → H b = none → b ∉ fs → B.get? b = some o
  free : ∀ b o, h.get? b = some o → H b = none → H' b = none
  there : ∀ b o, h.get? b = some o → b ∉ fs → ∃ o', B.get? b = some o'
  tups : ∀ b xs, H b = some (.tup xs) → H' b = some (.tup xs)
  frzs : ∀ b o u, H b = some (.frz o u) → H' b = some (.frz o u)
  tbls : ∀ b ps, H b = some (.tbl ps) → ∃ more, H' b = some (.tbl (ps ++ more))
/-- it flies, and has no context -/
def FlyX (B : Heap) (l : List Env) (e : Addr) (cls a0 : Value) (h : Heap) : Prop := Heap.FlyingW B l e cls a0 h ∧ Ctx0 h e
/-- how an exception lies behind a call that it left -/
def CXE (P : Program) (w : World) : CXT := fun outer H s E e s' => ∃ (p C : Addr) (a0 : Value) (B : Heap) (H' : Hp),
  e = .ref p ∧ s'.os = s.os ∧ AllBare s'.gens ∧ FlyX B outer p (.ref C) a0 s'.heap ∧ HOk P w H' B ∧ UnB (frs outer) H H' s.heap B ∧
  (∀ b ∈ frs outer, ∀ o, s.heap.get? b = some o → ∃ sl, s'.heap.get? b = some { o with slots := sl }) ∧ H' p = none ∧ E (.ref p) (some C) H'
theorem UnB.un {fs : List Addr} {H H' : Hp} {h B h' : Heap} (u : UnB fs H H' h B) (st : B.StaysIn h') (fr : ∀ b ∈ fs, ∀ o, h.get? b = some o → ∃ sl, h'.get? b = some { o with slots := sl }) :
    Un fs [] H H' h h' where
  keep := fun b o e n hb _ => st b o (u.keep b o e n hb)
  slot := fun b o e n hb _ => fr b hb o e
  free := fun b o e n _ => u.free b o e n
  there := fun b o e _ => by
    by_cases hb : b ∈ fs
    · obtain ⟨sl, q⟩ := fr b hb o e
      exact ⟨_, q⟩
    · obtain ⟨o', q⟩ := u.there b o e hb
      exact ⟨o', st b o' q⟩
  tups := u.tups
  frzs := u.frzs
  tbls := u.tbls
section
variable {X : Cx} {pins : List (Addr × Obj)} {σ : St} {H H' : Hp} {s : Shared}
/-- all of a def's frames: its own, the callers' -/
structure Own (X : Cx) : Prop where
  stk : X.stack = X.env :: X.outer
  fr : X.env.frame = some X.env.locals
  ex : X.ex = []
theorem Own.frs (O : Own X) : frs X.stack = X.env.locals :: X.fs := by
  rw [O.stk]; unfold L2.frs; rw [List.filterMap_cons, O.fr]; rfl
/-- from the def's entry to the raise -/
theorem Inv.unB {B : Heap} (I : Inv X pins σ H s) (O : Own X) (u : UnB (L2.frs X.stack) H H' s.heap B) : UnB X.fs X.H₀ H' X.s₀.heap B where
  keep := fun b o e n hb => by
    have nx : b ∉ X.ex := by rw [O.ex]; simp
    refine u.keep b o (I.base.keep b o e n hb nx) (I.base.free b o e n nx) ?_
    rw [O.frs]
    intro z
    rcases List.mem_cons.mp z with z | z
    · exact absurd (Nat.lt_of_lt_of_le (Heap.lt_size e) I.ok.above) (by rw [z]; exact Nat.lt_irrefl _)
    · exact hb z
  free := fun b o e n => by
    have nx : b ∉ X.ex := by rw [O.ex]; simp
    obtain ⟨o', e'⟩ := I.base.there b o e nx
    exact u.free b o' e' (I.base.free b o e n nx)
  there := fun b o e hb => by
    have nx : b ∉ X.ex := by rw [O.ex]; simp
    obtain ⟨o', e'⟩ := I.base.there b o e nx
    refine u.there b o' e' ?_
    rw [O.frs]
    intro z
    rcases List.mem_cons.mp z with z | z
    · exact absurd (Nat.lt_of_lt_of_le (Heap.lt_size e) I.ok.above) (by rw [z]; exact Nat.lt_irrefl _)
    · exact hb z
  tups := fun b xs e => u.tups b xs (I.base.tups b xs e)
  frzs := fun b o xs e => u.frzs b o xs (I.base.frzs b o xs e)
  tbls := fun b ps e => by
    obtain ⟨m1, e1⟩ := I.base.tbls b ps e
    obtain ⟨m2, e2⟩ := u.tbls b _ e1
    exact ⟨m1 ++ m2, by rw [e2, Array.append_assoc]⟩
/-- the callers' frames up to their slots -/
theorem Inv.slots {h2 h3 : Heap} (I : Inv X pins σ H s) (O : Own X) (fr : ∀ b ∈ L2.frs X.stack, ∀ o, s.heap.get? b = some o → ∃ sl, h2.get? b = some { o with slots := sl }) (hs : h2.UpToSlots h3) :
    ∀ b ∈ X.fs, ∀ o, X.s₀.heap.get? b = some o → ∃ sl, h3.get? b = some { o with slots := sl } := fun b hb o e => by
  have nx : b ∉ X.ex := by rw [O.ex]; simp
  obtain ⟨sl, e1⟩ := I.base.slot b o e (I.ok.frf b hb) hb nx
  obtain ⟨sl2, e2⟩ := fr b (by rw [O.frs]; exact List.mem_cons_of_mem _ hb) _ e1
  obtain ⟨_, of, hof, hnf⟩ := I.ok.funs.mem hb
  rw [e] at hof
  cases hof
  obtain ⟨sl3, e3⟩ := hs b _ e2 hnf
  exact ⟨sl3, e3⟩
end
end L2

namespace L2
open PySem PySem.Spec PySem.Calls PyProof.Rows

theorem objThere {P : Program} {w : World} {H : Hp} {h : Heap} {a : Addr} {o : HO} (x : ObjOk P w H h a o) : ∃ ob, h.get? a = some ob := by
  cases o with
  | lst xs => obtain ⟨_, _, _, _, e⟩ := x; exact ⟨_, e⟩
  | tup xs => obtain ⟨_, _, _, p⟩ := x; obtain ⟨ob, e, _⟩ := p; exact ⟨ob, e⟩
  | dK kvs => obtain ⟨_, _, _, _, ob, _, _, e, _⟩ := x; exact ⟨ob, e⟩
  | dT kvs => obtain ⟨_, _, _, _, ob, _, _, e, _⟩ := x; exact ⟨ob, e⟩
  | set S n => obtain ⟨ob, _, _, _, e, _⟩ := x; exact ⟨ob, e⟩
  | ins C dx fs => obtain ⟨_, _, _, e, _⟩ := x; exact ⟨_, e⟩
  | own y => exact x
  | xd fs => obtain ⟨_, ⟨ob, _, _, e, _⟩, _⟩ := x; exact ⟨ob, e⟩
  | rng lo hi => obtain ⟨_, _, _, e⟩ := x; exact ⟨_, e⟩
  | frz ob u => obtain ⟨e, _⟩ := x; exact ⟨_, e⟩
  | tbl ps => exact ⟨_, x⟩
  | met f y => exact ⟨_, x⟩
  | ext φ => obtain ⟨_, e, _⟩ := x; exact e
theorem xobj {K : PySem.W.Frag} {h : Heap} {C : Addr} {bl : List Value} {ni : String} (X : K.In h) (q : PySem.W.excIn K C bl ni = true) :
    ∃ bm N nm qn bs hd sn sub ab col dd k0 k1 k2 k3 k5 mN, h.get? C = some (excClassObj nm qn C N bs bm hd sn sub ab col dd k0 k1 k2 k3 k5 ni) ∧ h.Ns N mN ∧ mN "__init__" = none ∧ OwnTail h bl bm := by
  unfold PySem.W.excIn at q
  split at q
  · rename_i du cu su hu
    split at q
    · rename_i Cu bu l0 l1 l2 l3 nu l5 mu eu
      simp only [Bool.and_eq_true, beq_iff_eq, Bool.not_eq_true'] at q
      obtain ⟨⟨⟨⟨⟨rfl, rfl⟩, nodel⟩, tl⟩, good⟩, noin⟩ := q
      obtain ⟨c1, c2, c3, c4, c5, c6, c7, c8, c9, c10, c11⟩ := cu
      dsimp only at mu nodel good noin
      subst mu nodel
      obtain ⟨ls⟩ := su
      dsimp only at eu
      subst eu
      exact ⟨bu, c4, c1, c5, c2, c6, c7, c8, c9, c10, du, l0, l1, l2, l3, l5, _, X _ _ hu, .of_isNs (PySem.W.isNs_of_in X good), PySem.W.nsMap_none_of_in X good noin, PySem.W.tail_of_in X tl⟩
    · cases q
  · cases q

/-- raise C(..): the wish is had of a new exception of that class -/
def tRaise (E : XK) (C : Addr) (t : TA) : TS := fun _ σ H => t σ H fun vs H1 => vs.length ≤ sizeLine ∧ ∀ p, H1 p = none → E (.ref p) (some C) H1
section
variable {P : Program} {w : World} {K : PySem.W.Frag} {mg : Str → Option Value} {base : Heap} {N : List Str} {qual : Str} {scope : Scope} {f : Addr} {cd : Value} {A : Around} {outer : List Env} {s₀ : Shared} {H₀ : Hp} {E : XK}
/-- the made exception leaves the def -/
theorem made_leaves {pins : List (Addr × Obj)} {σ : St} {H : Hp} {s : Shared} {h' : Heap} {p C : Addr} {us : List Value}
    (I : Inv (cxOf (CXE P w) P w K mg base N qual scope f cd A outer s₀ H₀ E) pins σ H s) (m : Heap.MadeExcOf s.heap h' p (.ref C) us) (hE : H p = none → E (.ref p) (some C) H) :
    (cxOf (CXE P w) P w K mg base N qual scope f cd A outer s₀ H₀ E).xe (.ref p) { s with heap := h' } := by
  have O : Own (cxOf (CXE P w) P w K mg base N qual scope f cd A outer s₀ H₀ E) := ⟨rfl, rfl, rfl⟩
  have hin : ∀ ev ∈ (envOfC qual scope s₀.heap.objs.size f cd :: outer), ∀ b, ev.frame = some b → b ∈ frs (envOfC qual scope s₀.heap.objs.size f cd :: outer) := fun ev he b hb => List.mem_filterMap.mpr ⟨ev, he, hb⟩
  have hst : s.heap.FunFrames base (envOfC qual scope s₀.heap.objs.size f cd :: outer) := I.stack
  have hp : H p = none := by
    cases q : H p with
    | none => rfl
    | some u =>
      obtain ⟨ob, eo⟩ := objThere (I.hok p u q)
      have z := m.new
      rw [z] at eo; cases eo
  refine madeX (base := PySem.W.hideAll s.heap (frs (envOfC qual scope s₀.heap.objs.size f cd :: outer))) (h := s.heap) (env := envOfC qual scope s₀.heap.objs.size f cd) (outer := outer) I.ok.frames rfl
    (fun b o q => PySem.W.of_hideAll _ q) (PySem.W.funFrames_hide hst hin) m fun h3 t fl up cg => ?_
  refine ⟨p, C, _, _, H, rfl, I.os, I.bare, ⟨fl, cg⟩, ?_, I.unB O ?_, I.slots O (h2 := h') ?_ up, hp, hE hp⟩
  · intro a u e
    have nf : ∀ b v, H b = some v → b ∉ frs (envOfC qual scope s₀.heap.objs.size f cd :: outer) := fun b v q z => by rw [I.stkFree b z] at q; cases q
    refine (I.hok a u e).stay (fun b v hb q => PySem.W.hideAll_get _ q ?_) (fun _ q => q) fun _ _ q => q
    rcases hb with rfl | hb
    · exact nf _ _ e
    · exact nf _ _ hb
  · exact ⟨fun b o e n hb => PySem.W.hideAll_get _ e hb, fun b o e n => n, fun b o e hb => ⟨o, PySem.W.hideAll_get _ e hb⟩, fun b xs e => e, fun b o u e => e, fun b ps e => ⟨#[], by rw [e]; simp⟩⟩
  · exact fun b hb o e => ⟨o.slots, m.keeps b o e⟩
theorem ps_raise {x : Str} {C : Addr} {np cpos pos : Pos} {e : Expr} {es : List Expr} {t : TA} (hd : (A.deeper (envOfC qual scope s₀.heap.objs.size f cd)).handled = none)
    (hg : Gl (cxOf (CXE P w) P w K mg base N qual scope f cd A outer s₀ H₀ E) x) (hm : mg x = some (.ref C)) (k : Xk K C) (ha : PA (cxOf (CXE P w) P w K mg base N qual scope f cd A outer s₀ H₀ E) (e :: es) t)
    (hdb : (x == ("__debug__" : Str)) = false := by decide)
    (he : starEach (e :: es) (envOfC qual scope s₀.heap.objs.size f cd) = (false, eval e (envOfC qual scope s₀.heap.objs.size f cd)) :: starEach es (envOfC qual scope s₀.heap.objs.size f cd) := by rfl)
    (hpl : (backTo cpos (starEach es (envOfC qual scope s₀.heap.objs.size f cd))).any (·.1) = false := by rfl) :
    PS (cxOf (CXE P w) P w K mg base N qual scope f cd A outer s₀ H₀ E) (.Raise (some (.Call (.Name x np) (e :: es) [] cpos)) none pos) (tRaise E C t) := by
  intro pins s σ H D I h
  obtain ⟨bm, M, nm, qn, bs, hdc, sn, sub, ab, col, dd, k0, k1, k2, k3, k5, mN, hC, hN, hni, T⟩ := xobj I.mod.kin k.ex
  have FB := PySem.F.excBase_ValueError
  refine wpAny_Raise_call_subT (C := C) (nm := nm) (q := qn) (N := M) (bs := bs) (bm := bm) (hdct := hdc) (sn := sn) (sub := sub) (ab := ab) (col := col) (dd := dd) (k0 := k0) (k1 := k1) (k2 := k2) (k3 := k3) (k5 := k5) FB (mN := mN)
    (T.hasType FB.hasBase) hd (by show (backTo cpos (starEach (e :: es) (envOfC qual scope s₀.heap.objs.size f cd))).any (·.1) = false; rw [he]; show (false || (backTo cpos (starEach es (envOfC qual scope s₀.heap.objs.size f cd))).any (·.1)) = false; rw [hpl]; rfl) hni (ld_glob I hg hm ⟨rfl, ?_⟩ hdb)
  have z := ha cpos pins s σ H _ I h
  have he' : starEach (e :: es) (cxOf (CXE P w) P w K mg base N qual scope f cd A outer s₀ H₀ E).env = (false, eval e (cxOf (CXE P w) P w K mg base N qual scope f cd A outer s₀ H₀ E).env) :: starEach es (cxOf (CXE P w) P w K mg base N qual scope f cd A outer s₀ H₀ E).env := he
  rw [he'] at z ⊢
  refine Calls.evalArgs_plain (wpAny_mono z (fun us s2 ⟨vs, H2, I2, r, hl, q⟩ => ?_) fun _ _ y => y)
  exact ⟨rfl, (by rw [← r.length]; exact hl), I2.bk _ _ hC, hN.keeps I2.bk, T.keeps I2.bk, fun h' p m => made_leaves I2 m (q p)⟩
end
end L2

namespace L2
open PySem PySem.Spec PySem.Calls PyProof.Rows

/-- within an except suite -/
abbrev Cx.hand (X : Cx) (p : Addr) : Cx := { X with A := X.A.mark (some (.ref p)), calm := false, xe := fun _ _ => False }
section
variable {X : Cx} {pins : List (Addr × Obj)} {σ : St} {H : Hp} {s : Shared} {p : Addr}
theorem Inv.hand (I : Inv X pins σ H s) : Inv (X.hand p) pins σ H s :=
  ⟨⟨I.ok.mod, I.ok.kind, I.ok.glob, I.ok.blt, I.ok.above, I.ok.inj, I.ok.has, I.ok.cab, (fun z => by cases z), I.ok.frames, I.ok.stk, I.ok.exf, I.ok.bs, I.ok.bsz, I.ok.noex, I.ok.exfs, I.ok.funs, I.ok.frf⟩, I.os, I.bare, I.base, I.loc, I.cell, I.free, I.freeC, I.pin, I.hok, I.len⟩
theorem Inv.unhand (I : Inv (X.hand p) pins σ H s) (ok : X.Ok) : Inv X pins σ H s := ⟨ok, I.os, I.bare, I.base, I.loc, I.cell, I.free, I.freeC, I.pin, I.hok, I.len⟩
/-- the name is gone behind the suite -/
theorem Inv.gone {i : Nat} {n : Str} {v : Option Value} {m : Str → Option Value} {h' : Heap} {t' : Nat} (I : Inv X pins σ H s) (hN : X.N.Nodup) (hi : X.N[i]? = some n) (hk : X.env.scope.names.lookup n = some .local) (hm : s.heap.Ns X.env.locals m)
    (hl : ∀ (j : Nat) (y : Str) (v : V), X.N[j]? = some y → σ[j]? = some (some v) → Vis X.env.scope y → ∃ u, RelV v u ∧ Look X.env s.heap m y u)
    (hn : h'.Ns X.env.locals (fun y => if y = n then v else m y)) (hs : Heap.SameBut X.env.locals s.heap h') : Inv X pins (σ.set i none) H { s with heap := h', toks := t' } := by
  have ne0 : ∀ b o, X.s₀.heap.get? b = some o → b ≠ X.env.locals := fun b o e => Nat.ne_of_lt (Nat.lt_of_lt_of_le (Heap.lt_size e) I.ok.above)
  have ck : ∀ y c, X.env.cells.lookup y = some c → ∀ w, s.heap.IsCell c w → h'.IsCell c w := fun y c e w z => z.sameBut hs (I.cne y c e)
  refine ⟨I.ok, I.os, I.bare, ⟨?_, ?_, I.base.free, ?_, I.base.tups, I.base.frzs, I.base.tbls⟩, ⟨_, hn, ?_⟩, ?_, I.free, I.freeC, ?_, ?_, by rw [List.length_set]; exact I.len⟩
  · intro b o e z hb hx
    exact (hs.2 b (ne0 b o e)).trans (I.base.keep b o e z hb hx)
  · intro b o e z hb hx
    obtain ⟨sl, q⟩ := I.base.slot b o e z hb hx
    exact ⟨sl, (hs.2 b (ne0 b o e)).trans q⟩
  · intro b o e hx
    obtain ⟨o', q⟩ := I.base.there b o e hx
    exact ⟨o', (hs.2 b (ne0 b o e)).trans q⟩
  · intro j y v' e1 e2 e3
    have hj : j ≠ i := by
      rintro rfl
      rw [List.getElem?_set] at e2
      split at e2
      · split at e2 <;> cases e2
      · rename_i z; exact z rfl
    rw [List.getElem?_set_ne (Ne.symm hj)] at e2
    obtain ⟨u, r, q⟩ := hl j y v' e1 e2 e3
    refine ⟨u, r, ?_⟩
    rcases q with ⟨k, e⟩ | ⟨k, c, e, z⟩
    · have hy : y ≠ n := fun e' => hj (nodup_ix hN e1 (e' ▸ hi))
      exact .inl ⟨k, by show (if y = n then v else m y) = some u; rw [if_neg hy]; exact e⟩
    · exact .inr ⟨k, c, e, ck y c e _ z⟩
  · intro y c e
    obtain ⟨w, z⟩ := I.cell y c e
    exact ⟨w, ck y c e w z⟩
  · intro q hq
    obtain ⟨e, n', ne, nf, d⟩ := I.pin q hq
    exact ⟨(hs.2 q.1 ne).trans e, n', ne, nf, d⟩
  · intro b u e
    have nl : ∀ c w, H c = some w → c ≠ X.env.locals := fun c w q z => by rw [z, I.free] at q; cases q
    refine (I.hok b u e).stay (fun c w hc q => (hs.2 c ?_).trans q) (fun _ q => q) fun _ _ q => q
    rcases hc with rfl | hc
    · exact nl _ _ e
    · exact nl _ _ hc
/-- where an exception has come to: the state ahead of the call that it left, and what stands since -/
def Ld (X : Cx) (pins : List (Addr × Obj)) (σ : St) (H' : Hp) (p C : Addr) (s : Shared) : Prop := ∃ (H1 : Hp) (s1 : Shared) (a0 : Value) (B : Heap), Inv X pins σ H1 s1 ∧ s.os = s1.os ∧ AllBare s.gens ∧ FlyX B X.stack p (.ref C) a0 s.heap ∧
  HOk X.prog X.w H' B ∧ UnB (frs X.stack) H1 H' s1.heap B ∧ (∀ b ∈ frs X.stack, ∀ o, s1.heap.get? b = some o → ∃ sl, s.heap.get? b = some { o with slots := sl }) ∧ H' p = none
variable {C : Addr} {H' : Hp}
theorem slots_up {l : List Env} {base g h h' : Heap} (F : g.FunFrames base l) (a : ∀ b ∈ frs l, ∀ o, g.get? b = some o → ∃ sl, h.get? b = some { o with slots := sl }) (u : h.UpToSlots h') : ∀ b ∈ frs l, ∀ o, g.get? b = some o → ∃ sl, h'.get? b = some { o with slots := sl } := fun b hb o e => by
  obtain ⟨sl, q⟩ := a b hb o e
  obtain ⟨_, of, hof, hnf⟩ := F.mem hb
  rw [e] at hof; cases hof
  obtain ⟨sl2, q2⟩ := u b _ q hnf
  exact ⟨sl2, q2⟩
/-- the handlers are asked -/
theorem ld_enter {E : XK} {H1 : Hp} {s1 s2 : Shared} {e : Value} {M : Model} {A : Around} {XE : Value → Shared → Prop} {Q : Shared → Prop} (hA : A.frames = some X.stack) (O : Own X) (I : Inv X pins σ H1 s1) (h : CXE X.prog X.w X.stack H1 s1 E e s2)
    (hQ : ∀ p C H' s', e = .ref p → Ld X pins σ H' p C s' → E (.ref p) (some C) H' → Q s') :
    wpAny M A (noteFrame e X.env) (fun _ s₂ => wpAny M A (setFlight e none) (fun _ s₃ => Q s₃) XE s₂) XE s2 := by
  obtain ⟨p, C, a0, B, H', rfl, os, bare, fl, hok, u, fr, hp, hE⟩ := h
  rw [O.stk] at fl
  refine noteX (by rw [hA, O.stk]) O.fr fl.1 fl.2 fun h3 held up3 c3 => ?_
  refine landX held c3 fun h4 fl4 up4 c4 => ?_
  refine hQ p C H' _ rfl ⟨H1, s1, a0, B, I, os, bare, ?_, hok, u, ?_, hp⟩ hE
  · rw [O.stk]; exact ⟨fl4, c4⟩
  · exact slots_up I.stack fr (up3.trans up4)
theorem ld_flight {M : Model} {A : Around} {XE : Value → Shared → Prop} {Q : Unit → Shared → Prop} (L : Ld X pins σ H' p C s) (hQ : ∀ s', Ld X pins σ H' p C s' → Q () s') : wpAny M A (setFlight (.ref p) none) Q XE s := by
  obtain ⟨H1, s1, a0, B, I, os, bare, fl, hok, u, fr, hp⟩ := L
  exact flyX_again fl.1 fl.2 fun h4 fl4 up4 c4 => hQ _ ⟨H1, s1, a0, B, I, os, bare, ⟨fl4, c4⟩, hok, u, slots_up I.stack fr up4, hp⟩
theorem Ld.inv (L : Ld X pins σ H' p C s) : Inv X pins σ (upd H' p (ExcO p C)) s := by
  obtain ⟨H1, s1, a0, B, I, os, bare, fl, hok, u, fr, hp⟩ := L
  obtain ⟨fl, cx⟩ := fl
  obtain ⟨oe, vs, he, hec, hed, _⟩ := fl.first
  have hat : AtC p C s.heap := ⟨oe, he, hec⟩
  have nB : ∀ b o, s1.heap.get? b = some o → b ≠ p := fun b o e z => by
    by_cases hb : b ∈ frs X.stack
    · obtain ⟨_, of, hof, hnf⟩ := I.stack.mem hb
      rw [e] at hof; cases hof
      obtain ⟨sl, q⟩ := fr b hb o e
      rw [z, he] at q; cases q
      exact hnf vs hed
    · obtain ⟨o', q⟩ := u.there b o e hb
      rw [z, fl.2.1] at q; cases q
  have UN := u.un fl.1 fr
  refine I.call' os ⟨UN.keep, UN.slot, fun b o e n hx => ?_, UN.there, fun b xs e => ?_, fun b o xs e => ?_, fun b ps e => ?_⟩ ?_ bare (fun b z => absurd z (by simp))
  · rw [upd_ne (nB b o e)]; exact UN.free b o e n hx
  · have q := UN.tups b xs e
    rw [upd_ne (ne_of_none q hp)]; exact q
  · have q := UN.frzs b o xs e
    rw [upd_ne (ne_of_none q hp)]; exact q
  · obtain ⟨more, q⟩ := UN.tbls b ps e
    exact ⟨more, by rw [upd_ne (ne_of_none q hp)]; exact q⟩
  · intro b o e
    by_cases hb : b = p
    · subst hb
      rw [upd_same] at e; cases e
      exact excO_ok hat cx
    · rw [upd_ne hb] at e
      exact (hok b o e).stay (fun c v _ q => fl.1 c v q) (fun c q => by rw [upd_ne (ne_of_none q hp)]; exact q) fun c xs q => by rw [upd_ne (ne_of_none q hp)]; exact q
end
end L2

namespace L2
open PySem PySem.Spec PySem.Calls PyProof.Rows

/-! ### code from which an exception may come -/
abbrev TXS := Ends → (St → XK) → St → Hp → Prop
abbrev TXE := (St → XK) → St → Hp → VK → Prop
def XEnd (X : Cx) (pins : List (Addr × Obj)) (E : St → XK) (ev : Value) (s' : Shared) : Prop := ∃ σ1 H1 s1, Inv X pins σ1 H1 s1 ∧ CXE X.prog X.w X.stack H1 s1 (E σ1) ev s'
def PXE (X : Cx) (e : Expr) (t : TXE) : Prop :=
  ∀ (pins : List (Addr × Obj)) (s : Shared) (σ : St) (H : Hp) (Q : VK) (E : St → XK), Inv X pins σ H s → t E σ H Q → wpAny (model X.prog X.w) X.A (eval e X.env) (EP X pins σ Q) (XEnd X pins E) s
def PXS (X : Cx) (st : Stmt) (t : TXS) : Prop :=
  ∀ (pins : List (Addr × Obj)) (s : Shared) (σ : St) (H : Hp) (D : Ends) (E : St → XK), Inv X pins σ H s → t D E σ H → wpAny (model X.prog X.w) X.A (exec st X.env) (SP X pins D) (XEnd X pins E) s
def PXSs (X : Cx) (sts : List Stmt) (t : TXS) : Prop :=
  ∀ (pins : List (Addr × Obj)) (s : Shared) (σ : St) (H : Hp) (D : Ends) (E : St → XK), Inv X pins σ H s → t D E σ H → wpAny (model X.prog X.w) X.A (execs sts X.env) (SP X pins D) (XEnd X pins E) s
/-- no exception leaves X otherwise -/
def NoX (X : Cx) : Prop := ∀ e s, X.xe e s → False
section
variable {X : Cx} {st : Stmt} {rest : List Stmt} {e : Expr} {es : List Expr} {pos : Pos} {t u : TXS} {te : TXE}
theorem xthn {α : Type} {m : Sem α} {Q Q' : α → Shared → Prop} {M : Model} {A : Around} {E E' : Value → Shared → Prop} {s : Shared} (h : wpAny M A m Q E s) (hx : ∀ e s, E e s → False) (hQ : ∀ a s, Q a s → Q' a s) : wpAny M A m Q' E' s := wpAny_mono h hQ fun e s z => (hx e s z).elim
theorem pxss_one (h1 : PXS X st t) : PXSs X [st] t := by
  intro pins s σ H D E I h
  refine wpAny_execs_cons (thn (h1 pins s σ H D E I h) fun f s1 q => ?_)
  cases f with
  | next => exact wpAny_execs_nil q
  | ret v => exact q
  | brk => exact q
  | cont => exact q
theorem pxs_set {i : Nat} {x : Str} {pos' : Pos} (hN : X.N.Nodup) (hi : X.N[i]? = some x) (hx : Loc X.env.scope x) (he : PXE X e te) (hs : swapsWith e (some (.Name x pos')) pos.line X.env = pure false := by rfl)
    (hf : X.fn x = true ∨ X.env.scope.names.lookup x = some .local := by first | exact .inl rfl | exact .inr rfl | assumption) :
    PXS X (.Assign [.Name x pos'] e pos) (fun D E σ H => te E σ H fun v H1 => D.nx (σ.set i (some v)) H1) := by
  intro pins s σ H D E I h
  refine wpAny_Assign_Name (thn (he pins s σ H _ E I h) fun v s1 ⟨y, H1, I1, r1, q1⟩ => ?_) hs
  exact store_ok I1 hN hi hx r1 (fun s2 I2 => ⟨_, H1, I2, q1⟩) hf
/-- f(..) of a def from which an exception may come -/
theorem pxe_call {k : Nat} {f : Addr} {fd : FuncData} {ps : List Str} {sp : Sp} {dvs : List V} {ds : List Value} {x : Str} {p : Pos} {t : TA} (hn : NoX X) (F : FnOk X.prog X.w X.K X.mg X.base (CXE X.prog X.w) k f fd ps sp) (hr : Room k X.A) (hg : Gl X x) (hm : X.mg x = some (.ref f))
    (hk : PySem.W.keepIn X.K (.ref f) = true) (hb : Binds X.K fd ps ds) (hd : Vals dvs ds) (ha : PA X (e :: es) t) (hdb : (x == ("__debug__" : Str)) = false := by decide)
    (he : starEach (e :: es) X.env = (false, eval e X.env) :: starEach es X.env := by rfl) (hpl : (backTo pos (starEach es X.env)).any (·.1) = false := by rfl) :
    PXE X (.Call (.Name x p) (e :: es) [] pos) (fun E σ H Q => t σ H fun vs H1 => sp (vs ++ dvs) H1 Q (E σ)) := by
  intro pins s σ H Q E I h
  refine wpAny_Call_Name_kw (ld_glob I hg hm ?_ hdb)
  refine PySem.W.callWith_K (h₀ := X.base) I.ok.mod.kin hk (xthn (ha pos pins s σ H _ I h) hn fun us s1 ⟨vs, H1, I1, r, q⟩ => ⟨I1.kIn, ?_⟩) he hpl
  have r2 : Vals (vs ++ dvs) (us ++ ds) := r.append hd
  have hl : (us ++ ds).length = ps.length := by rw [← r2.length]; exact F.len _ _ _ _ q
  refine wpAny_call (codeAny_mono (F.run X.A X.stack s1 H1 ⟨[] ++ us, []⟩ (us ++ ds) (vs ++ dvs) Q (E σ) hr I1.env0 (hb s1 us I1.kIn hl) r2 q) fun r s' hq => ?_)
  cases r with
  | error ev => exact ⟨σ, H1, s1, I1, hq⟩
  | ok fl =>
    cases fl with
    | ret v => exact I1.after hq
    | next => exact False.elim hq
    | brk => exact False.elim hq
    | cont => exact False.elim hq
end

/-! ### try .. except -/
/-- what a handler list makes of an exception of class C at p -/
def PH (X : Cx) (p C : Addr) (hs : List ExceptHandler) (t : TS) : Prop :=
  ∀ (pins : List (Addr × Obj)) (s : Shared) (σ : St) (H' : Hp) (D : Ends), Ld X pins σ H' p C s → t D σ (upd H' p (ExcO p C)) → wpAny (model X.prog X.w) X.A (handleBy (.ref p) X.env hs) (SP X pins D) X.xe s
section
variable {X : Cx} {pos np : Pos} {t : TS} {tx : TXS} {p C : Addr}
/-- the ends of an except suite whose name stands in slot i -/
def Ends.forget (D : Ends) (i : Nat) : Ends := { nx := fun σ H => D.nx (σ.set i none) H, rt := D.rt, bk := fun σ H => D.bk (σ.set i none) H, ct := fun σ H => D.ct (σ.set i none) H }
theorem ph_as {D : Addr} {x n : Str} {i : Nat} {b₀ : Stmt} {suite : List Stmt} {rest : List ExceptHandler} (hg : Gl X x) (hm : X.mg x = some (.ref D)) (hx : PySem.W.exmOne X.K (.ref C) (.ref D) = some true) (hN : X.N.Nodup) (hi : X.N[i]? = some n)
    (hl : X.env.scope.names.lookup n = some .local) (hb : PSs (X.hand p) (b₀ :: suite) t) (hd : (x == ("__debug__" : Str)) = false := by decide) :
    PH X p C (.ExceptHandler (some (.Name x np)) (some n) (b₀ :: suite) pos :: rest) (fun D' σ H => t (D'.forget i) (σ.set i (some (.ref p))) H) := by
  intro pins s σ H' D' L h
  have I := L.inv
  have J := I.hand (p := p)
  refine wpAny_handleBy_cons (codeAny_handlers_test (ld_glob (X := X.hand p) J hg hm ?_ hd)) (by intro q; cases q)
  have hat : AtC p C s.heap := (show ObjOk X.prog X.w _ s.heap p (ExcO p C) from I.hok p _ upd_same).1.1
  refine (PySem.W.exm_one (M := model X.prog X.w) I.kIn hat.type hx).here ?_
  refine codeAny_handlers_suite_as (ld_flight L fun s2 L2 => ?_)
  have I2 := L2.inv
  refine store_ok (X := X.hand p) (I2.hand (p := p)) hN hi (.inl hl) (v := .ref p) (u := .ref p) rfl (fun s3 I3 => ?_) (.inr hl)
  refine wpAny_mono (hb pins s3 _ _ (D'.forget i) I3 h) (fun fl s4 q => ?_) fun _ _ z => False.elim z
  have fin : ∀ {σ4 : St} {H4 : Hp} {fl : Flow}, Inv (X.hand p) pins σ4 H4 s4 → (∀ s5, Inv X pins (σ4.set i none) H4 s5 → SP X pins D' fl s5) →
      wpAny (model X.prog X.w) X.A (do bindName X.env n .none; unbindBehindTheSuite X.env n pos) (fun _ s5 => SP X pins D' fl s5) X.xe s4 := fun {σ4 H4 fl} J4 k => by
    have I4 := J4.unhand I.ok
    obtain ⟨m, hn, hl'⟩ := id I4.loc
    exact wpAny_nameGoes_keeps hl hn (by rw [I.ok.kind]; rfl) fun h5 v hn5 hs5 => k _ (I4.gone hN hi hl hn hl' hn5 hs5)
  cases fl with
  | next => obtain ⟨σ4, H4, J4, q⟩ := q; exact fin J4 fun s5 I5 => ⟨_, H4, I5, q⟩
  | brk => obtain ⟨σ4, H4, J4, q⟩ := q; exact fin J4 fun s5 I5 => ⟨_, H4, I5, q⟩
  | cont => obtain ⟨σ4, H4, J4, q⟩ := q; exact fin J4 fun s5 I5 => ⟨_, H4, I5, q⟩
  | ret u => obtain ⟨v, σ4, H4, J4, r, q⟩ := q; exact fin J4 fun s5 I5 => ⟨v, _, H4, I5, r, q⟩
/-- the whole: th is the handlers' reading for each class -/
theorem ps_try {body : List Stmt} {h₀ : ExceptHandler} {hs : List ExceptHandler} {th : Addr → Addr → TS} {ok : Addr → Prop} (O : Own X) (hb : PXSs X body tx) (hp : ∀ p C, ok C → PH X p C (h₀ :: hs) (th p C)) :
    PS X (.Try body (h₀ :: hs) [] [] pos) (fun D σ H => tx D (fun σ1 v c H' => ∀ p C, v = .ref p → c = some C → ok C ∧ th p C D σ1 (upd H' p (ExcO p C))) σ H) := by
  intro pins s σ H D I h
  refine wpAny_Try_except (wpAny_mono (hb pins s σ H D _ I h) (fun fl s1 q => ?_) fun ev s1 q => ?_)
  · cases fl with
    | next => exact wpAny_execs_nil q
    | brk => exact q
    | cont => exact q
    | ret u => exact q
  · obtain ⟨σ1, H1, s0, I1, hc⟩ := q
    refine ld_enter (XE := X.xe) I1.ok.frames O I1 hc fun p C H' s' e L hE => ?_
    subst e
    obtain ⟨o, z⟩ := hE p C rfl rfl
    exact hp p C o pins s' σ1 H' D L z
end
end L2

namespace L2
open PySem PySem.Spec PySem.Calls PyProof.Rows
/-- a def from which an exception may come, by its body -/
theorem Fun.okE {P : Program} {w : World} {K : PySem.W.Frag} {mg : Str → Option Value} {base : Heap} {x qual : Str} {st : Stmt} {f : Addr} {fd : FuncData} {N ps : List Str} {k : Nat} {sp : Sp} (F : Fun K x qual st f fd) (S : FnScope N ps (defScope st)) (len : ∀ vs H Q E, sp vs H Q E → vs.length = ps.length)
    (hbody : ∀ (cdv : Value) (A : Around) (outer : List Env) (s : Shared) (H : Hp) (vs : List V) (Q : VK) (E : XK), Room k (A.deeper (envOfC qual (defScope st) s.heap.objs.size f cdv)) → sp vs H Q E →
      ∃ t, PSs (cxOf (CXE P w) P w K mg base N qual (defScope st) f cdv A outer s H E) (defBody st) t ∧ t { nx := fun _ H' => Q .non H', rt := Q } (start N vs) H) : FnOk P w K mg base (CXE P w) (k + 1) f fd ps sp := by
  obtain ⟨oc, od, kV, doc, pm, an, cdv, ct, osl, rfl, lk, hcd⟩ := F.ex
  exact fn_of lk hcd S len fun A outer s H vs Q E hr hsp => hbody cdv A outer s H vs Q E hr hsp
end L2

namespace L2
open PySem PySem.Spec PySem.Calls PyProof.Rows

/-! ### defs that are called within an except suite -/
section
variable {X : Cx} {k : Nat} {f : Addr} {fd : FuncData} {ps : List Str} {sp : Sp} {dvs : List V} {ds : List Value} {x : Str} {p pos : Pos} {e : Expr} {es : List Expr} {t : TA}
end
end L2

namespace L2
open PySem PySem.Spec PySem.Calls PyProof.Rows

/-! ### an exception that leaves a comprehension -/
/-- a heap without what stands at a -/
theorem drop_at (B : Heap) (a : Addr) : ∃ B' : Heap, (∀ b, b ≠ a → B'.get? b = B.get? b) ∧ B'.get? a = none := by
  refine ⟨B.update a (fun o => { o with data := .freed }), fun b hb => Heap.get?_update_other _ _ (Ne.symm hb), ?_⟩
  cases e : (B.update a (fun o => { o with data := .freed })).get? a with
  | none => rfl
  | some o =>
    exfalso
    obtain ⟨e1, e2⟩ := Heap.get?_some_iff.mp e
    cases B
    simp only [Heap.update, Array.getElem?_modify, if_true] at e1
    obtain ⟨o', _, e3⟩ := Option.map_eq_some_iff.mp e1
    rw [← e3] at e2
    cases e2
theorem ff_but {h h' base base' : Heap} {a : Addr} (sb : ∀ b, b ≠ a → h'.get? b = h.get? b) (kb : ∀ b, base.get? b = none → base'.get? b = none) : ∀ {l : List Env}, a ∉ frs l → h.FunFrames base l → h'.FunFrames base' l
  | [], _, _ => trivial
  | env :: rest, na, ⟨k, ⟨L, o, e1, e2, e3, e4⟩, r⟩ => by
    unfold frs at na
    rw [List.filterMap_cons, e1] at na
    have n1 : L ≠ a := fun z => na (by rw [z]; exact List.mem_cons_self)
    exact ⟨k, ⟨L, o, e1, kb L e2, (sb L n1).trans e3, e4⟩, ff_but sb kb (fun z => na (List.mem_cons_of_mem _ z)) r⟩
section
variable {M : Model} {A : Around} {E : Value → Shared → Prop} {s : Shared}
/-- the mark is set, the exception goes on -/
theorem pass_at {base : Heap} {e : Addr} {cls a0 fl : Value} {what : String} {cenv : Env} {α : Type} {Q : α → Shared → Prop} (st : base.StaysIn s.heap) (ht : s.heap.TracedAtW base e cls a0 fl) (cx : Ctx0 s.heap e)
    (hE : ∀ h' fl', Ctx0 h' e → base.StaysIn h' → (∀ b o, s.heap.get? b = some o → (∀ vs, o.data ≠ .fields vs) → h'.get? b = some o) → h'.TracedAtW base e cls a0 fl' → E (.ref e) { s with heap := h' }) : wpAny M A (PySem.passOn what (.ref e) cenv : Sem α) Q E s := by
  obtain ⟨oe, vs, T, oT, ts, g1, g2, g3, g4, g5, g6, g7, g8, g9⟩ := ht
  have three : 3 < ts.size := (Array.getElem?_eq_some_iff.mp g9).1
  unfold PySem.passOn
  refine wpAny_bind (wpAny_field g1 g3 g4 ?_)
  rw [if_neg (by simp)]
  unfold setFlight
  refine wpAny_bind (wpAny_bind (wpAny_field g1 g3 g4 ?_))
  rw [if_pos (by simp)]
  refine wpAny_setField g7 g8 three (wpAny_throw (hE _ (cenv.frame.elim .none fun f => rawInt f) (cx.keep fun o q => (Heap.get?_update_other _ _ g6).trans q) (fun b o hb => ?_) (fun b o hb nf => ?_) ?_))
  · rw [Heap.get?_update_other _ _ (fun z => by rw [← z, g5] at hb; cases hb)]
    exact st b o hb
  · rw [Heap.get?_update_other _ _ (fun z => by rw [← z, g7] at hb; cases hb; exact nf ts g8)]
    exact hb
  · exact ⟨oe, vs, T, _, _, (Heap.get?_update_other _ _ g6).trans g1, g2, g3, g4, g5, g6, Heap.get?_update_self _ g7 (Obj.isFreed_of_fields (Obj.data_mapFields g8 _)), Obj.data_mapFields g8 _, by simp [three]⟩
/-- it leaves the def, whatever the mark -/
theorem leave_any {base : Heap} {env : Env} {outer : List Env} {L e : Addr} {cls a0 fl : Value} {Q : Unit → Shared → Prop} (hfr : A.frames = some (env :: outer)) (hf : env.frame = some L) (st : base.StaysIn s.heap) (ne : base.get? e = none) (ff : s.heap.FunFrames base (env :: outer)) (ht : s.heap.TracedAtW base e cls a0 fl) (cx : Ctx0 s.heap e)
    (hQ : ∀ h', FlyX base outer e cls a0 h' → s.heap.UpToSlots h' → Q () { s with heap := h' }) : wpAny M A (leaving env (.ref e)) Q E s := by
  by_cases c : fl = rawInt L
  · subst c
    unfold leaving
    refine wpAny_bind (wpAny_noteFrame_againW hf ht (landX ⟨st, ne, ff, ht⟩ cx fun h' ⟨k1, k2, k3, k4⟩ up c' => hQ h' ⟨⟨k1, k2, k3.2.2, k4⟩, c'⟩ up))
  obtain ⟨oe, vs, T, oT, ts, g1, ⟨g2, g2'⟩, g3, g4, g5, g6, g7, g8, g9⟩ := ht
  subst g2
  have three : 3 < ts.size := (Array.getElem?_eq_some_iff.mp g9).1
  unfold leaving noteFrame
  simp only [hf]
  refine wpAny_bind (wpAny_bind (wpAny_field g1 g3 g4 ?_))
  rw [if_pos (by simp)]
  refine wpAny_bind (wpAny_field g7 g8 g9 ?_)
  rw [if_neg (by simpa using c)]
  refine wpAny_bind (wpAny_setField g7 g8 three ?_)
  have far : ∀ b o, s.heap.get? b = some o → (∀ vs, o.data ≠ .fields vs) → b ≠ T := fun b o hb nf z => by
    rw [z, g7] at hb
    cases hb
    exact nf ts g8
  refine entryX hfr (ff.of_keeps fun b o hb nf => ⟨o, (Heap.get?_update_other _ _ (Ne.symm (far b o hb nf))).trans hb, rfl⟩) hf ((Heap.get?_update_other _ _ g6).trans g1) (fun b o hb => (Heap.get?_update_other _ _ fun z => by rw [← z, g5] at hb; cases hb).trans (st b o hb)) ne g3 (Array.getElem?_eq_some_iff.mp g4).1 g2' (cx.at g1 g3) fun h' ⟨x1, x2, x3, x4⟩ c' => ?_
  refine flightX x1 x2 x3 c' fun h2 y1 y2 y3 y4 y5 => hQ h2 ⟨⟨y1, ne, y2.2.2, y3⟩, y5⟩ fun b o hb nf => ?_
  obtain ⟨sl, q⟩ := x4 b o ((Heap.get?_update_other _ _ (Ne.symm (far b o hb nf))).trans hb) nf
  obtain ⟨sl2, q2⟩ := y4 b _ q nf
  exact ⟨sl2, q2⟩
end
section
variable {X : Cx} {pins : List (Addr × Obj)} {σ : St} {H1 : Hp} {s1 s3 : Shared} {e : Value} {E : XK}
/-- how an exception leaves a def's body -/
def Leaves (X : Cx) (E : XK) : Prop := ∀ e s', wpAny (model X.prog X.w) X.A (leaving X.env e) (fun _ s'' => CXE X.prog X.w X.outer X.H₀ X.s₀ E e s'') (fun _ _ => False) s' → X.xe e s'
theorem comp_err (O : Own X) (hL : Leaves X E) (J : Inv X pins σ H1 s1) (h : CXE X.prog X.w X.stack H1 s1 E e s3) {C : Addr} {m : Str → Option Value} (hn : s1.heap.Ns C m) (hC : H1 C = none) (nC : C ∉ frs X.stack) (gC : X.s₀.heap.objs.size ≤ C) {sc : Scope} {cl : List (Str × Addr)} {E' : Value → Shared → Prop} :
    wpAny (model X.prog X.w) X.A (noteFrame e (compEnvC sc cl C X.env)) (fun _ s' => ∃ m, s'.heap.Ns C m ∧ ∀ h', Heap.SameBut C s'.heap h' → ∀ cenv : Env, cenv.locals = C → wpAny (model X.prog X.w) X.A (PySem.passOn "comprehension.variables-let-go" e cenv : Sem Value) (fun _ _ => False) X.xe { s' with heap := h' }) E' s3 := by
  obtain ⟨p, Cl, a0, B, H', rfl, os, bare, fl, hok, u, fr, hp, hE⟩ := h
  show wpAny (model X.prog X.w) X.A (noteFrame (.ref p) X.env) _ _ s3
  rw [O.stk] at fl
  refine noteX (by rw [J.ok.frames, O.stk]) O.fr fl.1 fl.2 fun h3 held up3 cx3 => ?_
  obtain ⟨oC, es, ep, q1, q2, q3⟩ := hn
  have bC : B.get? C = some oC := u.keep C oC q1 hC nC
  have c3 : h3.get? C = some oC := held.1 C oC bC
  refine ⟨m, ⟨oC, es, ep, c3, q2, q3⟩, fun h' sb cenv _ => ?_⟩
  obtain ⟨B', d1, d2⟩ := drop_at B C
  have none' : ∀ b, B.get? b = none → B'.get? b = none := fun b hb => by
    by_cases z : b = C
    · rw [z]; exact d2
    · rw [d1 b z]; exact hb
  have some' : ∀ b o, B'.get? b = some o → b ≠ C ∧ B.get? b = some o := fun b o hb => by
    have z : b ≠ C := fun z => by rw [z, d2] at hb; cases hb
    exact ⟨z, by rw [← d1 b z]; exact hb⟩
  obtain ⟨k1, k2, k3, oe, vs, T, oT, ts, g1, g2, g3, g4, g5, g6, g7, g8, g9⟩ := held
  have pC : p ≠ C := fun z => by
    rw [z, c3] at g1
    cases g1
    rw [q2] at g3
    cases g3
  have TC : T ≠ C := fun z => by rw [z, bC] at g5; cases g5
  have st' : B'.StaysIn h' := fun b o hb => by
    obtain ⟨z, hb'⟩ := some' b o hb
    rw [sb.2 b z]
    exact k1 b o hb'
  have nC' : C ∉ frs (X.env :: X.outer) := by rw [← O.stk]; exact nC
  have ff' : h'.FunFrames B' (X.env :: X.outer) := ff_but sb.2 none' nC' k3
  refine pass_at (s := { s3 with heap := h' }) (base := B') st' ⟨oe, vs, T, oT, ts, (sb.2 p pC).trans g1, g2, g3, g4, none' T g5, g6, (sb.2 T TC).trans g7, g8, g9⟩ (cx3.keep fun o q => (sb.2 p pC).trans q) fun h4 fl4 cx4 st4 up4 tr4 => ?_
  refine hL _ _ ?_
  refine leave_any (s := { s3 with heap := h4 }) (base := B') (by rw [J.ok.frames, O.stk]) O.fr st4 (none' p k2) (ff'.of_keeps fun b o hb nf => ⟨o, up4 b o hb nf, rfl⟩) tr4 cx4 fun h5 fl5 up5 => ?_
  have hok' : HOk X.prog X.w H' B' := fun b o hb => by
    have nb : ∀ c v, H' c = some v → c ≠ C := fun c v q z => by
      have := u.free C oC q1 hC
      rw [z, this] at q; cases q
    refine (hok b o hb).stay (fun c v hc q => ?_) (fun _ q => q) fun _ _ q => q
    rw [d1 c ?_]
    · exact q
    · rcases hc with rfl | hc
      · exact nb _ _ hb
      · exact nb _ _ hc
  have U := J.unB O u
  refine ⟨p, Cl, a0, B', H', rfl, os.trans J.os, bare, fl5, hok', ⟨fun b o hb n hf => ?_, U.free, fun b o hb hf => ?_, U.tups, U.frzs, U.tbls⟩, fun b hb o ho => ?_, hp, hE⟩
  · rw [d1 b (Nat.ne_of_lt (Nat.lt_of_lt_of_le (Heap.lt_size hb) gC))]
    exact U.keep b o hb n hf
  · obtain ⟨o', q⟩ := U.there b o hb hf
    exact ⟨o', by rw [d1 b (Nat.ne_of_lt (Nat.lt_of_lt_of_le (Heap.lt_size hb) gC))]; exact q⟩
  · obtain ⟨sl, q⟩ := J.slots O fr up3 b hb o ho
    have bn : b ≠ C := Nat.ne_of_lt (Nat.lt_of_lt_of_le (Heap.lt_size ho) gC)
    obtain ⟨_, of, hof, hnf⟩ := J.ok.funs.mem hb
    rw [ho] at hof
    cases hof
    obtain ⟨sl2, q2⟩ := up5 b _ (up4 b _ ((sb.2 b bn).trans q) hnf) hnf
    exact ⟨sl2, q2⟩
end
section
variable {X : Cx} {elt tg iter : Expr} {ifs : List Expr} {scope : Scope} {pos : Pos} {N' : List Str} {ix : List (Option Nat)} {wi : TI} {g : TG} {tt : TT} {te : TE}
/-- the loop's end, by what is wanted -/
theorem lc_runX (B : BlkOk X N' ix scope) (hc : X.calm = true) {EX : XK} (O : Own X) (hL : Leaves X EX)
    (hg : ∀ C s H fp xe, PG (cxComp X N' scope C s H fp xe) tg g) (ht : ∀ C s H fp xe, PTs (cxComp X N' scope C s H fp xe) ifs tt) (he : ∀ C s H fp xe, Passes (CXE X.prog X.w) (cxComp X N' scope C s H fp xe) EX → PE (cxComp X N' scope C s H fp xe) elt te)
    {pins : List (Addr × Obj)} {s2 : Shared} {σ : St} {H2 : Hp} {Q : VK} {it : Addr} {fp : List Addr} {tn : Nat → Heap → Prop} {J : It} {RR : Value → Addr → Result → Shared → Prop} {E : Value → Shared → Prop}
    (I2 : Inv X pins σ H2 s2) (T : Turn X.prog X.w X.K tg J fp it tn) (st2 : tn 0 s2.heap) (f2 : ∀ b ∈ fp, FpOk X pins H2 b)
    (q : ∃ W : Nat → Nat → List V → Hp → Prop, (∃ m, W 0 m [] H2) ∧ ∀ i m ys H, W i m ys H →
      (J.stop i H ∧ ys.length ≤ sizeLine ∧ ∀ p, H p = none → Q (.ref p) (upd H p (.lst ys))) ∨
      (J.go i H ∧ ys.length ≤ sizeLine ∧ ∃ N : List V → Hp → Prop, (∀ ys' H', N ys' H' → ∃ m', m' < m ∧ W (i + 1) m' ys' H') ∧ ∀ x H', J.yld i H x H' → g x (capt ix σ) H' fun σ2 H2 => tt σ2 H2 fun b H3 => if b = true then te σ2 H3 fun v H4 => N (ys ++ [v]) H4 else N ys H3))
    (hRR : ∀ D C s' H' ys, Inv X pins σ (upd H' D (.lst ys)) s' → H' D = none → Q (.ref D) (upd H' D (.lst ys)) → (∃ m, s'.heap.Ns C m) → upd H' D (.lst ys) C = none → C ≠ X.env.locals → X.s₀.heap.objs.size ≤ C → (∀ x c, X.env.cells.lookup x = some c → c ≠ C) → (∀ p ∈ X.pn ++ pins, p.1 ≠ C) → RR (.ref D) C (.ok .next) s')
    (hRX : ∀ D C e s', (∃ m, s'.heap.Ns C m ∧ ∀ h', Heap.SameBut C s'.heap h' → ∀ cenv : Env, cenv.locals = C → wpAny (model X.prog X.w) X.A (PySem.passOn "comprehension.variables-let-go" e cenv : Sem Value) (fun _ _ => False) X.xe { s' with heap := h' }) → RR D C (.error e) s') :
    wpAny (model X.prog X.w) X.A (newList []) (fun acc s₃ => wpAny (model X.prog X.w) X.A (newFunctionEnv scope X.env.globals (clOf X.env.cells scope.names []) [] X.env.qual none .none (some X.env)) (fun cenv s₄ =>
      codeAny (model X.prog X.w) X.A (.compStart (.ListComp elt [⟨tg, iter, ifs, 0⟩] scope pos) 0 (.ref it) acc { cenv with scope := relabel scope X.env }) (RR acc cenv.locals) s₄) E s₃) E s2 := by
  have hfs : ∀ b ∈ fp, b < s2.heap.objs.size := fun b hb => by
    obtain ⟨o, e, _⟩ := T.obj _ _ st2 b hb
    exact Heap.lt_size e
  refine wpAny_newObj_type (wpAny_newFunctionEnv B.nocell (by intro y hy; simp at hy) (fun h₁ hns₁ hsb₁ => ?_) B.kind)
  dsimp only at hns₁ hsb₁ ⊢
  generalize hH3 : s2.heap.push { cls := .type "list", dict := none, data := .seq ([] : List Value).toArray } = H3 at hns₁ hsb₁ ⊢
  have hC : H3.objs.size = s2.heap.objs.size + 1 := by rw [← hH3, Heap.size_push]
  have hDC : s2.heap.objs.size ≠ H3.objs.size := by rw [hC]; exact Nat.ne_of_lt (Nat.lt_succ_self _)
  have below : ∀ b, b < s2.heap.objs.size → b ≠ H3.objs.size ∧ b ≠ s2.heap.objs.size := fun b hb => ⟨by rw [hC]; exact Nat.ne_of_lt (Nat.lt_succ_of_lt hb), Nat.ne_of_lt hb⟩
  have old : ∀ b o, s2.heap.get? b = some o → h₁.get? b = some o := fun b o e => hsb₁.extBut b o (below b (Heap.lt_size e)).1 (Heap.get?_push_of_some _ (hH3 ▸ Heap.get?_push_of_some _ e))
  have hacc : h₁.get? s2.heap.objs.size = some { cls := .type "list", data := .seq ([] : List Value).toArray 0 } := hsb₁.extBut _ _ hDC (Heap.get?_push_of_some _ (hH3 ▸ Heap.get?_push_size _ rfl))
  have hCle : s2.heap.objs.size ≤ H3.objs.size := by rw [hC]; exact Nat.le_succ _
  generalize hD : s2.heap.objs.size = D at *
  generalize hCC : H3.objs.size = C at *
  obtain ⟨W, ⟨m0, w0⟩, turn⟩ := q
  let xe : Value → Shared → Prop := notedBy (model X.prog X.w) X.A (compEnvC scope (clOf X.env.cells scope.names []) C X.env) fun e s' => RR (.ref D) C (.error e) s'
  let X' : Cx := cxComp X N' scope C s2 H2 fp xe
  have DL : D ∉ frs X.stack := fun z => by
    rcases List.mem_cons.mp (I2.stkSub D z) with e | e
    · exact absurd I2.lt (by rw [← e, hD]; exact Nat.lt_irrefl _)
    · exact I2.nofs (by rw [hD]; exact Nat.le_refl _) e
  have CL : C ∉ frs X.stack := fun z => by
    rcases List.mem_cons.mp (I2.stkSub C z) with e | e
    · exact absurd (Nat.lt_of_lt_of_le I2.lt (by rw [hD]; exact hCle)) (by rw [e]; exact Nat.lt_irrefl _)
    · exact I2.nofs (by rw [hD]; exact hCle) e
  have pass : Passes (CXE X.prog X.w) X' EX := fun pins' σ' H1 s1 e s3 I1 hx => by
    have J : Inv X pins σ H1 s1 := I2.call' (ch := fp) I1.os I1.base I1.hok I1.bare fun b hb => by
      obtain ⟨_, q1, _, q3, q4, q5⟩ := f2 b hb
      exact ⟨q3, q1, q4, q5⟩
    obtain ⟨m1, hn1, _⟩ := I1.loc
    exact wpAny_mono (comp_err O hL J hx (C := C) hn1 I1.free CL (Nat.le_trans I2.sz (by rw [hD]; exact hCle))) (fun _ s' q => hRX (.ref D) C e s' q) fun _ _ z => z
  have cellLt : ∀ x c, X.env.cells.lookup x = some c → c < D := fun x c e => by
    obtain ⟨v, oc, h, _⟩ := I2.cell x c e
    rw [← hD]; exact Heap.lt_size h
  have clB : ∀ x c, (clOf X.env.cells scope.names []).lookup x = some c → X.env.cells.lookup x = some c := fun x c h => clOf_has scope.names [] (fun _ _ z => by simp at z) h
  have pinLt : ∀ p ∈ X.pn ++ pins, p.1 < D := fun p hp => by rw [← hD]; exact Heap.lt_size (I2.pin p hp).1
  have fpX : ∀ {pl : List (Addr × Obj)} {H' : Hp}, (∀ b ∈ fp, H' b = none) → (∀ p ∈ pl, p ∈ pins ∨ p.1 = D) → ∀ b ∈ fp, FpOk X' pl H' b := fun {pl H'} hn hpl b hb => by
    obtain ⟨_, q1, q2, q3, q4, q5⟩ := f2 b hb
    refine ⟨hn b hb, (below b (hfs b hb)).1, fun z => ?_, .inl hb, fun x c e => q4 x c (clB x c e), fun p hp => ?_⟩
    · rcases List.mem_cons.mp (I2.stkSub b z) with e | e
      · exact q1 e
      · exact q2 e
    · rcases List.mem_append.mp hp with hp | hp
      · exact q5 p (List.mem_append_left _ hp)
      · rcases hpl p hp with z | z
        · exact q5 p (List.mem_append_right _ z)
        · rw [z]; exact Ne.symm (below b (hfs b hb)).2
  have loop : ∀ s₃ : Shared, s₃ = { s2 with heap := h₁, toks := s2.toks + ([] : List (Str × Value)).length } →
      codeAny (model X.prog X.w) X.A (.compLoop (.ListComp elt [⟨tg, iter, ifs, 0⟩] scope pos) 0 (.ref it) (.ref D) (compEnvC scope (clOf X.env.cells scope.names []) C X.env)) (RR (.ref D) C) s₃ := by
    rintro s₃ rfl
    refine compLoop_go (fun n s' => ∃ i H' ys its k, Inv X' pins (capt ix σ) H' s' ∧ tn i s'.heap ∧ (∀ b ∈ fp, H' b = none) ∧ H' D = none ∧ s'.heap.get? D = some { cls := .type "list", data := .seq (List.toArray its) k } ∧ Vals ys its ∧ W i n ys H') ?_ m0
      ⟨0, H2, [], [], 0, inv_block B I2 f2 (by rw [hD]; exact hCle) (fun b hb => by rw [hD]; exact hfs b hb) rfl rfl old hns₁, T.keep _ _ _ st2 fun b _ o e => old b o e, fun b hb => (f2 b hb).1, I2.hok.fresh (by rw [hD]; exact Nat.le_refl _), hacc, .nil, w0⟩
    rintro n s' ⟨i, H', ys, its, k, I', st', fr', hDn, hDo, rv, w'⟩
    have hDX : ∀ v, ({ cls := .type "list", data := .seq (List.toArray its) k } : Obj).data ≠ .cell v := fun v z => by
      have z' : Data.seq (List.toArray its) k = Data.cell v := z
      cases z'
    have pinD : ∀ {σ' : St} {H'' : Hp} {s'' : Shared} {its' : List Value} {k' : Nat}, Inv X' pins σ' H'' s'' → H'' D = none → s''.heap.get? D = some { cls := .type "list", data := .seq (List.toArray its') k' } → Inv X' (pins ++ [(D, { cls := .type "list", data := .seq (List.toArray its') k' })]) σ' H'' s'' := fun {σ' H'' s'' its' k'} J hn ho =>
      J.pins_of fun p hp => (List.mem_append.mp hp).elim (fun z => J.pin p (List.mem_append_right _ z)) fun z => by
        have e : p = (D, { cls := .type "list", data := .seq (List.toArray its') k' }) := by simpa using z
        subst e
        exact ⟨ho, hn, hDC, DL, fun v z => by
          have z' : Data.seq (List.toArray its') k' = Data.cell v := z
          cases z'⟩
    have plD : ∀ {its' : List Value} {k' : Nat}, ∀ p ∈ pins ++ [(D, ({ cls := .type "list", data := .seq (List.toArray its') k' } : Obj))], p ∈ pins ∨ p.1 = D := fun {its' k'} p hp => (List.mem_append.mp hp).elim .inl fun z => by
      have e : p = (D, { cls := .type "list", data := .seq (List.toArray its') k' }) := by simpa using z
      subst e
      exact .inr rfl
    have unD : ∀ {pl : List (Addr × Obj)} {σ' : St} {H'' : Hp} {s'' : Shared}, Inv X' (pins ++ pl) σ' H'' s'' → Inv X' pins σ' H'' s'' := fun J => J.pins_of fun p hp => J.pin p (List.mem_append_right _ (List.mem_append_left _ hp))
    have I'p := pinD I' hDn hDo
    rcases turn i n ys H' w' with ⟨stop, hsz, fin⟩ | ⟨go, hsz, N, hN, step⟩
    · refine wpAny_mono (T.done X' rfl rfl rfl hc i _ s' (capt ix σ) H' X'.xe I'p (fpX fr' plD) st' stop) (fun r s5 ⟨hr, I5⟩ => ?_) fun _ _ z => z
      subst hr
      have hDo5 : s5.heap.get? D = some { cls := .type "list", data := .seq (List.toArray its) k } := (I5.pin (D, _) (List.mem_append_right _ (List.mem_append_right _ (List.mem_singleton.mpr rfl)))).1
      have sz0 : X.s₀.heap.objs.size ≤ D := by rw [← hD]; exact I2.sz
      have J : Inv X pins σ H' s5 := I2.call' (ch := fp) I5.os I5.base I5.hok I5.bare fun b hb => by
        obtain ⟨_, q1, _, q3, q4, q5⟩ := f2 b hb
        exact ⟨q3, q1, q4, q5⟩
      have nL : X.env.locals < D := by rw [← hD]; exact I2.lt
      have J2 : Inv X pins σ (upd H' D (.lst ys)) s5 := Inv.track J hDn sz0 (Nat.ne_of_gt nL) (fun x c e => Nat.ne_of_lt (cellLt x c e)) (fun p hp => Nat.ne_of_lt (pinLt p hp)) ⟨hsz, its, k, rv, hDo5⟩
      obtain ⟨mC, hnC, _⟩ := I5.loc
      have DltC : D < C := Nat.lt_of_le_of_ne hCle hDC
      refine hRR D C s5 H' ys J2 hDn (fin D hDn) ⟨mC, hnC⟩ ?_ (Nat.ne_of_gt (Nat.lt_trans nL DltC)) (Nat.le_trans sz0 hCle) (fun x c e => Nat.ne_of_lt (Nat.lt_trans (cellLt x c e) DltC)) fun p hp => Nat.ne_of_lt (Nat.lt_trans (pinLt p hp) DltC)
      rw [upd_ne (Ne.symm hDC)]
      exact I5.free
    · refine wpAny_mono (T.item X' rfl rfl rfl hc i _ s' (capt ix σ) H' X'.xe I'p (fpX fr' plD) st' go) (fun r s5 ⟨u, hr, h5⟩ => ?_) fun _ _ z => z
      subst hr
      refine wpAny_mono h5 (fun _ s6 ⟨x, H6, I6, r6, y6, st6, fr6⟩ => ?_) fun _ _ z => z
      have I6' := I6.pinned (fpX fr6 plD) (T.obj _ _ st6)
      refine wpAny_mono (hg C s2 H2 fp xe _ s6 (capt ix σ) H6 x u _ I6' r6 (step x H6 y6)) (fun _ s7 ⟨σ7, H7, I7, q7⟩ => ?_) fun _ _ z => z
      have after : ∀ {σ8 : St} {H8 : Hp} {s8 : Shared}, Inv X' ((pins ++ [(D, { cls := .type "list", data := .seq (List.toArray its) k })]) ++ pinsAt fp s6.heap) σ8 H8 s8 →
          Inv X' pins (capt ix σ) H8 s8 ∧ tn (i + 1) s8.heap ∧ (∀ b ∈ fp, H8 b = none) ∧ H8 D = none ∧ s8.heap.get? D = some { cls := .type "list", data := .seq (List.toArray its) k } := fun {σ8 H8 s8} I8 => by
        have pD := I8.pin (D, { cls := .type "list", data := .seq (List.toArray its) k }) (List.mem_append_right _ (List.mem_append_left _ (List.mem_append_right _ (List.mem_singleton.mpr rfl))))
        have fpP : ∀ b ∈ fp, ∀ o, s6.heap.get? b = some o → s8.heap.get? b = some o ∧ H8 b = none := fun b hb o e => by
          have z := I8.pin (b, o) (List.mem_append_right _ (List.mem_append_right _ (mem_pinsAt hb e)))
          exact ⟨z.1, z.2.1⟩
        refine ⟨⟨I8.ok, I8.os, I8.bare, I8.base, ?_, I8.cell, I8.free, I8.freeC, fun p hp => ?_, I8.hok, ?_⟩, T.keep _ _ _ st6 fun b hb o e => (fpP b hb o e).1, fun b hb => ?_, pD.2.1, pD.1⟩
        · obtain ⟨m8, hn8, _⟩ := I8.loc
          refine ⟨m8, hn8, fun i x v h1 h2 h3 => ?_⟩
          obtain ⟨u, c, r, hc1, hc2, ⟨oc, z1, z2⟩, hk'⟩ := capt_cell B I2 h1 h2
          obtain ⟨sl, e8⟩ := I8.base.any z1 (I2.freeC x c hc2) fun z => (f2 c z).2.2.2.2.1 x c hc2 rfl
          exact ⟨u, r, .inr ⟨hk', c, hc1, _, e8, z2⟩⟩
        · rcases List.mem_append.mp hp with hp | hp
          · exact I8.pin p (List.mem_append_left _ hp)
          · exact I8.pin p (List.mem_append_right _ (List.mem_append_left _ (List.mem_append_left _ hp)))
        · show (capt ix σ).length = N'.length
          unfold capt
          rw [List.length_map]; exact B.len
        · obtain ⟨o, e, _⟩ := T.obj _ _ st6 b hb
          exact (fpP b hb o e).2
      refine wpAny_mono (ht C s2 H2 fp xe _ s7 σ7 H7 _ I7 q7) (fun b s8 ⟨H8, I8, q8⟩ => ?_) fun _ _ z => z
      cases b with
      | false =>
        rw [if_neg Bool.false_ne_true] at q8 ⊢
        obtain ⟨m', hm, w8⟩ := hN _ _ q8
        obtain ⟨J, tn8, f8, d8, o8⟩ := after I8
        exact ⟨m', hm, i + 1, H8, ys, its, k, J, tn8, f8, d8, o8, rv, w8⟩
      | true =>
        rw [if_pos rfl] at q8 ⊢
        refine wpAny_mono (he C s2 H2 fp xe pass _ s8 σ7 H8 _ I8 q8) (fun v s9 ⟨y, H9, I9, r9, q9⟩ => ?_) fun _ _ z => z
        obtain ⟨J, tn9, f9, d9, o9⟩ := after I9
        obtain ⟨m', hm, w9⟩ := hN _ _ q9
        refine append_at (hsz := by rw [List.size_toArray, ← rv.length]; exact hsz) o9 fun h10 hs10 hD10 => ?_
        refine ⟨m', hm, i + 1, H9, ys ++ [y], its ++ [v], k + 1, ?_, T.keep _ _ _ tn9 fun b hb o e => hs10.extBut b o (fun z => ?_) e, f9, d9, by rw [List.push_toArray] at hD10; exact hD10, rv.append (.cons r9 .nil), w9⟩
        · refine J.turned (t' := s9.toks) (it := D) (fun b o hb e => hs10.extBut b o hb e) d9 hDC (.inr (by show s2.heap.objs.size ≤ D; rw [hD]; exact Nat.le_refl _)) (fun x c e => Nat.ne_of_lt (cellLt x c (clB x c e))) fun p hp => Nat.ne_of_lt (pinLt p hp)
        · exact (below b (hfs b hb)).2 z
  exact codeAny_compStart_list (loop _ rfl) (T.self X.A 0 _ _ _ (T.keep _ _ _ st2 fun b _ o e => old b o e) (loop _ rfl))
/-- [..] out of whose parts an exception may come -/
theorem pe_lcX {EX : XK} (N' : List Str) (ix : List (Option Nat)) (hB : blkCheck X.env.scope X.N N' ix scope = true) (hc : X.calm = true) (O : Own X) (hL : Leaves X EX) (hi : PI X tg iter wi)
    (hg : ∀ C s H fp xe, PG (cxComp X N' scope C s H fp xe) tg g) (ht : ∀ C s H fp xe, PTs (cxComp X N' scope C s H fp xe) ifs tt) (he : ∀ C s H fp xe, Passes (CXE X.prog X.w) (cxComp X N' scope C s H fp xe) EX → PE (cxComp X N' scope C s H fp xe) elt te)
    (hs : ∀ x, foldedSetIterable iter X.env x = pure x := by intro _; rfl) : PE X (.ListComp elt [⟨tg, iter, ifs, 0⟩] scope pos) (tLC ix wi g tt te) := by
  intro pins s σ H Q I h
  have B := blk_of hB
  rw [eval_ListComp]
  refine wpAny_comprehension_free (use := none) rfl hs (closure_is fun y hy hf => I.ok.has y.1 (B.free y hy hf)) B.kind B.locs (thn (hi pins s σ H _ I h) fun v s1 h1 => thn h1 fun itv s2 h2 => ?_)
  obtain ⟨it, fp, tn, J, H2, e, I2, T, st2, f2, q⟩ := h2
  subst e
  refine lc_runX B hc O hL hg ht he I2 T st2 f2 q ?_ fun D C e s' z => z
  intro D C s' H' ys J2 hDn hq ⟨m, hn⟩ hC1 hC2 hC3 hC4 hC5
  refine ⟨m, hn, fun h' hs' => ?_⟩
  exact ⟨.ref D, _, J2.turned (t' := s'.toks) (it := C) (fun b o hb e => hs'.extBut b o hb e) hC1 hC2 (.inr hC3) hC4 hC5, rfl, hq⟩
/-- name = [..], out of which an exception may come -/
theorem ps_setLCX {EX : XK} {i : Nat} {x : Str} {pos' spos : Pos} (N' : List Str) (ix : List (Option Nat)) (hN : X.N.Nodup) (hi' : X.N[i]? = some x) (hx : X.env.scope.names.lookup x = some .local)
    (hB : blkCheck X.env.scope X.N N' ix scope = true) (hc : X.calm = true) (O : Own X) (hL : Leaves X EX) (hi : PI X tg iter wi)
    (hg : ∀ C s H fp xe, PG (cxComp X N' scope C s H fp xe) tg g) (ht : ∀ C s H fp xe, PTs (cxComp X N' scope C s H fp xe) ifs tt) (he : ∀ C s H fp xe, Passes (CXE X.prog X.w) (cxComp X N' scope C s H fp xe) EX → PE (cxComp X N' scope C s H fp xe) elt te)
    (hsw : swapsWith (.ListComp elt [⟨tg, iter, ifs, 0⟩] scope pos) (some (.Name x pos')) spos.line X.env = pure true)
    (hs : ∀ x, foldedSetIterable iter X.env x = pure x := by intro _; rfl) : PS X (.Assign [.Name x pos'] (.ListComp elt [⟨tg, iter, ifs, 0⟩] scope pos) spos) (tAsg (tLC ix wi g tt te) (gName i)) := by
  intro pins s σ H D0 I h
  have B := blk_of hB
  rw [exec_Assign_Name_used _ _ _ _ hsw]
  refine wpAny_bind (wpAny_standAt (wpAny_bind ?_))
  show wpAny _ X.A (do let _ ← comprehension (.ListComp elt [⟨tg, iter, ifs, 0⟩] scope pos) scope X.env _ (newList []) false (eval iter X.env) (some (assign (.Name x pos') X.env))) _ _ s
  refine wpAny_bind (wpAny_mono (wpAny_comprehension_free (use := some (assign (.Name x pos') X.env)) (Q := fun _ s' => SP X pins D0 .next s') rfl hs (closure_is fun y hy hf => I.ok.has y.1 (B.free y hy hf)) B.kind B.locs
    (thn (hi pins s σ H _ I h) fun v s1 h1 => thn h1 fun itv s2 h2 => ?_)) (fun _ s' hq => wpAny_pure (wpAny_pure hq)) fun _ _ e => e)
  obtain ⟨it, fp, tn, J, H2, e, I2, T, st2, f2, q⟩ := h2
  subst e
  refine lc_runX (Q := fun x H1 => gName i x σ H1 D0.nx) B hc O hL hg ht he I2 T st2 f2 q ?_ fun D C e s' z => z
  intro D C s' H' ys J2 hDn hq ⟨m, hn⟩ hC1 hC2 hC3 hC4 hC5
  show wpAny _ X.A (assign (.Name x pos') X.env (.ref D)) _ _ _
  refine wpAny_assign_Name (store_ok2 (v := .ref D) J2 hN hi' (.inl hx) rfl (fun s'' I'' hsb => ?_) (.inr hx))
  obtain ⟨a, hsb, ha⟩ := hsb
  have aC : C ≠ a := by
    rcases ha with rfl | ha
    · exact hC2
    · exact fun z => hC4 x a ha z.symm
  refine ⟨m, hn.sameBut hsb aC, fun h'' hs'' => ?_⟩
  exact ⟨_, _, I''.turned (t' := s''.toks) (it := C) (fun b o hb e => hs''.extBut b o hb e) hC1 hC2 (.inr hC3) hC4 hC5, hq⟩
end
theorem own_of {CX : CXT} {P : Program} {w : World} {K : PySem.W.Frag} {mg : Str → Option Value} {base : Heap} {N : List Str} {qual : Str} {scope : Scope} {f : Addr} {cd : Value} {A : Around} {outer : List Env} {s : Shared} {H : Hp} {E : XK} : Own (cxOf CX P w K mg base N qual scope f cd A outer s H E) := ⟨rfl, rfl, rfl⟩
theorem leaves_of {P : Program} {w : World} {K : PySem.W.Frag} {mg : Str → Option Value} {base : Heap} {N : List Str} {qual : Str} {scope : Scope} {f : Addr} {cd : Value} {A : Around} {outer : List Env} {s : Shared} {H : Hp} {E : XK} : Leaves (cxOf (CXE P w) P w K mg base N qual scope f cd A outer s H E) E := fun _ _ h => wpAny_mono h (fun _ _ z => z) fun _ _ z => z.elim
section
variable {X : Cx} {pos np : Pos} {t t0 : TS} {p C : Addr}
end
end L2

namespace L2
open PySem PySem.Spec PyProof.Rows PySem.SeqAt
section
variable {X : Cx} {K : PySem.W.Frag}
/-- bs.count(True) for truths -/
def rCntT : V → List V → Hp → VK → Prop := fun x vs H Q => ∃ l, ∃ bs : List Bool, x = .ref l ∧ vs = [.bl true] ∧ H l = some (.lst (bs.map V.bl)) ∧ Q (.int ((bs.countP id : Nat) : Int)) H
def isTrueV : Value → Bool
  | .bool b => b
  | _ => false
theorem vals_bls : ∀ {bs : List Bool} {us : List Value}, Vals (bs.map V.bl) us → us = bs.map Value.bool
  | [], _, .nil => rfl
  | b :: bs, _, .cons r t => by
    cases r
    rw [vals_bls t]; rfl
theorem mt_cntT (hv : X.A.units + 65 < cLine) : MtM X "list.count" rCntT := by
  intro pins s σ H x vs v us Q I rx rv h
  obtain ⟨l, bs, rfl, rfl, hH, q⟩ := h
  cases rx
  obtain ⟨u, rfl, ru⟩ := vals1 rv
  cases ru
  obtain ⟨z, its, n, r, ol, e⟩ := I.lstM hH
  obtain rfl := vals_bls r
  refine call_meets F.slot_list_count ⟨_, e, rfl⟩ F.entry_list_count (F.args_list_count_2 _ _) (list_countAt _ _ _ _ _ _ isTrueV) ⟨e, fun y hy => ?_, ?_⟩
  · have hy' : y ∈ bs.map Value.bool := by simpa using hy
    obtain ⟨b, _, rfl⟩ := List.mem_map.mp hy'
    have eq : isTrueV (.bool b) = PyData.eqv (.bool b) (.bool true) := by cases b <;> rfl
    rw [eq]
    refine SeqAt.eqAt_reads _ _ _ _ _ _ _ _ (Reads.bool b) (Reads.bool true) rfl rfl (SeqAt.room_of_shaped rfl ?_)
    exact hv
  · have e2 : List.countP isTrueV (bs.map Value.bool).toArray.toList = bs.countP id := by
      rw [List.toList_toArray, List.countP_map]; rfl
    rw [e2]
    exact ⟨.int _, H, I.tok _, ⟨_, rfl⟩, q⟩
end
end L2

set_option maxHeartbeats 4100000
namespace L2
open PySem PySem.Spec PyProof.Rows
/-- the signs of a text, one by one -/
def Its (z : Str) : It := ⟨fun i _ => i < z.cps.size, fun i H x H' => H' = H ∧ ∃ c, z.cps[i]? = some c ∧ x = .str ⟨#[c]⟩, fun i _ => z.cps.size ≤ i⟩
theorem turn_str {P : Program} {w : World} {K : PySem.W.Frag} {tg : Expr} {z : Str} {t : Tok} {ty : String} (it : Addr) (hty : ["enumerate", "zip", "dict_itemiterator", "dict_reverseitemiterator", "odict_iterator", "itertools.zip_longest", "itertools.pairwise"].contains ty = false)
    (W : ∀ A' : Around, A'.handled = none → Walks P w A' it [it] [it] z.cps.size (SignAt z) (fun i h => h.IsStrIter it ty z t i)) (sf : ∀ (A : Around) (i : Nat) (s : Shared) (Q : Value → Shared → Prop) (E : Value → Shared → Prop), s.heap.IsStrIter it ty z t i → Q (.ref it) s → wpAny (model P w) A (pyIter (.ref it)) Q E s) : Turn P w K tg (Its z) [it] it (fun i h => h.IsStrIter it ty z t i ∧ i ≤ z.cps.size) where
  mem := by simp
  obj := fun i h st b hb => by
    have e : b = it := by simpa using hb
    subst e
    obtain ⟨⟨o, e, c, d⟩, _⟩ := st
    exact ⟨o, e, fun v z => by rw [d] at z; cases z⟩
  keep := fun i h h' st k => by
    obtain ⟨⟨o, e, r⟩, l⟩ := st
    exact ⟨⟨o, k it (by simp) o e, r⟩, l⟩
  item := by
    intro X hP hw hK hc i pins s σ H E I hf st hg
    subst hP hw hK
    obtain ⟨f0, f1, f2, f3, f4, f5⟩ := hf it (by simp)
    refine (W X.A (I.ok.hd hc)).item i s _ _ hg st.1 fun v h' tk hv st' kk => ?_
    obtain ⟨c, u, e, rfl⟩ := hv
    have I1 : Inv X pins σ H { s with heap := h', toks := tk } := I.turned (fun b o hb e => kk b o (by simpa using hb) e) f0 f1 f3 f4 f5
    obtain ⟨o, eo, c', d⟩ := id st'
    exact ⟨_, rfl, go_of (s := { s with heap := h', toks := tk }) eo c' d hty ⟨.str ⟨#[c]⟩, H, I1, ⟨u, rfl⟩, ⟨rfl, c, e, rfl⟩, ⟨st', hg⟩, fun b hb => (hf b hb).1⟩⟩
  done := by
    intro X hP hw hK hc i pins s σ H E I hf st hg
    subst hP hw hK
    obtain ⟨f0, f1, f2, f3, f4, f5⟩ := hf it (by simp)
    have hi : i = z.cps.size := Nat.le_antisymm st.2 hg
    subst hi
    exact (W X.A (I.ok.hd hc)).done s _ _ st.1 fun h' tk kk => ⟨rfl, I.turned (fun b o hb e => kk b o (by simpa using hb) e) f0 f1 f3 f4 f5⟩
  self := fun A i s Q E st h => sf A i s Q E st.1 h
section
variable {X : Cx} {tg : Expr}
def iStr (tl : TE) : TI := fun σ H R => tl σ H fun x H1 => ∃ z, x = .str z ∧ R (Its z) H1
theorem pi_str {l : Expr} {tl : TE} (hl : PE X l tl) : PI X tg l (iStr tl) := by
  intro pins s σ H R I h
  refine thn (hl pins s σ H _ I h) fun v s1 ⟨x, H1, I1, r1, q1⟩ => ?_
  obtain ⟨z, e, q⟩ := q1
  subst e
  obtain ⟨t, rfl⟩ := r1
  have fin : ∀ b ∈ [s1.heap.objs.size], FpOk X pins H1 b := fun b hb => by
    have e : b = s1.heap.objs.size := by simpa using hb
    subst e
    exact I1.fpOk (Nat.le_refl _) (I1.hok.fresh (Nat.le_refl _))
  cases ha : z.cps.all (· < 128)
  · refine wpAny_pyIter_wide ha ?_
    exact ⟨s1.heap.objs.size, [s1.heap.objs.size], _, _, H1, rfl, I1.kept (t' := s1.toks) fun b o e => Heap.get?_push_of_some _ e, turn_str (t := t) (ty := "str_iterator") _ (by decide) (fun A' hA => Walks.strWide hA _ z t) (fun A i s Q E st h => wpAny_pyIter_striter_wide st h), ⟨⟨_, Heap.get?_push_size _ rfl, rfl, rfl⟩, Nat.zero_le _⟩, fin, q⟩
  · refine wpAny_pyIter_ascii ha ?_
    exact ⟨s1.heap.objs.size, [s1.heap.objs.size], _, _, H1, rfl, I1.kept (t' := s1.toks) fun b o e => Heap.get?_push_of_some _ e, turn_str (t := t) (ty := "str_ascii_iterator") _ (by decide) (fun A' hA => Walks.strAscii hA _ z t) (fun A i s Q E st h => wpAny_pyIter_striter_ascii st h), ⟨⟨_, Heap.get?_push_size _ rfl, rfl, rfl⟩, Nat.zero_le _⟩, fin, q⟩
end
section
variable {ix : List (Option Nat)} {g : TG} {tt : TT} {te : TE} {σ : St} {H1 : Hp} {Q : VK}
theorem lc_str {z : Str} (Pv : Nat → List V → Hp → Prop) (h0 : Pv 0 [] H1) (hl : ∀ i ys H, i ≤ z.cps.size → Pv i ys H → ys.length ≤ sizeLine)
    (hs : ∀ i c ys H, z.cps[i]? = some c → Pv i ys H → g (.str ⟨#[c]⟩) (capt ix σ) H fun σ2 H2 => tt σ2 H2 fun b H3 => if b = true then te σ2 H3 fun v H4 => Pv (i + 1) (ys ++ [v]) H4 else Pv (i + 1) ys H3)
    (hd : ∀ ys H, Pv z.cps.size ys H → ∀ p, H p = none → Q (.ref p) (upd H p (.lst ys))) : LcGoal ix g tt te σ H1 Q (Its z) := by
  refine ⟨fun i m ys H => m = z.cps.size - i ∧ i ≤ z.cps.size ∧ Pv i ys H, ⟨z.cps.size, by simp, Nat.zero_le _, h0⟩, ?_⟩
  rintro i m ys H ⟨rfl, hi, p⟩
  have zz := hl i ys H hi p
  by_cases hlt : i < z.cps.size
  · refine .inr ⟨hlt, zz, Pv (i + 1), fun ys' H' p' => ⟨z.cps.size - (i + 1), by omega, rfl, hlt, p'⟩, fun x H' y => ?_⟩
    obtain ⟨e, c, hc, y⟩ := y
    subst e y
    exact hs i c ys _ hc p
  · have e : i = z.cps.size := by omega
    subst e
    exact .inl ⟨Nat.le_refl _, zz, hd ys H p⟩
end
end L2

set_option maxHeartbeats 4100000
namespace L2
open PySem PySem.Spec PyProof.Rows
theorem part_of {v : Value} {i : Option Int} (h : IsPart v i) : ∃ l : Option (Int × Tok), v = partValue l ∧ l.map (·.1) = i := by
  cases h with
  | none => exact ⟨none, rfl, rfl⟩
  | int i t => exact ⟨some (i, t), rfl, rfl⟩
def rIntT : List V → Hp → VK → Prop := fun xs H Q => ∃ z n, xs = [.str z] ∧ z.length ≤ 640 ∧ PySem.intText? z = some n ∧ Q (.int n) H
def rIndexS : V → List V → Hp → VK → Prop := fun x vs H Q => ∃ z y i rest, x = .str z ∧ vs = [.str y] ∧ Builtin.Str.occurrences z y 0 z.length 1 = i :: rest ∧ Q (.int ((i : Nat) : Int)) H
section
variable {X : Cx}
theorem call_intT : CallR X (.type "int") rIntT := by
  intro pins s σ H xs us Q I r h
  obtain ⟨z, n, rfl, hl, hn, q⟩ := h
  obtain ⟨u, rfl, t, rfl⟩ := vals1 r
  exact PySem.W.KIN.call_text hn hl ⟨.int n, H, I.tok _, ⟨_, rfl⟩, q⟩
theorem mt_indexS : MtM X "str.index" rIndexS := by
  intro pins s σ H x vs v us Q I rx rv h
  obtain ⟨z, y, i, rest, rfl, rfl, ho, q⟩ := h
  obtain ⟨t, rfl⟩ := rx
  obtain ⟨u, rfl, t', rfl⟩ := vals1 rv
  exact call_gives F.slot_str_index (typeIs_str _ _ _) F.entry_str_index (F.args_str_index_2 _ _) (gives_str_index z y t t' i rest ho) ⟨.int ((i : Nat) : Int), H, I.tok _, ⟨_, rfl⟩, q⟩
end
end L2

set_option maxHeartbeats 4100000
namespace L2
open PySem PySem.Spec PyProof.Rows PySem.Builtin PySem.Builtin.Str
theorem vals_strs : ∀ {l : List (Str × Tok)}, Vals ((l.map (·.1)).map V.str) (strValues l)
  | [] => .nil
  | p :: l => .cons ⟨p.2, rfl⟩ (vals_strs (l := l))
theorem strs_are : ∀ {zs : List Str} {us : List Value}, Vals (zs.map V.str) us → StrsAre us zs
  | [], _, .nil => by exact StrsAre.nil
  | z :: zs, _, .cons r t => by
    obtain ⟨k, rfl⟩ := r
    exact StrsAre.cons z k (strs_are t)
/-- z.split(y) -/
def rSplitS : V → List V → Hp → VK → Prop := fun x vs H Q => ∃ z y, x = .str z ∧ vs = [.str y] ∧ (y.length == 0) = false ∧ z.length ≤ 5000 ∧ ∀ p H', New H p (.lst ((Txt.split z y).map V.str)) H' → Q (.ref p) H'
/-- z.partition(y) -/
def rPartS : V → List V → Hp → VK → Prop := fun x vs H Q => ∃ z y, x = .str z ∧ vs = [.str y] ∧ (y.length == 0) = false ∧ z.length ≤ 5000 ∧ ∀ p H', New H p (.tup [.str (Txt.partition z y).1, .str (Txt.partition z y).2.1, .str (Txt.partition z y).2.2]) H' → Q (.ref p) H'
/-- y.join(zs) -/
def rJoinS (K : PySem.W.Frag) : V → List V → Hp → VK → Prop := fun x vs H Q => ∃ y p zs, x = .str y ∧ vs = [.ref p] ∧ SqL K H p (zs.map V.str) ∧ y.length ≤ 16 ∧ (zs.map (·.length)).sum + zs.length ≤ 100000 ∧ Q (.str (Txt.join y zs)) H
section
variable {X : Cx} {K : PySem.W.Frag}
theorem mt_joinS (e : X.K = K) : MtM X "str.join" (rJoinS K) := by
  subst e
  intro pins s σ H x vs v us Q I rx rv h
  obtain ⟨y, p, zs, rfl, rfl, hp, hy, hw, q⟩ := h
  obtain ⟨t, rfl⟩ := rx
  obtain ⟨u, rfl, ru⟩ := vals1 rv
  cases ru
  obtain ⟨its, r, pl, hz⟩ := I.list hp
  exact join_listW pl.isList (by simpa using strs_are r) hy (by omega) fun t' k => ⟨.str _, H, I.tok k, ⟨_, rfl⟩, q⟩
theorem mt_splitS : MtM X "str.split" rSplitS := by
  intro pins s σ H x vs v us Q I rx rv h
  obtain ⟨z, y, rfl, rfl, hy, hz, q⟩ := h
  obtain ⟨t, rfl⟩ := rx
  obtain ⟨u, rfl, tu, rfl⟩ := vals1 rv
  have fin : ∀ (l : List (Str × Tok)) (k : Nat), Txt.split z y = l.map (·.1) → l.length ≤ 5002 → EP X pins σ Q (.ref s.heap.objs.size) { s with heap := s.heap.push { cls := .type "list", data := .seq (strValues l).toArray }, toks := k } := fun l k e hl => by
    rw [e] at q
    refine ⟨.ref s.heap.objs.size, _, I.laid (t' := k) (fun b o hb => Heap.get?_push_of_some _ hb) (Nat.le_refl _) (show ObjOk X.prog X.w _ _ _ (.lst ((l.map (·.1)).map V.str)) from ⟨?_, strValues l, 0, vals_strs, Heap.get?_push_size _ rfl⟩), rfl, q _ _ (New.mk0 (I.hok.fresh (Nat.le_refl _)))⟩
    rw [List.length_map, List.length_map, sizeLine_eq]; omega
  have many : (partsBetween z (occurrences z y 0 z.length (z.length + 1)) y.length).length ≤ z.length + 2 := by
    have := StrLaws.occ_length_le z y 0 z.length (z.length + 1)
    rw [length_partsBetween]
    omega
  have big : (5002 : Nat) ≤ sizeLine := by rw [sizeLine_eq]; decide
  cases c1 : (decide (z.length < y.length) || decide (strKind z < strKind y)) with
  | true => exact call_meets F.slot_str_split (typeIs_str _ _ _) F.entry_str_split (F.args_str_split_2 _ _) (meets_str_split_cannot_occur z y t tu c1) (fin [(z, t)] s.toks (by unfold Txt.split; rw [if_pos c1]; rfl) (by show 1 ≤ 5002; decide))
  | false =>
    cases c2 : (occurrences z y 0 z.length (z.length + 1)).isEmpty with
    | true => exact call_meets F.slot_str_split (typeIs_str _ _ _) F.entry_str_split (F.args_str_split_2 _ _) (meets_str_split_not_found z y t tu c1 hy c2) (fin [(z, t)] s.toks (by unfold Txt.split; rw [if_neg (by rw [c1]; decide), if_pos c2]; rfl) (by show 1 ≤ 5002; decide))
    | false =>
      refine call_meets F.slot_str_split (typeIs_str _ _ _) F.entry_str_split (F.args_str_split_2 _ _) (meets_str_split_sep z y t tu c1 hy c2 (by omega) (by omega)) ?_
      rw [strsFrom_eq]
      refine fin (numbered s.toks _) _ ?_ ?_
      · rw [numbered_texts]
        unfold Txt.split
        rw [if_neg (by rw [c1]; decide), if_neg (by rw [c2]; decide)]
      · have e := congrArg List.length (numbered_texts s.toks (partsBetween z (occurrences z y 0 z.length (z.length + 1)) y.length))
        rw [List.length_map] at e
        omega
theorem mt_partitionS : MtM X "str.partition" rPartS := by
  intro pins s σ H x vs v us Q I rx rv h
  obtain ⟨z, y, rfl, rfl, hy, hz, q⟩ := h
  obtain ⟨t, rfl⟩ := rx
  obtain ⟨u, rfl, tu, rfl⟩ := vals1 rv
  have fin : ∀ (a b c : Str) (ta tb tc k : Nat), Txt.partition z y = (a, b, c) → EP X pins σ Q (.ref s.heap.objs.size) { s with heap := s.heap.push { cls := .type "tuple", data := .seq [.str a ta, .str b tb, .str c tc].toArray }, toks := k } := fun a b c ta tb tc k e => by
    rw [e] at q
    exact ⟨.ref s.heap.objs.size, _, I.laid (t' := k) (fun b o hb => Heap.get?_push_of_some _ hb) (Nat.le_refl _) (show ObjOk X.prog X.w _ _ _ (.tup [.str a, .str b, .str c]) from ⟨by rw [sizeLine_eq]; show 3 ≤ 16777216; decide, [.str a ta, .str b tb, .str c tc], .cons ⟨_, rfl⟩ (.cons ⟨_, rfl⟩ (.cons ⟨_, rfl⟩ .nil)), ⟨_, Heap.get?_push_size _ rfl, rfl, _, rfl⟩⟩), rfl, q _ _ (New.mk0 (I.hok.fresh (Nat.le_refl _)))⟩
  refine call_meets F.slot_str_partition (typeIs_str _ _ _) F.entry_str_partition (F.args_str_partition_2 _ _) (meets_str_partition z y t tu hy (by rw [sizeLine_eq]; omega)) ?_
  have pe : Txt.partition z y = match occurrences z y 0 z.length 1 with
    | i :: _ => (strSub z 0 i, y, strSub z (i + y.length) z.length)
    | [] => (z, Str.empty, Str.empty) := rfl
  cases e : occurrences z y 0 z.length 1 with
  | nil => rw [e] at pe; exact fin _ _ _ _ _ _ _ pe
  | cons i r => rw [e] at pe; exact fin _ _ _ _ _ _ _ pe
end
end L2

namespace L2
open PySem PySem.Spec PyProof.Rows PySem.Builtin PySem.Builtin.Str
/-- the signs of z[lo:hi] -/
def cutT (l : List Nat) (lo hi : Option Int) : List Nat := (l.drop (HT.sIx l.length 0 lo)).take (HT.sIx l.length l.length hi - HT.sIx l.length 0 lo)
theorem ix_cut (lo hi : Option Int) (n : Nat) : strSliceIndices lo hi 1 n = (List.range (HT.sIx n n hi - HT.sIx n 0 lo)).map (HT.sIx n 0 lo + ·) := by
  have h1 : (1 : Int) > 0 := by decide
  have c1 : ∀ (d : Nat) (v : Int), max 0 (min (if v < 0 then v + (n : Int) else v) (n : Int)) = ((HT.sIx n d (some v) : Nat) : Int) := fun d v => by
    show _ = (((if v < 0 then (v + (n : Int)).toNat else min v.toNat n) : Nat) : Int)
    by_cases hv : v < 0
    · simp only [if_pos hv]; omega
    · simp only [if_neg hv]; omega
  have key : strSliceIndices lo hi 1 n = sliceRange ((HT.sIx n 0 lo : Nat) : Int) ((HT.sIx n n hi : Nat) : Int) 1 := by
    unfold strSliceIndices
    simp only [h1, if_true]
    cases lo with
    | none => cases hi with
      | none => rfl
      | some b => rw [← c1 n b]; rfl
    | some a => cases hi with
      | none => rw [← c1 0 a]; rfl
      | some b => rw [← c1 0 a, ← c1 n b]
  rw [key]
  generalize HT.sIx n 0 lo = i
  generalize HT.sIx n n hi = j
  unfold sliceRange
  simp only [h1, if_true]
  have ec : (if (i : Int) < (j : Int) then ((j : Int) - (i : Int) + 1 - 1) / 1 else 0).toNat = j - i := by
    split
    · rw [Int.ediv_one]; omega
    · omega
  rw [ec]
  refine List.map_congr_left fun k _ => ?_
  omega
theorem pick_text (xs : Array Nat) (i k : Nat) : ((List.range k).map (i + ·)).filterMap (xs[·]?) = (xs.toList.drop i).take k := by
  induction k with
  | zero => rfl
  | succ k ih =>
    rw [List.range_succ, List.map_append, List.filterMap_append, ih, List.take_succ]
    congr 1
    rw [List.getElem?_drop, Array.getElem?_toList]
    show [i + k].filterMap (xs[·]?) = (xs[i + k]?).toList
    cases e : xs[i + k]? with
    | none => simp [e]
    | some v => simp [e]
/-- z[lo:hi] -/
def rSlE : V → Option Int → Option Int → Hp → VK → Prop := fun x lo hi H Q => ∃ z, x = .str z ∧ z.length ≤ 1000 ∧ Q (.str ⟨(cutT z.cps.toList lo hi).toArray⟩) H
section
variable {X : Cx}
theorem sl_strE : SlR X rSlE := by
  intro pins s σ H x v vl vu lo hi sl Q I rx hs pl pu h
  obtain ⟨z, rfl, hz, q⟩ := h
  obtain ⟨t, rfl⟩ := rx
  obtain ⟨l, rfl, el⟩ := part_of pl
  obtain ⟨u, rfl, eu⟩ := part_of pu
  refine ⟨"str", _, F.slot_str_getitem.lookup, typeIs_str _ _ _, wpAny_getItem_str_slice (l := l) (u := u) (st := none) hs rfl ?_⟩
  have ep : slicePicked z l u none = strSliceIndices lo hi 1 z.length := by unfold slicePicked; rw [el, eu]; rfl
  have len : z.cps.toList.length = z.length := Array.length_toList
  have ec : (slicePicked z l u none).filterMap (z.cps[·]?) = cutT z.cps.toList lo hi := by
    rw [ep, ix_cut, pick_text]
    unfold cutT
    rw [len]
  have lc : (cutT z.cps.toList lo hi).length ≤ z.length := by
    unfold cutT
    rw [List.length_take, List.length_drop, len]
    omega
  unfold sliceMade
  split
  · rename_i c
    have c2 : (slicePicked z l u none).length = z.length := by
      rw [Bool.and_eq_true] at c
      exact beq_iff_eq.mp c.2
    have ew : (⟨(cutT z.cps.toList lo hi).toArray⟩ : Str) = z := by
      rw [ep, ix_cut, List.length_map, List.length_range] at c2
      have h1 := HT.sIx_le z.length z.length (Nat.le_refl _) hi
      have h2 : HT.sIx z.length 0 lo = 0 ∨ z.length = 0 := by omega
      have e2 : cutT z.cps.toList lo hi = z.cps.toList := by
        unfold cutT
        rw [len]
        rcases h2 with h2 | h2
        · rw [h2, List.drop_zero, List.take_of_length_le (by omega)]
        · have e0 : z.cps.toList = [] := List.length_eq_zero_iff.mp (by omega)
          rw [e0, List.drop_nil, List.take_nil]
      rw [e2]
    rw [ew] at q
    exact ⟨.str z, H, I, ⟨t, rfl⟩, q⟩
  · rw [ec]
    refine ⟨?_, .str _, H, I.tok _, ⟨_, rfl⟩, q⟩
    show (cutT z.cps.toList lo hi).toArray.size ≤ _
    rw [List.size_toArray, sizeLine_eq]
    omega
/-- a text n times -/
def rRepE : R2 := fun x y H Q => ∃ (l : List Nat) (n : Nat), x = .str ⟨l.toArray⟩ ∧ y = .int (n : Int) ∧ n ≤ 100 ∧ l.length ≤ 100 ∧ Q (.str ⟨((List.replicate n l).flatMap id).toArray⟩) H
theorem rep_app (l : List Nat) : ∀ (n : Nat) (a : Array Nat), (List.replicate n l.toArray).foldl (· ++ ·) a = (a.toList ++ (List.replicate n l).flatMap id).toArray
  | 0, a => by simp
  | n + 1, a => by
    rw [List.replicate_succ, List.foldl_cons, rep_app l n, List.replicate_succ, List.flatMap_cons]
    simp
theorem op_repE : OpR X (binaryOp .Mult) rRepE := by
  intro pins s σ H x y v u Q I rx ry h
  obtain ⟨l, n, rfl, rfl, n1, hz, q⟩ := h
  obtain ⟨t, rfl⟩ := rx
  obtain ⟨t', rfl⟩ := ry
  have lz : (⟨l.toArray⟩ : Str).length = l.length := by show l.toArray.size = _; simp
  have hm : l.length * n ≤ 100 * 100 := Nat.mul_le_mul hz n1
  refine P.mul_str (by rw [decide_eq_false (by omega), decide_eq_false (by omega)]; rfl) (fun h1 _ => ?_) (fun _ _ => ?_) ?_
  · intro c
    have e : (100 : Int) ≤ (2 ^ 63 - 1) / (n : Int) := by
      rw [Int.le_ediv_iff_mul_le (by omega)]
      omega
    rw [lz] at c
    omega
  · unfold Builtin.Str.tooLong
    simp only [decide_eq_false_iff_not]
    rw [sizeLine_eq, lz, Int.toNat_natCast]
    omega
  · rw [Int.toNat_natCast]
    split
    · have e0 : n = 0 := by omega
      subst e0
      exact ⟨by decide, .str _, H, I.tok _, ⟨_, rfl⟩, q⟩
    · split
      · rename_i h1 h2
        refine ⟨.str ⟨l.toArray⟩, H, I, ⟨t, rfl⟩, ?_⟩
        have e : ((List.replicate n l).flatMap _root_.id) = l := by
          rcases (Bool.or_eq_true _ _).mp h2 with h | h
          · have e1 : (n : Int) = 1 := by simpa using h
            have e1' : n = 1 := by omega
            subst e1'
            simp
          · have l0 : l.length = 0 := by rw [← lz]; simpa using h
            have ln : l = [] := List.length_eq_zero_iff.mp l0
            subst ln
            simp
        rw [e] at q
        exact q
      · have el := rep_app l n #[]
        have e : (⟨List.foldl (fun x1 x2 => x1 ++ x2) #[] (List.replicate n l.toArray)⟩ : Str) = ⟨((List.replicate n l).flatMap _root_.id).toArray⟩ := by
          rw [el]
          simp
        have ll : ((List.replicate n l).flatMap _root_.id).length = n * l.length := by
          rw [List.length_flatMap]
          simp
        refine ⟨?_, .str _, H, I.tok _, ⟨_, rfl⟩, ?_⟩
        · show (List.foldl (fun x1 x2 => x1 ++ x2) #[] (List.replicate n l.toArray)).size ≤ _
          rw [el, List.size_toArray, List.length_append, ll, sizeLine_eq, Nat.mul_comm]
          show 0 + _ ≤ _
          omega
        · show Q (.str ⟨List.foldl (fun x1 x2 => x1 ++ x2) #[] (List.replicate n l.toArray)⟩) H
          rw [e]
          exact q
end
end L2

namespace L2
open PySem PySem.Spec PyProof.Rows PySem.Builtin PySem.Builtin.Str
/-- a name's value, and nothing else is done -/
theorem name_at {X : Cx} {i : Nat} {x : Str} {v : V} {pos : Pos} {pins : List (Addr × Obj)} {s : Shared} {σ : St} {H : Hp} {Q : Value → Shared → Prop} {E : Value → Shared → Prop} (I : Inv X pins σ H s) (hN : X.N[i]? = some x) (hv : Vis X.env.scope x) (hd : (x == ("__debug__" : Str)) = false) (hcd : (x == ("__classdict__" : Str)) = false) (e : σ[i]? = some (some v)) (h : ∀ u, RelV v u → Q u s) : wpAny (model X.prog X.w) X.A (eval (.Name x pos) X.env) Q E s := by
  obtain ⟨m, hn, hl⟩ := I.loc
  obtain ⟨u, r, l⟩ := hl i x v hN e hv
  have fin := h u r
  rcases l with ⟨hk, hm⟩ | ⟨hk, c, hc, hcell⟩
  · exact wpAny_Name (wpAny_loadName_local I.ok.kind hk hn hm fin) hd
  · rcases hk with hk | hk
    · exact wpAny_Name (wpAny_loadName_cell I.ok.kind hk hc hcell fin) hd
    · exact wpAny_Name (wpAny_loadName_free I.ok.kind hk hc hcell fin hcd) hd
/-- if k == c: return w.replace(y, z) -/
def tIfRep (i j : Nat) (c : Int) (y z : Str) : TS := fun D σ H => tVar i σ H fun x H1 => ∃ n : Int, x = .int n ∧ if n = c then (tVar j σ H1 fun v H2 => ∃ w : Str, v = .str w ∧ w.length ≤ 1000 ∧ z.length ≤ 14 ∧ (y == z) = false ∧ D.rt (.str (Txt.replace w y z)) H2) else D.nx σ H1
section
variable {X : Cx}
theorem ps_ifRep {i j : Nat} {kx lx : Str} {c : Int} {y z : Str} {kp lp cp pc rp pos apos cpos q1 q2 : Pos} {jj j1 j2 : Nat} (hi : X.N[i]? = some kx) (hvi : Vis X.env.scope kx) (hdi : (kx == ("__debug__" : Str)) = false) (hci : (kx == ("__classdict__" : Str)) = false) (hj : X.N[j]? = some lx) (hvj : Vis X.env.scope lx) (hdj : (lx == ("__debug__" : Str)) = false) (hcj : (lx == ("__classdict__" : Str)) = false)
    (hline : (apos.endLine == cpos.line) = true := by rfl) :
    PS X (.If (.Compare (.Name kx kp) [.Eq] [.Constant (.int c) jj cp] pc) [.Return (some (.Call (.Attribute (.Name lx lp) "replace" apos) [.Constant (.str y) j1 q1, .Constant (.str z) j2 q2] [] cpos)) rp] [] pos) (tIfRep i j c y z) := by
  intro pins s σ H D I h
  obtain ⟨v, hv, n, rfl, h⟩ := h
  refine wpAny_If (wpAny_isTrue_Compare1 (name_at I hi hvi hdi hci hv fun u ru => ?_))
  obtain ⟨t, rfl⟩ := ru
  refine wpAny_Constant_int (eq_int (wpAny_truthy_bool ?_))
  have I2 : Inv X pins σ H { s with toks := s.toks + 1 } := I.tok _
  by_cases c0 : n = c
  · rw [if_pos c0] at h
    obtain ⟨v2, hv2, w, rfl, l1, l2, ne, q⟩ := h
    have e0 : (n == c) = true := by rw [c0]; simp
    rw [e0]
    show wpAny _ _ (execs [.Return _ _] X.env) _ _ _
    refine wpAny_execs_cons ?_
    refine wpAny_Return_some ?_
    refine wpAny_Call_method_late rfl rfl hline rfl (name_at I2 hj hvj hdj hcj hv2 fun u ru => ?_)
    obtain ⟨t2, rfl⟩ := ru
    refine ⟨"str", "str.replace", F.plainAttrs_str, F.slot_str_replace, F.type_str_replace, ?_, ?_, ?_⟩
    · exact typeIs_str _ _ _
    · exact fun a z => by cases z
    · show wpAny _ _ (callWith cpos (.builtin "str.replace") [.str w t2] [(false, eval (.Constant (.str y) j1 q1) X.env), (false, eval (.Constant (.str z) j2 q2) X.env)] []) _ _ _
      refine Calls.callWith_builtin rfl (Calls.evalArgs_plain (Calls.spliced_cons (Calls.Constant_str (k := j1) (pos := q1) (Calls.spliced_cons (Calls.Constant_str (k := j2) (pos := q2) (Calls.spliced_nil ?_))))))
      refine SC.replaceW (by simp) (by simp) (by simp) ne (by omega) l2 fun t' k => ?_
      exact ⟨.str _, σ, H, I.tok k, ⟨_, rfl⟩, q⟩
  · rw [if_neg c0] at h
    have e0 : (n == c) = false := by simp [c0]
    rw [e0]
    exact wpAny_execs_nil ⟨σ, H, I2, h⟩
end
end L2

namespace Tx
open PySem PySem.Builtin PySem.Builtin.Str PySem.StrLaws
theorem cut_at {c : Nat} : ∀ {a b r s : List Nat}, c ∉ a → c ∉ b → a ++ c :: r = b ++ c :: s → a = b ∧ r = s
  | [], [], r, s, _, _, h => ⟨rfl, (List.cons.inj h).2⟩
  | [], y :: b, r, s, _, hb, h => by
    have := (List.cons.inj h).1
    exact absurd (by rw [this]; exact List.mem_cons_self) hb
  | x :: a, [], r, s, ha, _, h => by
    have := (List.cons.inj h).1
    exact absurd (by rw [← this]; exact List.mem_cons_self) ha
  | x :: a, y :: b, r, s, ha, hb, h => by
    obtain ⟨e1, e2⟩ := List.cons.inj h
    obtain ⟨e3, e4⟩ := cut_at (fun z => ha (List.mem_cons_of_mem _ z)) (fun z => hb (List.mem_cons_of_mem _ z)) e2
    exact ⟨by rw [e1, e3], e4⟩
def cL (z : Str) : List Nat := z.cps.toList
theorem cL_inj {x y : Str} (h : cL x = cL y) : x = y := by
  obtain ⟨⟨x⟩⟩ := x
  obtain ⟨⟨y⟩⟩ := y
  have : x = y := h
  rw [this]
theorem cL_app (x y : Str) : cL (x ++ y) = cL x ++ cL y := by unfold cL; show (x.cps ++ y.cps).toList = _; rw [Array.toList_append]
theorem join_two (sep a b : Str) (r : List Str) : cL (Str.join sep (a :: b :: r)) = cL a ++ (cL sep ++ cL (Str.join sep (b :: r))) := by
  show cL (a ++ sep ++ Str.join sep (b :: r)) = _
  rw [cL_app, cL_app, List.append_assoc]
theorem join_uniq {c : Nat} {rest : List Nat} {sep : Str} (hs : cL sep = c :: rest) : ∀ {A B : List Str}, A ≠ [] → B ≠ [] → (∀ p ∈ A, c ∉ cL p) → (∀ p ∈ B, c ∉ cL p) → cL (Str.join sep A) = cL (Str.join sep B) → A = B
  | [], _, h, _, _, _, _ => absurd rfl h
  | _, [], _, h, _, _, _ => absurd rfl h
  | [a], [b], _, _, _, _, e => by rw [cL_inj (show cL a = cL b from e)]
  | [a], b :: b2 :: t, _, _, ha, _, e => by
    rw [join_two, hs] at e
    have e' : cL a = cL b ++ (c :: rest ++ cL (Str.join sep (b2 :: t))) := e
    exact absurd (by rw [e']; exact List.mem_append_right _ List.mem_cons_self) (ha a List.mem_cons_self)
  | a :: a2 :: r, [b], _, _, _, hb, e => by
    rw [join_two, hs] at e
    have e' : cL b = cL a ++ (c :: rest ++ cL (Str.join sep (a2 :: r))) := e.symm
    exact absurd (by rw [e']; exact List.mem_append_right _ List.mem_cons_self) (hb b List.mem_cons_self)
  | a :: a2 :: r, b :: b2 :: t, _, _, ha, hb, e => by
    rw [join_two, join_two, hs] at e
    obtain ⟨e1, e2⟩ := cut_at (ha a List.mem_cons_self) (hb b List.mem_cons_self) e
    have := join_uniq hs (A := a2 :: r) (B := b2 :: t) (by intro z; cases z) (by intro z; cases z) (fun p hp => ha p (List.mem_cons_of_mem _ hp)) (fun p hp => hb p (List.mem_cons_of_mem _ hp)) (List.append_cancel_left e2)
    rw [cL_inj e1, this]
theorem split_ne (x y : Str) : Txt.split x y ≠ [] := fun h => by
  have := PyProof.Rows.split_pos x y
  rw [h] at this
  exact absurd this (by decide)
/-- split by one sign -/
theorem split_one {c : Nat} {A : List Str} (ne : A ≠ []) (fr : ∀ p ∈ A, c ∉ cL p) : Txt.split (Str.join ⟨#[c]⟩ A) ⟨#[c]⟩ = A :=
  join_uniq (c := c) (rest := []) (sep := ⟨#[c]⟩) rfl (split_ne _ _) ne (split_free _ c) fr (by rw [join_split])
theorem at_two {x : Str} {c d k : Nat} (h1 : (cL x)[k]? = some c) (h2 : (cL x)[k + 1]? = some d) : At x ⟨#[c, d]⟩ x.length k := by
  have l := (List.getElem?_eq_some_iff.mp h2).1
  have lx : (cL x).length = x.length := by unfold cL Str.length; simp
  refine ⟨by show k + 2 ≤ _; omega, ?_⟩
  unfold subAt
  have e : x.cps.extract k (k + 2) = #[c, d] := by
    apply Array.ext'
    rw [Array.toList_extract]
    show ((cL x).drop k).take (k + 2 - k) = [c, d]
    rw [show k + 2 - k = 2 by omega]
    have k1 : k < (cL x).length := by omega
    rw [List.drop_eq_getElem_cons k1, List.drop_eq_getElem_cons l]
    have g1 : (cL x)[k] = c := by rw [List.getElem?_eq_getElem k1] at h1; exact Option.some.inj h1
    have g2 : (cL x)[k + 1] = d := by rw [List.getElem?_eq_getElem l] at h2; exact Option.some.inj h2
    rw [g1, g2]
    rfl
  show (x.cps.extract k (k + 2) == #[c, d]) = true
  rw [e]
  simp
/-- partition at the first such sign -/
theorem part_one {c : Nat} {u r : List Nat} (fu : c ∉ u) : Txt.partition ⟨(u ++ c :: r).toArray⟩ ⟨#[c]⟩ = (⟨u.toArray⟩, ⟨#[c]⟩, ⟨r.toArray⟩) := by
  have at_ : ∀ j, At ⟨(u ++ c :: r).toArray⟩ ⟨#[c]⟩ (⟨(u ++ c :: r).toArray⟩ : Str).length j ↔ (u ++ c :: r)[j]? = some c := fun j => (subAt_one _ c j)
  unfold Txt.partition
  rcases occ_head ⟨(u ++ c :: r).toArray⟩ ⟨#[c]⟩ 1 (Nat.le_refl _) with ⟨_, hn⟩ | ⟨i, t, e, hA, hn⟩
  · exact absurd ((at_ u.length).mpr (by rw [List.getElem?_append_right (Nat.le_refl _), Nat.sub_self]; rfl)) (hn _)
  · rw [e]
    have hi := (at_ i).mp hA
    have i1 : ¬ i < u.length := fun z => by
      rw [List.getElem?_append_left z] at hi
      exact fu (List.mem_of_getElem? hi)
    have i2 : ¬ u.length < i := fun z => hn u.length z ((at_ u.length).mpr (by rw [List.getElem?_append_right (Nat.le_refl _), Nat.sub_self]; rfl))
    have ei : i = u.length := by omega
    subst ei
    have a1 : strSub ⟨(u ++ c :: r).toArray⟩ 0 u.length = ⟨u.toArray⟩ := cL_inj (by
      unfold cL
      rw [strSub_toList]
      show ((u ++ c :: r).drop 0).take (u.length - 0) = u
      rw [List.drop_zero, Nat.sub_zero, List.take_left'] <;> rfl)
    have a2 : strSub ⟨(u ++ c :: r).toArray⟩ (u.length + (⟨#[c]⟩ : Str).length) (⟨(u ++ c :: r).toArray⟩ : Str).length = ⟨r.toArray⟩ := cL_inj (by
      unfold cL
      rw [strSub_toList]
      show ((u ++ c :: r).drop (u.length + 1)).take _ = r
      have : (u ++ c :: r).drop (u.length + 1) = r := by rw [List.drop_append]; simp
      rw [this]
      apply List.take_of_length_le
      show r.length ≤ (u ++ c :: r).toArray.size - (u.length + 1)
      simp
      omega)
    dsimp only
    rw [a1, a2]
end Tx

namespace Tx
open PySem PySem.Builtin PySem.Builtin.Str PySem.StrLaws
/-- nowhere c with d behind it -/
def NoCD (c d : Nat) (l : List Nat) : Prop := ∀ k, l[k]? = some c → l[k + 1]? ≠ some d
theorem NoCD.free {c d : Nat} {l : List Nat} (h : c ∉ l) : NoCD c d l := fun k e => absurd (List.mem_of_getElem? e) h
theorem NoCD.tail {c d x : Nat} {l : List Nat} (h : NoCD c d (x :: l)) : NoCD c d l := fun k e => h (k + 1) e
theorem cut_two {c d : Nat} (cd : c ≠ d) : ∀ {a b r s : List Nat}, NoCD c d a → NoCD c d b → a ++ c :: d :: r = b ++ c :: d :: s → a = b ∧ r = s
  | [], [], r, s, _, _, h => ⟨rfl, (List.cons.inj (List.cons.inj h).2).2⟩
  | [], [y], r, s, _, _, h => by
    have h2 := (List.cons.inj (List.cons.inj h).2).1
    exact absurd h2.symm cd
  | [], y :: z :: b, r, s, _, hb, h => by
    have h1 := (List.cons.inj h).1
    have h2 := (List.cons.inj (List.cons.inj h).2).1
    exact absurd (by rw [h2]; rfl) (hb 0 (by rw [h1]; rfl))
  | [x], [], r, s, _, _, h => by
    have h2 := (List.cons.inj (List.cons.inj h).2).1
    exact absurd h2 cd
  | x :: y :: a, [], r, s, ha, _, h => by
    have h1 := (List.cons.inj h).1
    have h2 := (List.cons.inj (List.cons.inj h).2).1
    exact absurd (by rw [← h2]; rfl) (ha 0 (by rw [← h1]; rfl))
  | x :: a, y :: b, r, s, ha, hb, h => by
    obtain ⟨e1, e2⟩ := List.cons.inj h
    obtain ⟨e3, e4⟩ := cut_two cd ha.tail hb.tail e2
    exact ⟨by rw [e1, e3], e4⟩
theorem no_join {c d : Nat} {a : List Nat} {b r : List Nat} (ha : NoCD c d a) (h : a = b ++ c :: d :: r) : False := by
  refine ha b.length ?_ ?_
  · rw [h, List.getElem?_append_right (Nat.le_refl _), Nat.sub_self]; rfl
  · rw [h, List.getElem?_append_right (by omega), show b.length + 1 - b.length = 1 by omega]; rfl
theorem join_uniq2 {c d : Nat} (cd : c ≠ d) : ∀ {A B : List Str}, A ≠ [] → B ≠ [] → (∀ p ∈ A, NoCD c d (cL p)) → (∀ p ∈ B, NoCD c d (cL p)) → cL (Str.join ⟨#[c, d]⟩ A) = cL (Str.join ⟨#[c, d]⟩ B) → A = B
  | [], _, h, _, _, _, _ => absurd rfl h
  | _, [], _, h, _, _, _ => absurd rfl h
  | [a], [b], _, _, _, _, e => by rw [cL_inj (show cL a = cL b from e)]
  | [a], b :: b2 :: t, _, _, ha, _, e => by
    rw [join_two] at e
    exact (no_join (ha a List.mem_cons_self) (show cL a = _ from e)).elim
  | a :: a2 :: r, [b], _, _, _, hb, e => by
    rw [join_two] at e
    exact (no_join (hb b List.mem_cons_self) (show cL b = _ from e.symm)).elim
  | a :: a2 :: r, b :: b2 :: t, _, _, ha, hb, e => by
    rw [join_two, join_two] at e
    obtain ⟨e1, e2⟩ := cut_two cd (ha a List.mem_cons_self) (hb b List.mem_cons_self) e
    have := join_uniq2 cd (A := a2 :: r) (B := b2 :: t) (by intro z; cases z) (by intro z; cases z) (fun p hp => ha p (List.mem_cons_of_mem _ hp)) (fun p hp => hb p (List.mem_cons_of_mem _ hp)) e2
    rw [cL_inj e1, this]
theorem gap_two {x : Str} {c d a b : Nat} (hn : ∀ k, a ≤ k → k < b → ¬ At x ⟨#[c, d]⟩ x.length k) : NoCD c d (cL (strSub x a b)) := fun j h1 h2 => by
  unfold cL at h1 h2
  rw [strSub_toList] at h1 h2
  have jl : j + 1 < b - a := by
    have := (List.getElem?_eq_some_iff.mp h2).1
    rw [List.length_take] at this
    omega
  rw [List.getElem?_take_of_lt (by omega), List.getElem?_drop] at h1
  rw [List.getElem?_take_of_lt jl, List.getElem?_drop] at h2
  exact hn (a + j) (by omega) (by omega) (at_two h1 h2)
theorem parts_twoG {x : Str} {c d : Nat} : ∀ (cuts : List Nat) (a f : Nat), ChainG x ⟨#[c, d]⟩ x.length a cuts f → (∀ k, f ≤ k → ¬ At x ⟨#[c, d]⟩ x.length k) → ∀ p ∈ partsFrom x 2 a cuts, NoCD c d (cL p)
  | [], a, f, h, hn, p, hp => by
    have e : f = a := h
    subst e
    rw [List.mem_singleton.mp hp]
    exact gap_two fun k h1 _ => hn k h1
  | e :: r, a, f, ⟨h1, h2, h3, h4⟩, hn, p, hp => by
    rcases List.mem_cons.mp hp with rfl | hp
    · exact gap_two h3
    · exact parts_twoG r _ f h4 hn p hp
/-- split by two signs, the parts of which have them nowhere side by side -/
theorem split_twoG {c d : Nat} (cd : c ≠ d) (c256 : c < 256) (d256 : d < 256) {A : List Str} (ne : A ≠ []) (fr : ∀ p ∈ A, NoCD c d (cL p)) : Txt.split (Str.join ⟨#[c, d]⟩ A) ⟨#[c, d]⟩ = A := by
  refine join_uniq2 cd (split_ne _ _) ne ?_ fr (by rw [join_split])
  generalize Str.join ⟨#[c, d]⟩ A = x
  obtain ⟨f, hG, hn⟩ := occ_tight x ⟨#[c, d]⟩ (by show 1 ≤ 2; decide)
  have whole : (∀ k, ¬ At x ⟨#[c, d]⟩ x.length k) → NoCD c d (cL x) := fun z k h1 h2 => z k (at_two h1 h2)
  unfold Txt.split
  split
  · rename_i hc
    intro p hp
    rw [List.mem_singleton.mp hp]
    refine whole fun k hA => ?_
    rw [Bool.or_eq_true, decide_eq_true_eq, decide_eq_true_eq] at hc
    rcases hc with h | h
    · have := hA.1
      have l2 : (⟨#[c, d]⟩ : Str).length = 2 := rfl
      omega
    · have k1 : Builtin.Str.strKind ⟨#[c, d]⟩ = 1 := by
        unfold Builtin.Str.strKind
        rw [if_pos (by simp [c256, d256])]
      rw [k1] at h
      unfold Builtin.Str.strKind at h
      split at h
      · exact absurd h (by decide)
      · split at h <;> exact absurd h (by decide)
  · split
    · rename_i he
      intro p hp
      rw [List.mem_singleton.mp hp]
      have e0 : occurrences x ⟨#[c, d]⟩ 0 x.length (x.length + 1) = [] := List.isEmpty_iff.mp he
      rw [e0] at hG
      have f0 : f = 0 := hG
      exact whole fun k => hn k (by omega)
    · rw [partsBetween_eq]
      exact parts_twoG _ _ _ hG hn
end Tx

namespace L2
open PySem PySem.Spec PyProof.Rows
/-- rows of displays of constants, kept as they stand -/
structure PAw (X : Cx) (es : List Expr) (t : TA) : Prop where
  h : PA X es t
section
variable {X : Cx}
theorem paw_nil : PAw X [] tNil := ⟨pa_nil⟩
theorem paw_str {x : Str} {j : Nat} {pos : Pos} {es : List Expr} {t : TA} (hr : PAw X es t) : PAw X (.Constant (.str x) j pos :: es) (tCons (tC (.str x)) t) := ⟨pa_cons pe_str hr.h⟩
end
end L2


namespace K
open PySem L2 Lw Bg
def top (i : Nat) : Stmt := PySem.Challenge.pw_bagwood_k82_bags_read.main.body.getD i (.Pass ⟨0, 0, 0, 0⟩)
structure Cts (mg : Str → Option Value) where
  u_FIGURES : Value
  m_FIGURES : mg "FIGURES" = some u_FIGURES
  r_FIGURES : RelV (.str "0123456789") u_FIGURES
  u_LETTERS : Value
  m_LETTERS : mg "LETTERS" = some u_LETTERS
  r_LETTERS : RelV (.str "abcdefghijklmnopqrstuvwxyz") u_LETTERS
  u_MOST_FIGURES : Value
  m_MOST_FIGURES : mg "MOST_FIGURES" = some u_MOST_FIGURES
  r_MOST_FIGURES : RelV (.int 30) u_MOST_FIGURES
  u_MOST_LETTERS : Value
  m_MOST_LETTERS : mg "MOST_LETTERS" = some u_MOST_LETTERS
  r_MOST_LETTERS : RelV (.int 6) u_MOST_LETTERS
theorem cts_mk {K : PySem.W.Frag} {h : Heap} {mg : Str → Option Value} {t_FIGURES : Tok} {t_LETTERS : Tok} {t_MOST_FIGURES : Tok} {t_MOST_LETTERS : Tok} (X : K.In h) (G : h.Ns mainGlobals mg) (a_FIGURES : PySem.W.nsIn K mainGlobals "FIGURES" = some (some (Value.str "0123456789" t_FIGURES))) (a_LETTERS : PySem.W.nsIn K mainGlobals "LETTERS" = some (some (Value.str "abcdefghijklmnopqrstuvwxyz" t_LETTERS))) (a_MOST_FIGURES : PySem.W.nsIn K mainGlobals "MOST_FIGURES" = some (some (Value.int 30 t_MOST_FIGURES))) (a_MOST_LETTERS : PySem.W.nsIn K mainGlobals "MOST_LETTERS" = some (some (Value.int 6 t_MOST_LETTERS))) : Nonempty (Cts mg) :=
  ⟨{ u_FIGURES := _, m_FIGURES := PySem.W.mg_of X G a_FIGURES, r_FIGURES := ⟨_, rfl⟩, u_LETTERS := _, m_LETTERS := PySem.W.mg_of X G a_LETTERS, r_LETTERS := ⟨_, rfl⟩, u_MOST_FIGURES := _, m_MOST_FIGURES := PySem.W.mg_of X G a_MOST_FIGURES, r_MOST_FIGURES := ⟨_, rfl⟩, u_MOST_LETTERS := _, m_MOST_LETTERS := PySem.W.mg_of X G a_MOST_LETTERS, r_MOST_LETTERS := ⟨_, rfl⟩ }⟩
structure Cl (K : PySem.W.Frag) (mg : Str → Option Value) where
  BagError : Addr
  m_BagError : mg "BagError" = some (.ref BagError)
  NoText : Addr
  m_NoText : mg "NoText" = some (.ref NoText)
  NoName : Addr
  m_NoName : mg "NoName" = some (.ref NoName)
  NoNumber : Addr
  m_NoNumber : mg "NoNumber" = some (.ref NoNumber)
  NoRow : Addr
  m_NoRow : mg "NoRow" = some (.ref NoRow)
  k_NoText : Xk K NoText
  v_NoText : PySem.W.kitOne K (.ref NoText) (.type "ValueError") = some true
  q_NoText_BagError : PySem.W.kitOne K (.ref NoText) (.ref BagError) = some true
  x_NoText_BagError : PySem.W.exmOne K (.ref NoText) (.ref BagError) = some true
  q_NoText_NoText : PySem.W.kitOne K (.ref NoText) (.ref NoText) = some true
  x_NoText_NoText : PySem.W.exmOne K (.ref NoText) (.ref NoText) = some true
  q_NoText_NoName : PySem.W.kitOne K (.ref NoText) (.ref NoName) = some false
  x_NoText_NoName : PySem.W.exmOne K (.ref NoText) (.ref NoName) = some false
  q_NoText_NoNumber : PySem.W.kitOne K (.ref NoText) (.ref NoNumber) = some false
  x_NoText_NoNumber : PySem.W.exmOne K (.ref NoText) (.ref NoNumber) = some false
  q_NoText_NoRow : PySem.W.kitOne K (.ref NoText) (.ref NoRow) = some false
  x_NoText_NoRow : PySem.W.exmOne K (.ref NoText) (.ref NoRow) = some false
  k_NoName : Xk K NoName
  v_NoName : PySem.W.kitOne K (.ref NoName) (.type "ValueError") = some true
  q_NoName_BagError : PySem.W.kitOne K (.ref NoName) (.ref BagError) = some true
  x_NoName_BagError : PySem.W.exmOne K (.ref NoName) (.ref BagError) = some true
  q_NoName_NoText : PySem.W.kitOne K (.ref NoName) (.ref NoText) = some false
  x_NoName_NoText : PySem.W.exmOne K (.ref NoName) (.ref NoText) = some false
  q_NoName_NoName : PySem.W.kitOne K (.ref NoName) (.ref NoName) = some true
  x_NoName_NoName : PySem.W.exmOne K (.ref NoName) (.ref NoName) = some true
  q_NoName_NoNumber : PySem.W.kitOne K (.ref NoName) (.ref NoNumber) = some false
  x_NoName_NoNumber : PySem.W.exmOne K (.ref NoName) (.ref NoNumber) = some false
  q_NoName_NoRow : PySem.W.kitOne K (.ref NoName) (.ref NoRow) = some false
  x_NoName_NoRow : PySem.W.exmOne K (.ref NoName) (.ref NoRow) = some false
theorem cl_mk {K : PySem.W.Frag} {h : Heap} {mg : Str → Option Value} {BagError NoText NoName NoNumber NoRow : Addr} (X : K.In h) (G : h.Ns mainGlobals mg)
    (a_BagError : PySem.W.nsIn K mainGlobals "BagError" = some (some (.ref BagError)))
    (a_NoText : PySem.W.nsIn K mainGlobals "NoText" = some (some (.ref NoText)))
    (a_NoName : PySem.W.nsIn K mainGlobals "NoName" = some (some (.ref NoName)))
    (a_NoNumber : PySem.W.nsIn K mainGlobals "NoNumber" = some (some (.ref NoNumber)))
    (a_NoRow : PySem.W.nsIn K mainGlobals "NoRow" = some (some (.ref NoRow)))
    (g_NoText : Xk K NoText)
    (t_NoText : [PySem.W.kitOne K (.ref NoText) (.type "ValueError"), PySem.W.kitOne K (.ref NoText) (.ref BagError), PySem.W.exmOne K (.ref NoText) (.ref BagError), PySem.W.kitOne K (.ref NoText) (.ref NoText), PySem.W.exmOne K (.ref NoText) (.ref NoText), PySem.W.kitOne K (.ref NoText) (.ref NoName), PySem.W.exmOne K (.ref NoText) (.ref NoName), PySem.W.kitOne K (.ref NoText) (.ref NoNumber), PySem.W.exmOne K (.ref NoText) (.ref NoNumber), PySem.W.kitOne K (.ref NoText) (.ref NoRow), PySem.W.exmOne K (.ref NoText) (.ref NoRow)] = [some true, some true, some true, some true, some true, some false, some false, some false, some false, some false, some false])
    (g_NoName : Xk K NoName)
    (t_NoName : [PySem.W.kitOne K (.ref NoName) (.type "ValueError"), PySem.W.kitOne K (.ref NoName) (.ref BagError), PySem.W.exmOne K (.ref NoName) (.ref BagError), PySem.W.kitOne K (.ref NoName) (.ref NoText), PySem.W.exmOne K (.ref NoName) (.ref NoText), PySem.W.kitOne K (.ref NoName) (.ref NoName), PySem.W.exmOne K (.ref NoName) (.ref NoName), PySem.W.kitOne K (.ref NoName) (.ref NoNumber), PySem.W.exmOne K (.ref NoName) (.ref NoNumber), PySem.W.kitOne K (.ref NoName) (.ref NoRow), PySem.W.exmOne K (.ref NoName) (.ref NoRow)] = [some true, some true, some true, some false, some false, some true, some true, some false, some false, some false, some false]) : Nonempty (Cl K mg) := by
  simp only [List.cons.injEq] at t_NoText
  obtain ⟨w_NoText, b_NoText_BagError, c_NoText_BagError, b_NoText_NoText, c_NoText_NoText, b_NoText_NoName, c_NoText_NoName, b_NoText_NoNumber, c_NoText_NoNumber, b_NoText_NoRow, c_NoText_NoRow, _⟩ := t_NoText
  simp only [List.cons.injEq] at t_NoName
  obtain ⟨w_NoName, b_NoName_BagError, c_NoName_BagError, b_NoName_NoText, c_NoName_NoText, b_NoName_NoName, c_NoName_NoName, b_NoName_NoNumber, c_NoName_NoNumber, b_NoName_NoRow, c_NoName_NoRow, _⟩ := t_NoName
  exact ⟨{ BagError := BagError, m_BagError := PySem.W.mg_of X G a_BagError, NoText := NoText, m_NoText := PySem.W.mg_of X G a_NoText, NoName := NoName, m_NoName := PySem.W.mg_of X G a_NoName, NoNumber := NoNumber, m_NoNumber := PySem.W.mg_of X G a_NoNumber, NoRow := NoRow, m_NoRow := PySem.W.mg_of X G a_NoRow, k_NoText := g_NoText, v_NoText := w_NoText, q_NoText_BagError := b_NoText_BagError, x_NoText_BagError := c_NoText_BagError, q_NoText_NoText := b_NoText_NoText, x_NoText_NoText := c_NoText_NoText, q_NoText_NoName := b_NoText_NoName, x_NoText_NoName := c_NoText_NoName, q_NoText_NoNumber := b_NoText_NoNumber, x_NoText_NoNumber := c_NoText_NoNumber, q_NoText_NoRow := b_NoText_NoRow, x_NoText_NoRow := c_NoText_NoRow, k_NoName := g_NoName, v_NoName := w_NoName, q_NoName_BagError := b_NoName_BagError, x_NoName_BagError := c_NoName_BagError, q_NoName_NoText := b_NoName_NoText, x_NoName_NoText := c_NoName_NoText, q_NoName_NoName := b_NoName_NoName, x_NoName_NoName := c_NoName_NoName, q_NoName_NoNumber := b_NoName_NoNumber, x_NoName_NoNumber := c_NoName_NoNumber, q_NoName_NoRow := b_NoName_NoRow, x_NoName_NoRow := c_NoName_NoRow }⟩
abbrev s_is_written : Stmt := top 11
theorem sc_is_written : FnScope ["text", "signs", "most"] ["text", "signs", "most"] (defScope s_is_written) := ⟨rfl, rfl, rfl, by decide +kernel, rfl, by decide +kernel, by decide +kernel⟩
abbrev s_is_number : Stmt := top 12
theorem sc_is_number : FnScope ["text"] ["text"] (defScope s_is_number) := ⟨rfl, rfl, rfl, by decide +kernel, rfl, by decide +kernel, by decide +kernel⟩
abbrev s_is_name : Stmt := top 13
theorem sc_is_name : FnScope ["text"] ["text"] (defScope s_is_name) := ⟨rfl, rfl, rfl, by decide +kernel, rfl, by decide +kernel, by decide +kernel⟩
def figT : Str := "0123456789"
def isFig (c : Nat) : Bool := decide (48 ≤ c ∧ c ≤ 57)
/-- whether all signs are figures -/
def allFig (z : Str) : Bool := z.cps.all isFig
/-- one to thirty figures, the first no 0 but in 0 itself -/
def numOk (z : Str) : Bool := decide (1 ≤ z.length) && decide (z.length ≤ 30) && allFig z && (decide (z.length = 1) || decide (z.cps[0]? ≠ some 48))
theorem fig_in (c : Nat) : (!(Builtin.Str.occurrences figT ⟨#[c]⟩ 0 figT.length 1).isEmpty) = isFig c := by
  rw [PySem.StrLaws.found_one]
  have e : figT.cps.toList = [48, 49, 50, 51, 52, 53, 54, 55, 56, 57] := by decide +kernel
  rw [e]
  unfold isFig
  rw [decide_eq_decide]
  simp only [List.mem_cons, List.not_mem_nil, or_false]
  omega
theorem zero_text : (Str.ofString "0") = ⟨#[48]⟩ := by decide +kernel
theorem str_0 {z : Str} {c : Nat} (h : z.cps.toList[0]? = some c) : z = ⟨#[48]⟩ ↔ z.length = 1 ∧ c = 48 := by
  have l : z.cps.toList.length = z.length := Array.length_toList
  constructor
  · rintro rfl
    refine ⟨rfl, ?_⟩
    have h' : some 48 = some c := h
    injection h' with h'
    exact h'.symm
  · rintro ⟨h1, rfl⟩
    rw [h1] at l
    have e : z.cps.toList = [48] := by
      match z.cps.toList, l, h with
      | [x], _, h =>
        have h' : some x = some 48 := h
        injection h' with h'
        rw [h']
    have : z.cps = #[48] := by
      rw [← Array.toList_inj, e]
    cases z
    rw [Str.mk.injEq]
    exact this
def spWritten : Sp := fun vs H Q _ => ∃ (z sg : Str) (f : Nat → Bool) (n : Int), vs = [.str z, .str sg, .int n] ∧ (∀ c, (!(Builtin.Str.occurrences sg ⟨#[c]⟩ 0 sg.length 1).isEmpty) = f c) ∧ z.length ≤ 200 ∧ ∀ H', Same H H' → Q (.bl (decide (1 ≤ (z.length : Int)) && decide ((z.length : Int) ≤ n) && z.cps.all f)) H'
def letT : Str := "abcdefghijklmnopqrstuvwxyz"
def isLet (c : Nat) : Bool := decide (97 ≤ c ∧ c ≤ 122)
def nameOk (z : Str) : Bool := decide (1 ≤ (z.length : Int)) && decide ((z.length : Int) ≤ 6) && z.cps.all isLet
theorem let_l : letT.cps.toList = (List.range 26).map (97 + ·) := by decide +kernel
theorem let_in (c : Nat) : (!(Builtin.Str.occurrences letT ⟨#[c]⟩ 0 letT.length 1).isEmpty) = isLet c := by
  rw [PySem.StrLaws.found_one, let_l]
  unfold isLet
  rw [decide_eq_decide, List.mem_map]
  constructor
  · rintro ⟨i, hi, rfl⟩
    have := List.mem_range.mp hi
    omega
  · intro h
    exact ⟨c - 97, List.mem_range.mpr (by omega), by omega⟩
def spName81 : Sp := fun vs H Q _ => ∃ (z : Str), vs = [.str z] ∧ z.length ≤ 200 ∧ ∀ H', Same H H' → Q (.bl (nameOk z)) H'
def spNumber80 : Sp := fun vs H Q _ => ∃ (z : Str), vs = [.str z] ∧ z.length ≤ 200 ∧ ∀ H', Same H H' → Q (.bl (numOk z)) H'
section
variable {P : Program} {w : World} {K : PySem.W.Frag} {mg : Str → Option Value} {base : Heap}
set_option maxHeartbeats 4000000 in
theorem ok_is_written (B : Bl mg) (d_is_written : Dn K mg "is_written" s_is_written ["text", "signs", "most"]) : FnOk P w K mg base CX0 1 d_is_written.f d_is_written.fd ["text", "signs", "most"] spWritten := by
  refine d_is_written.F.ok sc_is_written (fun vs H Q E h => ?_) (fun cdv A outer s H vs Q E hr h => ?_)
  · obtain ⟨z, sg, f, n, rfl, _⟩ := h
    rfl
  obtain ⟨z, sg, f, n, rfl, hin, hz, q⟩ := h
  refine ⟨_, (pss_one (ps_ret (pe_and (pe_chain op_le op_le pe_int (pe_callB call_len_str rfl B.len (by decide +kernel) (pa_cons (pv 0) pa_nil)) (pv 2)) (pe_one (pe_callB (call_allK (K := K) rfl rfl) rfl B.all (by decide +kernel) (pa_cons (pe_lc ["sign", "signs"] [none, some 1]  (by kernel_rfl) rfl (pi_str (pv 0)) (fun _ _ _ _ _ => (pg_name (i := 0) (show (["sign", "signs"] : List Str).Nodup by decide +kernel) rfl (Or.inl rfl))) (fun _ _ _ _ _ => pts_nil) (fun _ _ _ _ _ => (pe_cmpR op_in_str (pv 0) (pv 1) (by with_unfolding_all rfl)))) pa_nil)))))), ?_⟩
  have all : ∀ (N : VK), (∀ H', Same H H' → N (.bl (z.cps.all f)) H') → tCB (rAll K) (tCons (tLC [none, some 1] (iStr (tVar 0)) (gName 0) tTrue (tOp (fun x y H Q => ∃ i j, x = V.str i ∧ y = V.str j ∧ Q (V.bl !(Builtin.Str.occurrences j i 0 j.length 1).isEmpty) H) (tVar 0) (tVar 1))) tNil) (L2.start ["text", "signs", "most"] [V.str z, V.str sg, V.int n]) H N := fun N hN => by
    refine ⟨_, rfl, z, rfl, ?_⟩
    refine lc_str (fun i ys H' => H' = H ∧ ys = ((z.cps.toList.take i).map f).map V.bl) ⟨rfl, rfl⟩ (fun i ys H' hi h => ?_) (fun i c ys H' hc h => ?_) (fun ys H' h p hp => ?_)
    · rw [h.2, List.length_map, List.length_map, List.length_take, sizeLine_eq]
      have : z.cps.toList.length = z.length := Array.length_toList
      omega
    · obtain ⟨rfl, rfl⟩ := h
      refine ⟨_, rfl, _, rfl, _, _, rfl, rfl, rfl, ?_⟩
      have hc' : z.cps.toList[i]? = some c := by rw [Array.getElem?_toList]; exact hc
      obtain ⟨il, ie⟩ := List.getElem?_eq_some_iff.mp hc'
      rw [hin, List.take_succ_eq_append_getElem il, ie, List.map_append, List.map_append]
      rfl
    obtain ⟨rfl, rfl⟩ := h
    have np : New H' p (.lst (((z.cps.toList.take z.cps.size).map f).map V.bl)) (upd H' p (.lst (((z.cps.toList.take z.cps.size).map f).map V.bl))) := New.mk0 hp
    generalize upd H' p (.lst (((z.cps.toList.take z.cps.size).map f).map V.bl)) = H1 at np
    refine ⟨p, _, _, rfl, SqL.of np.here, Truths.bls _, ?_⟩
    have e : (((z.cps.toList.take z.cps.size).map f).all id) = z.cps.all f := by
      have a1 : z.cps.toList.take z.cps.size = z.cps.toList := by rw [← Array.length_toList, List.take_length]
      rw [a1, List.all_map, ← Array.all_toList]
      rfl
    rw [e]
    exact hN H1 np.same
  refine ⟨_, rfl, z, rfl, by rw [sizeLine_eq]; omega, _, _, rfl, rfl, _, rfl, ?_⟩
  cases c1 : decide (1 ≤ (z.length : Int)) with
  | false =>
    rw [c1] at q
    exact iteF ⟨_, rfl, iteF (q H (Same.refl _))⟩
  | true =>
    refine iteT ⟨_, rfl, _, _, rfl, rfl, _, rfl, ?_⟩
    rw [c1] at q
    cases c2 : decide ((z.length : Int) ≤ n) with
    | false =>
      rw [c2] at q
      exact iteF (q H (Same.refl _))
    | true =>
      rw [c2] at q
      refine iteT (all _ fun H' s => ?_)
      have := q H' s
      rw [Bool.true_and, Bool.true_and] at this
      exact this
set_option maxHeartbeats 4000000 in
theorem ok_is_number (B : Bl mg) (Ct : Cts mg) (d_is_written : Dn K mg "is_written" s_is_written ["text", "signs", "most"]) (d_is_number : Dn K mg "is_number" s_is_number ["text"]) : FnOk P w K mg base CX0 2 d_is_number.f d_is_number.fd ["text"] spNumber80 := by
  have G_is_written : FnOk P w K mg base CX0 1 _ _ _ _ := ok_is_written B d_is_written
  refine d_is_number.F.ok sc_is_number (fun vs H Q E h => ?_) (fun cdv A outer s H vs Q E hr h => ?_)
  · obtain ⟨z, rfl, _⟩ := h
    rfl
  obtain ⟨z, rfl, hz, q⟩ := h
  refine ⟨_, (pss_one (ps_ret (pe_and (pe_call G_is_written hr rfl d_is_written.m d_is_written.F.kp d_is_written.b .nil pass0 (pa_cons (pv 0) (pa_cons (pe_glob (v := .str "0123456789") rfl Ct.m_FIGURES Ct.r_FIGURES) (pa_cons (pe_glob (v := .int 30) rfl Ct.m_MOST_FIGURES Ct.r_MOST_FIGURES) pa_nil)))) (pe_one (pe_or (pe_cmpR op_eq (pv 0) pe_str (nomark _)) (pe_one (pe_cmpR op_ne (pe_ix ix_str (pv 0) pe_int (fun _ _ => rfl)) pe_str (nomark _)))))))), ?_⟩
  refine ⟨_, rfl, z, figT, isFig, 30, rfl, fig_in, hz, fun H1 s1 => ⟨_, rfl, ?_⟩⟩
  rw [show z.cps.all isFig = allFig z from rfl]
  cases c1 : (decide (1 ≤ (z.length : Int)) && decide ((z.length : Int) ≤ 30) && allFig z) with
  | false =>
    refine iteF ?_
    have e : numOk z = false := by
      unfold numOk
      have : (decide (1 ≤ z.length) && decide (z.length ≤ 30) && allFig z) = false := by
        rw [← c1]
        congr 2
        · exact decide_eq_decide.mpr (by omega)
        · exact decide_eq_decide.mpr (by omega)
      rw [this, Bool.false_and]
    have := q H1 s1
    rw [e] at this
    exact this
  | true =>
    refine iteT ?_
    have c1' := c1
    rw [Bool.and_eq_true, Bool.and_eq_true, decide_eq_true_iff, decide_eq_true_iff] at c1'
    obtain ⟨⟨l1, l30⟩, al⟩ := c1'
    have l : z.cps.toList.length = z.length := Array.length_toList
    obtain ⟨c, hc⟩ : ∃ c, z.cps.toList[0]? = some c := ⟨z.cps.toList[0]'(by omega), List.getElem?_eq_getElem (by omega)⟩
    have hc2 : z.cps[0]? = some c := by rw [← Array.getElem?_toList]; exact hc
    have e : numOk z = (decide (V.str z = V.str "0") || !decide (V.str ⟨#[c]⟩ = V.str "0")) := by
      unfold numOk
      rw [decide_eq_true (show 1 ≤ z.length by omega), decide_eq_true (show z.length ≤ 30 by omega), al, hc2, Bool.eq_iff_iff]
      simp only [Bool.true_and, Bool.or_eq_true, decide_eq_true_iff, Bool.not_eq_true', decide_eq_false_iff_not, V.str.injEq]
      have s0 := str_0 hc
      have z0 : (("0" : String) : Str) = ⟨#[48]⟩ := zero_text
      rw [z0, s0]
      have s1 : (⟨#[c]⟩ : Str) = ⟨#[48]⟩ ↔ c = 48 := by
        constructor
        · intro h
          injection h with h
          have := congrArg Array.toList h
          simpa using this
        · rintro rfl; rfl
      rw [s1]
      constructor
      · rintro (h | h)
        · by_cases d : c = 48
          · exact .inl ⟨h, d⟩
          · exact .inr d
        · exact .inr fun z => h (by rw [z])
      · rintro (h | h)
        · exact .inl h.1
        · exact .inr fun z => h (by injection z)
    have qq := q H1 s1
    rw [e] at qq
    refine ⟨_, rfl, rfl, _, rfl, ?_⟩
    cases d : decide (V.str z = V.str "0") with
    | true =>
      rw [d] at qq
      exact iteT qq
    | false =>
      rw [d, Bool.false_or] at qq
      exact iteF ⟨_, rfl, z, 0, c, rfl, rfl, by rw [sizeLine_eq]; omega, atI_nat (j := 0) hc, rfl, qq⟩
set_option maxHeartbeats 4000000 in
theorem ok_is_name (B : Bl mg) (Ct : Cts mg) (d_is_written : Dn K mg "is_written" s_is_written ["text", "signs", "most"]) (d_is_name : Dn K mg "is_name" s_is_name ["text"]) : FnOk P w K mg base CX0 2 d_is_name.f d_is_name.fd ["text"] spName81 := by
  have G_is_written : FnOk P w K mg base CX0 1 _ _ _ _ := ok_is_written B d_is_written
  refine d_is_name.F.ok sc_is_name (fun vs H Q E h => ?_) (fun cdv A outer s H vs Q E hr h => ?_)
  · obtain ⟨z, rfl, _⟩ := h
    rfl
  obtain ⟨z, rfl, hz, q⟩ := h
  refine ⟨_, (pss_one (ps_ret (pe_call G_is_written hr rfl d_is_written.m d_is_written.F.kp d_is_written.b .nil pass0 (pa_cons (pv 0) (pa_cons (pe_glob (v := .str "abcdefghijklmnopqrstuvwxyz") rfl Ct.m_LETTERS Ct.r_LETTERS) (pa_cons (pe_glob (v := .int 6) rfl Ct.m_MOST_LETTERS Ct.r_MOST_LETTERS) pa_nil)))))), ?_⟩
  exact ⟨_, rfl, z, letT, isLet, 6, rfl, let_in, hz, fun H1 s1 => q H1 s1⟩
end

end K


namespace K
open PySem L2 Lw Bg Tx
abbrev s_read_bags : Stmt := top 14
theorem sc_read_bags : FnScope ["names", "text", "rows"] ["names", "text"] (defScope s_read_bags) := ⟨rfl, rfl, rfl, by decide +kernel, rfl, by decide +kernel, by decide +kernel⟩
abbrev s_read_row : Stmt := top 15
theorem sc_read_row : FnScope ["row", "up", "colon", "rest", "is_up", "words"] ["row"] (defScope s_read_row) := ⟨rfl, rfl, rfl, by decide +kernel, rfl, by decide +kernel, by decide +kernel⟩
abbrev s_read_places : Stmt := top 16
theorem sc_read_places : FnScope ["names", "words", "places", "word"] ["names", "words"] (defScope s_read_places) := ⟨rfl, rfl, rfl, by decide +kernel, rfl, by decide +kernel, by decide +kernel⟩
def sT (l : List Nat) : Str := ⟨l.toArray⟩
theorem cL_sT (l : List Nat) : cL (sT l) = l := rfl
theorem sT_len (l : List Nat) : (sT l).length = l.length := by show l.toArray.size = _; simp
theorem sT_inj {a b : List Nat} (h : sT a = sT b) : a = b := congrArg cL h
structure Nms (nm : List (List Nat)) : Prop where
  few : nm.length ≤ 10
  nd : nm.Nodup
  ok : ∀ l ∈ nm, (1 ≤ l.length ∧ l.length ≤ 6) ∧ ∀ c ∈ l, 97 ≤ c ∧ c ≤ 122
theorem dash_t : (Str.ofString "-") = sT [45] := by decide +kernel
theorem colon_t : (Str.ofString ":") = sT [58] := by decide +kernel
theorem blank_t : (Str.ofString " ") = sT [32] := by decide +kernel
theorem semi_t : (Str.ofString "; ") = sT [59, 32] := by decide +kernel
theorem join_cL (sep : Str) (a : Str) : ∀ r : List Str, cL (Txt.join sep (a :: r)) = cL a ++ r.flatMap fun p => cL sep ++ cL p := fun r => by
  have : Txt.join sep (a :: r) = Str.join sep (a :: r) := PySem.StrLaws.glued_eq_join sep (a :: r)
  rw [this]
  induction r generalizing a with
  | nil => show cL a = _; rw [List.flatMap_nil, List.append_nil]
  | cons b r ih => rw [join_two, ih b (PySem.StrLaws.glued_eq_join sep (b :: r)), List.flatMap_cons, List.append_assoc]
theorem sum_le {B : Nat} : ∀ {zs : List Str}, (∀ z ∈ zs, z.length ≤ B) → (zs.map (·.length)).sum ≤ zs.length * B
  | [], _ => Nat.zero_le _
  | z :: r, h => by
    have := sum_le (zs := r) fun x hx => h x (List.mem_cons_of_mem _ hx)
    have h1 := h z List.mem_cons_self
    rw [List.map_cons, List.sum_cons, List.length_cons, Nat.add_mul, Nat.one_mul]
    omega
theorem len_app (a b : Str) : (a ++ b).length = a.length + b.length := by
  show (a.cps ++ b.cps).size = _
  rw [Array.size_append]
  rfl
def NmL (H : Hp) (a : Addr) (nm : List (List Nat)) : Prop := H a = some (.lst (nm.map fun l => V.str (sT l)))
theorem isDs_strs {K : PySem.W.Frag} {H : Hp} : ∀ nm : List (List Nat), IsDs K H (nm.map fun l => V.str (sT l)) (nm.map fun l => PyData.str (sT l))
  | [] => .nil
  | l :: r => .cons (.str _) (isDs_strs r)
theorem any_str (nm : List (List Nat)) (l : List Nat) : (nm.map fun l => PyData.str (sT l)).any (fun e => PyData.eqv e (.str (sT l))) = decide (l ∈ nm) := by
  induction nm with
  | nil => rfl
  | cons a r ih =>
    rw [List.map_cons, List.any_cons, ih, PyData.eqv]
    by_cases h : a = l
    · subst h; simp
    · have h' : ¬ l = a := fun z => h z.symm
      have h2 : ¬ sT a = sT l := fun z => h (sT_inj z)
      simp [h', h2]
theorem depth_strs (nm : List (List Nat)) : PyData.depthAll (nm.map fun l => PyData.str (sT l)) = 0 := by
  induction nm with
  | nil => rfl
  | cons a r ih => rw [List.map_cons, PyData.depthAll, ih]; rfl
theorem can_str {l : List Nat} (h : ∀ c ∈ l, c < 200) : (PyData.str (sT l)).canLay0 = true := by
  rw [PyData.canLay0]
  show l.toArray.all (fun c => decide (c < 0x110000)) = true
  rw [List.all_toArray]
  exact List.all_eq_true.mpr fun c hc => decide_eq_true (by have := h c hc; omega)
theorem can_strs : ∀ {nm : List (List Nat)}, (∀ l ∈ nm, ∀ c ∈ l, c < 200) → PyData.canLayAll0 (nm.map fun l => PyData.str (sT l)) = true
  | [], _ => rfl
  | a :: r, h => by rw [List.map_cons, PyData.canLayAll0, can_strs fun l hl => h l (List.mem_cons_of_mem _ hl), can_str (h a List.mem_cons_self)]; rfl
theorem shaped_str {l : List Nat} (h : ∀ c ∈ l, c < 200) : SeqAt.shaped (.str (sT l)) = true := by
  unfold SeqAt.shaped
  rw [can_str h]
  rfl
theorem shaped_strs {nm : List (List Nat)} (h : ∀ l ∈ nm, ∀ c ∈ l, c < 200) : SeqAt.shaped (.list (nm.map fun l => PyData.str (sT l))) = true := by
  unfold SeqAt.shaped
  rw [PyData.canLay0, can_strs h, PyData.depth, depth_strs]
  decide
theorem Nms.short {nm : List (List Nat)} (hN : Nms nm) : ∀ l ∈ nm, ∀ c ∈ l, c < 200 := fun l hl c hc => by have := (hN.ok l hl).2 c hc; omega
theorem cut_hi' (xs : List V) (k : Nat) : cutV xs (some (k : Int)) none = xs.drop k := by
  unfold cutV
  have e1 : HT.sIx xs.length 0 (some (k : Int)) = min k xs.length := HT.sIx_nat _ _ k
  have e2 : HT.sIx xs.length xs.length none = xs.length := rfl
  rw [e1, e2]
  rcases Nat.le_total k xs.length with c | c
  · rw [Nat.min_eq_left c, List.take_of_length_le (by rw [List.length_drop]; omega)]
  · rw [Nat.min_eq_right c, Nat.sub_self, List.take_zero, List.drop_of_length_le c]

end K


namespace K
open PySem L2 Lw Bg Tx
abbrev natV (l : List Nat) : List V := l.map fun (x : Nat) => V.int (x : Int)
theorem nodup_le : ∀ {m : Nat} {l : List Nat}, l.Nodup → (∀ x ∈ l, x < m) → l.length ≤ m
  | 0, l, _, lt => by
    cases l with
    | nil => exact Nat.le_refl _
    | cons x r => exact absurd (lt x List.mem_cons_self) (Nat.not_lt_zero _)
  | m + 1, l, nd, lt => by
    have ih := nodup_le (m := m) (nd.erase m) fun x hx => by
      obtain ⟨h1, h2⟩ := nd.mem_erase_iff.mp hx
      have := lt x h2
      omega
    rw [List.length_erase] at ih
    split at ih <;> omega
theorem natV_ints (l : List Nat) : natV l = (l.map fun (x : Nat) => (x : Int)).map V.int := by
  unfold natV
  rw [List.map_map]
  rfl
theorem inNats {K : PySem.W.Frag} {H : Hp} {b : Addr} {l : List Nat} {x : Nat} {Q : VK} (hS : SqL K H b (natV l)) (q : Q (.bl (decide (x ∈ l))) H) : rInD K false (.int (x : Int)) (.ref b) H Q := by
  rw [natV_ints] at hS
  refine inInts hS ?_
  have e : decide ((x : Int) ∈ l.map fun (x : Nat) => (x : Int)) = decide (x ∈ l) := by
    rw [Bool.eq_iff_iff, decide_eq_true_iff, decide_eq_true_iff, List.mem_map]
    constructor
    · rintro ⟨y, hy, e⟩
      have : y = x := by omega
      rw [← this]; exact hy
    · intro h
      exact ⟨x, h, rfl⟩
  rw [e]
  exact q


def valF (z : Str) : Int := ((PySem.NumText.digitsVal z.cps.toList : Nat) : Int)
theorem num_reads80 {z : Str} (h : numOk z = true) : PySem.intText? z = some (valF z) := by
  unfold numOk at h
  rw [Bool.and_eq_true, Bool.and_eq_true, Bool.and_eq_true, decide_eq_true_iff, decide_eq_true_iff] at h
  obtain ⟨⟨⟨h1, h2⟩, h3⟩, _⟩ := h
  have l : z.cps.toList.length = z.length := Array.length_toList
  refine PySem.intText_digits (fun c hc => ?_) (fun e => ?_) (by show z.length ≤ 4300; omega)
  · unfold allFig at h3
    rw [← Array.all_toList, List.all_eq_true] at h3
    have := h3 c hc
    unfold isFig at this
    exact of_decide_eq_true this
  · rw [e] at l
    have l' : 0 = z.length := l
    omega
theorem sT_cL (z : Str) : sT (cL z) = z := cL_inj rfl
theorem cL_len (z : Str) : (cL z).length = z.length := Array.length_toList
theorem empty_t : Str.ofString "" = sT [] := by decide +kernel
def partZ (z : Str) : Str × Str × Str := Txt.partition z (Str.ofString ":")
def wsZ (z : Str) : List Str := Txt.split (partZ z).2.2 (Str.ofString " ")
def isUpB (u : Str) : Bool := decide (V.str u = V.str (Str.ofString "-")) || numOk u
def rowB (z : Str) : Bool := !(!isUpB (partZ z).1 || (!((((partZ z).2.1).length : Int) != 0) || ((((wsZ z).headD (sT [])).length : Int) != 0 || !((wsZ z).tail.all nameOk))))
def upZ (z : Str) : Option Int := if V.str (partZ z).1 = V.str (Str.ofString "-") then none else some (valF (partZ z).1)
theorem part_none {z : Str} (h : 58 ∉ cL z) : partZ z = (z, Str.empty, Str.empty) := by
  unfold partZ
  rw [colon_t]
  unfold Txt.partition
  rcases PySem.StrLaws.occ_head z (sT [58]) 1 (Nat.le_refl _) with ⟨e, _⟩ | ⟨i, t, e, hA, _⟩
  · rw [e]
  · exact absurd (List.mem_of_getElem? ((PySem.StrLaws.subAt_one z 58 i).mp hA)) h
theorem mem_cut {c : Nat} : ∀ {l : List Nat}, c ∈ l → ∃ u r, c ∉ u ∧ l = u ++ c :: r
  | x :: l, h => by
    by_cases e : x = c
    · exact ⟨[], l, List.not_mem_nil, by rw [e]; rfl⟩
    · have h' : c ∈ l := (List.mem_cons.mp h).resolve_left fun z => e z.symm
      obtain ⟨u, r, hu, rfl⟩ := mem_cut h'
      refine ⟨x :: u, r, fun z => ?_, rfl⟩
      rcases List.mem_cons.mp z with z | z
      · exact e z.symm
      · exact hu z
theorem part_cases (z : Str) : (58 ∉ cL z ∧ partZ z = (z, Str.empty, Str.empty)) ∨ ∃ u r, 58 ∉ u ∧ z = sT (u ++ 58 :: r) ∧ partZ z = (sT u, sT [58], sT r) := by
  by_cases h : 58 ∈ cL z
  · obtain ⟨u, r, hu, e⟩ := mem_cut h
    have ez : z = sT (u ++ 58 :: r) := by rw [← e, sT_cL]
    refine .inr ⟨u, r, hu, ez, ?_⟩
    unfold partZ
    rw [colon_t, ez]
    exact part_one hu
  · exact .inl ⟨h, part_none h⟩
theorem part_len (z : Str) : (partZ z).1.length ≤ z.length ∧ (partZ z).2.1.length ≤ 1 ∧ (partZ z).2.2.length ≤ z.length := by
  rcases part_cases z with ⟨_, e⟩ | ⟨u, r, _, ez, e⟩
  · rw [e]
    exact ⟨Nat.le_refl _, Nat.zero_le _, Nat.zero_le _⟩
  · rw [e, ez, sT_len, sT_len, sT_len, sT_len, List.length_append, List.length_cons]
    exact ⟨by omega, Nat.le_refl _, by omega⟩
theorem piece_len (sep : Str) : ∀ {A : List Str}, A ≠ [] → (∀ p ∈ A, p.length ≤ (Str.join sep A).length) ∧ (1 ≤ sep.length → A.length ≤ (Str.join sep A).length + 1)
  | [], h => absurd rfl h
  | [a], _ => ⟨fun p hp => by rw [List.mem_singleton.mp hp]; exact Nat.le_refl _, fun _ => by show 1 ≤ _ + 1; omega⟩
  | a :: b :: r, _ => by
    obtain ⟨h1, h2⟩ := piece_len sep (A := b :: r) (by intro z; cases z)
    have e : (Str.join sep (a :: b :: r)).length = a.length + (sep.length + (Str.join sep (b :: r)).length) := by
      have := congrArg List.length (join_two sep a b r)
      rw [List.length_append, List.length_append, cL_len, cL_len, cL_len, cL_len] at this
      exact this
    refine ⟨fun p hp => ?_, fun hs => ?_⟩
    · rcases List.mem_cons.mp hp with rfl | hp
      · omega
      · have := h1 p hp
        omega
    · have := h2 hs
      rw [List.length_cons] at this ⊢
      rw [List.length_cons]
      omega
theorem ws_len (z : Str) : wsZ z ≠ [] ∧ (∀ p ∈ wsZ z, p.length ≤ z.length) ∧ (wsZ z).length ≤ z.length + 1 := by
  have ne : wsZ z ≠ [] := split_ne _ _
  have l2 := (part_len z).2.2
  obtain ⟨h1, h2⟩ := piece_len (Str.ofString " ") ne
  have ej : Str.join (Str.ofString " ") (wsZ z) = (partZ z).2.2 := by unfold wsZ; exact PySem.StrLaws.join_split _ _
  rw [ej] at h1 h2
  refine ⟨ne, fun p hp => by have := h1 p hp; omega, ?_⟩
  have := h2 (by rw [blank_t, sT_len]; decide)
  omega
/-- a or b, as a value -/
theorem or_val {ta tb : TE} {σ : St} {H : Hp} {Q : VK} {c1 c2 : Bool} (ha : ∀ Q : VK, Q (.bl c1) H → ta σ H Q) (hb : c1 = false → ∀ Q : VK, (∀ H', Same H H' → Q (.bl c2) H') → tb σ H Q) (h : ∀ H', Same H H' → Q (.bl (c1 || c2)) H') : tOrV ta tb σ H Q := by
  refine ha _ ⟨c1, rfl, ?_⟩
  cases c1 with
  | true => exact iteT (h H (Same.refl _))
  | false => exact iteF (hb rfl _ h)
theorem orH {a b : TT} {σ : St} {H : Hp} {Q : Bool → Hp → Prop} {c1 c2 : Bool} (h1 : ∀ Q : Bool → Hp → Prop, Q c1 H → a σ H Q) (h2 : c1 = false → ∀ Q : Bool → Hp → Prop, (∀ H', Same H H' → Q c2 H') → b σ H Q) (h : ∀ H', Same H H' → Q (c1 || c2) H') : tOr a b σ H Q := by
  refine h1 _ ?_
  cases c1 with
  | true => exact iteT (h H (Same.refl _))
  | false => exact iteF (h2 rfl _ h)
def ixN' (nm : List (List Nat)) (w : Str) : Nat := nm.idxOf (cL w)
def plB (nm : List (List Nat)) (ws : List Str) : Bool := decide ((∀ w ∈ ws, cL w ∈ nm) ∧ ws.Nodup)
theorem ix_inj {nm : List (List Nat)} {x y : Str} (hx : cL x ∈ nm) (hy : cL y ∈ nm) (e : ixN' nm x = ixN' nm y) : x = y := by
  have xl : ixN' nm x < nm.length := List.idxOf_lt_length_of_mem hx
  have yl : ixN' nm y < nm.length := List.idxOf_lt_length_of_mem hy
  have e1 : nm[ixN' nm x] = cL x := List.getElem_idxOf xl
  have e2 : nm[ixN' nm y] = cL y := List.getElem_idxOf yl
  refine cL_inj ?_
  rw [← e1, ← e2]
  congr 1
theorem ix_few {nm : List (List Nat)} {ws : List Str} (few : nm.length ≤ 10) (inn : ∀ w ∈ ws, cL w ∈ nm) (nd : ws.Nodup) : ws.length ≤ 10 := by
  have h : (ws.map (ixN' nm)).Nodup := by
    unfold List.Nodup
    rw [List.pairwise_map]
    exact (List.Pairwise.and_mem.mp nd).imp fun ⟨hx, hy, ne⟩ e => ne (ix_inj (inn _ hx) (inn _ hy) e)
  have := nodup_le (m := nm.length) h fun x hx => by
    obtain ⟨w, hw, rfl⟩ := List.mem_map.mp hx
    exact List.idxOf_lt_length_of_mem (inn w hw)
  rw [List.length_map] at this
  omega

def spRowX (nt : Addr) : Sp := fun vs H Q E => ∃ z : Str, vs = [.str z] ∧ z.length ≤ 190 ∧ (rowB z = true → ∀ p b H', Same H H' → H' p = some (.tup [upV (upZ z), .ref b]) → H' b = some (.lst ((wsZ z).tail.map V.str)) → Q (.ref p) H') ∧ (rowB z = false → ∀ p H', Same H H' → H' p = none → E (.ref p) (some nt) H')
def spPlX (K : PySem.W.Frag) (nn : Addr) : Sp := fun vs H Q E => ∃ (a b : Addr) (nm : List (List Nat)) (ws : List Str), vs = [.ref a, .ref b] ∧ NmL H a nm ∧ Nms nm ∧ SqL K H b (ws.map V.str) ∧ ws.length ≤ 200 ∧ (∀ w ∈ ws, nameOk w = true) ∧ (plB nm ws = true → ∀ p (zs : List Int) H', Same H H' → H' p = some (.lst (zs.map V.int)) → zs.Perm (ws.map fun w => ((ixN' nm w : Nat) : Int)) → zs.Pairwise (· ≤ ·) → Q (.ref p) H') ∧ (plB nm ws = false → ∀ p H', Same H H' → H' p = none → E (.ref p) (some nn) H')
section
variable {P : Program} {w : World} {K : PySem.W.Frag} {mg : Str → Option Value} {base : Heap}
set_option maxHeartbeats 4000000 in
theorem okX_read_row (B : Bl mg) (Ct : Cts mg) (C : Cl K mg) (d_is_written : Dn K mg "is_written" s_is_written ["text", "signs", "most"]) (d_is_number : Dn K mg "is_number" s_is_number ["text"]) (d_is_name : Dn K mg "is_name" s_is_name ["text"]) (d_read_row : Dn K mg "read_row" s_read_row ["row"]) : FnOk P w K mg base (CXE P w) 3 d_read_row.f d_read_row.fd ["row"] (spRowX C.NoText) := by
  have G_is_number : FnOk P w K mg base CX0 2 _ _ _ _ := ok_is_number B Ct d_is_written d_is_number
  have G_is_name : FnOk P w K mg base CX0 2 _ _ _ _ := ok_is_name B Ct d_is_written d_is_name
  refine d_read_row.F.okE sc_read_row (fun vs H Q E h => ?_) (fun cdv A outer s H vs Q E hr h => ?_)
  · obtain ⟨z, rfl, _⟩ := h
    rfl
  obtain ⟨z, rfl, l190, good, bad⟩ := h
  obtain ⟨pl1, pl2, pl3⟩ := part_len z
  obtain ⟨wne, wl, wc⟩ := ws_len z
  obtain ⟨w0, ws, ew⟩ : ∃ w0 ws, wsZ z = w0 :: ws := by
    cases e : wsZ z with
    | nil => exact absurd e wne
    | cons a r => exact ⟨a, r, rfl⟩
  have w0l := wl w0 (by rw [ew]; exact List.mem_cons_self)
  have wsl : ∀ x ∈ ws, x.length ≤ 190 := fun x hx => by have := wl x (by rw [ew]; exact List.mem_cons_of_mem _ hx); omega
  rw [ew, List.length_cons] at wc
  refine ⟨_, (pss_cons (ps_asg (pe_bmK (K := K) rfl PySem.F.plainAttrs_str PySem.F.slot_str_partition PySem.F.type_str_partition mt_partitionS (pv 0) (pa_cons pe_str pa_nil)) (pg_tupK (K := K) (n := 3) rfl rfl (pgs_cons (pg_name (i := 1) sc_read_row.nd rfl (Or.inl rfl)) (pgs_cons (pg_name (i := 2) sc_read_row.nd rfl (Or.inl rfl)) (pgs_cons (pg_name (i := 3) sc_read_row.nd rfl (Or.inl rfl)) pgs_nil)))))
      (pss_cons (ps_set (i := 4) sc_read_row.nd rfl (Or.inl rfl) (pe_or (pe_cmpR op_eq (pv 1) pe_str (nomark _)) (pe_one (pe_call G_is_number hr rfl d_is_number.m d_is_number.F.kp d_is_number.b .nil pass0 (pa_cons (pv 1) pa_nil)))))
      (pss_cons (ps_set (i := 5) sc_read_row.nd rfl (Or.inl rfl) (pe_bmK (K := K) rfl PySem.F.plainAttrs_str PySem.F.slot_str_split PySem.F.type_str_split mt_splitS (pv 3) (pa_cons pe_str pa_nil)))
      (pss_cons (ps_if (PW.pt (pw_or (pt_not (pt_truthK (K := K) rfl (pv 4) (fun _ => rfl))) (pw_or (pt_not (pt_truthK (K := K) rfl (pv 2) (fun _ => rfl))) (pw_or (pt_truthK (K := K) rfl (pe_ix (ix_listK (K := K) rfl) (pv 5) pe_int (fun _ _ => rfl)) (fun _ => rfl)) (pw_or1 (pt_not (pt_truthK (K := K) rfl (pe_callB (call_allK (K := K) rfl rfl) rfl B.all (by decide +kernel) (pa_cons (pe_lc ["word"] [none]  (by kernel_rfl) rfl (pi_listK (K := K) rfl (pe_slice (sl_listN (K := K) rfl) (pv 5) (po_some pe_int) po_none)) (fun _ _ _ _ _ => (pg_name (i := 0) (show (["word"] : List Str).Nodup by decide +kernel) rfl (Or.inl rfl))) (fun _ _ _ _ _ => pts_nil) (fun _ _ _ _ _ => (pe_call G_is_name hr rfl d_is_name.m d_is_name.F.kp d_is_name.b .nil pass0 (pa_cons (pv 0) pa_nil)))) pa_nil)) (fun _ => rfl))))))))
      (pss_one (ps_raise hr.hd rfl C.m_NoText C.k_NoText (pa_cons pe_str pa_nil)))
      pss_nil)
      (pss_one (ps_ret (pe_tupN (pa_cons (pe_ifExp (pt_cmpR op_eq (pv 1) pe_str (nomark _)) pe_non (pe_callTy call_intT rfl B.int (by decide +kernel) (pa_cons (pv 1) pa_nil))) (pa_cons (pe_slice (sl_listN (K := K) rfl) (pv 5) (po_some pe_int) po_none) pa_nil))))))))), ?_⟩
  refine ⟨_, rfl, rfl, _, _, rfl, rfl, by rw [colon_t]; rfl, by omega, fun p1 H1 n1 => ?_⟩
  refine ⟨p1, _, rfl, SqT.of n1.here, rfl, _, _, rfl, _, _, rfl, _, _, rfl, rfl, ?_⟩
  change (tSeq _ _) _ _ _
  dsimp only [tSeq, tAsg]
  refine or_val (c1 := decide (V.str (partZ z).1 = V.str (Str.ofString "-"))) (c2 := numOk (partZ z).1) (fun Q h => ⟨_, rfl, rfl, h⟩) (fun _ Q h => ⟨_, rfl, _, rfl, by show (partZ z).1.length ≤ 200; omega, h⟩) (fun H2 s2 => ?_)
  have s02 := n1.same.trans s2
  refine ⟨_, rfl, rfl, _, _, rfl, rfl, by rw [blank_t]; rfl, by show (partZ z).2.2.length ≤ 5000; omega, fun p3 H3 n3 => ?_⟩
  have h3 : H3 p3 = some (.lst ((w0 :: ws).map V.str)) := by rw [← ew]; exact n3.here
  have s03 := s02.trans n3.same
  have cw : cutV ((w0 :: ws).map V.str) (some 1) none = ws.map V.str := cut_hi' _ 1
  dsimp only [gName, tSeq, tIfS]
  refine orH (c1 := !isUpB (partZ z).1) (c2 := (!((((partZ z).2.1).length : Int) != 0) || (((w0.length : Int) != 0) || !(ws.all nameOk)))) (fun Q h => ⟨_, rfl, _, rfl, h⟩) (fun _ Q h => ?_) (fun H6 s6 => ?_)
  · refine orH (c1 := !((((partZ z).2.1).length : Int) != 0)) (c2 := ((w0.length : Int) != 0) || !(ws.all nameOk)) (fun Q h => ⟨_, rfl, _, ⟨by show (partZ z).2.1.length ≤ _; rw [sizeLine_eq]; omega, rfl⟩, h⟩) (fun _ Q h => ?_) h
    refine orH (c1 := (w0.length : Int) != 0) (c2 := !(ws.all nameOk)) (fun Q h => ⟨_, rfl, p3, _, _, V.str w0, rfl, rfl, SqL.of h3, atI_nat (j := 0) rfl, _, ⟨by rw [sizeLine_eq]; omega, rfl⟩, h⟩) (fun _ Q h => ?_) h
    refine ⟨_, rfl, _, rfl, p3, _, rfl, SqL.of h3, fun p4 H4 n4 => ?_⟩
    rw [cw] at n4
    refine ⟨p4, rfl, ⟨_, SqL.of n4.here⟩, ?_⟩
    refine lc_fmN (fun x => match x with | .str y => some (.bl (nameOk y)) | _ => none) (SqL.of n4.here) (by rw [List.length_map]; omega) (fun x H5 N hx s5 hN5 => ?_) (fun H5 p6 H6 s5 n6 => ?_)
    · obtain ⟨y, hy, rfl⟩ := List.mem_map.mp hx
      exact ⟨_, rfl, y, rfl, by have := wsl y hy; omega, fun H6 s6 => hN5 H6 (s5.trans s6)⟩
    have e6 : (ws.map V.str).filterMap (fun x => match x with | .str y => some (V.bl (nameOk y)) | _ => none) = (ws.map nameOk).map V.bl := by
      rw [List.filterMap_map, List.map_map]
      exact fm_some fun _ _ => rfl
    rw [e6] at n6
    refine ⟨p6, _, _, rfl, SqL.of n6.here, Truths.bls _, ?_⟩
    have e7 : (ws.map nameOk).all id = ws.all nameOk := by rw [List.all_map]; rfl
    rw [e7]
    exact ⟨_, rfl, h H6 (n4.same.trans (s5.trans n6.same))⟩
  have eb : (!isUpB (partZ z).1 || (!((((partZ z).2.1).length : Int) != 0) || (((w0.length : Int) != 0) || !(ws.all nameOk)))) = !rowB z := by
    unfold rowB
    rw [ew, Bool.not_not]
    rfl
  rw [eb]
  have s06 := s03.trans s6
  cases rb : rowB z with
  | false => exact iteT ⟨Nat.le_of_lt (small1000 (by decide)), fun p hp => bad rb p H6 s06 hp⟩
  | true =>
    refine iteF ?_
    have gd := good rb
    have up : isUpB (partZ z).1 = true := by
      have := rb
      unfold rowB at this
      rw [Bool.not_eq_true', Bool.or_eq_false_iff] at this
      have h1 := this.1
      rw [Bool.not_eq_false'] at h1
      exact h1
    rw [ew] at gd
    refine ⟨_, rfl, rfl, _, rfl, ite2 (fun c => ?_) (fun c => ?_)⟩
    · have c' : V.str (partZ z).1 = V.str (Str.ofString "-") := of_decide_eq_true c
      have eu : upZ z = none := by unfold upZ; rw [if_pos c']
      rw [eu] at gd
      refine ⟨_, rfl, _, rfl, p3, _, rfl, SqL.of (s6 _ _ h3), fun p7 H7 n7 => ⟨(by show 2 ≤ 1000; decide), fun p8 H8 n8 => ?_⟩⟩
      rw [cw] at n7
      exact gd p8 p7 H8 (s06.trans (n7.same.trans n8.same)) n8.here (n8.same _ _ n7.here)
    · have c' : ¬ V.str (partZ z).1 = V.str (Str.ofString "-") := of_decide_eq_false (Bool.eq_false_iff.mpr c)
      have eu : upZ z = some (valF (partZ z).1) := by unfold upZ; rw [if_neg c']
      have nk : numOk (partZ z).1 = true := by
        unfold isUpB at up
        rw [decide_eq_false c', Bool.false_or] at up
        exact up
      rw [eu] at gd
      refine ⟨_, rfl, _, valF (partZ z).1, rfl, by show (partZ z).1.length ≤ _; omega, num_reads80 nk, ?_⟩
      refine ⟨_, rfl, _, rfl, p3, _, rfl, SqL.of (s6 _ _ h3), fun p7 H7 n7 => ⟨(by show 2 ≤ 1000; decide), fun p8 H8 n8 => ?_⟩⟩
      rw [cw] at n7
      exact gd p8 p7 H8 (s06.trans (n7.same.trans n8.same)) n8.here (n8.same _ _ n7.here)
set_option maxHeartbeats 4000000 in
theorem okX_read_places (B : Bl mg) (C : Cl K mg) (d_read_places : Dn K mg "read_places" s_read_places ["names", "words"]) : FnOk P w K mg base (CXE P w) 1 d_read_places.f d_read_places.fd ["names", "words"] (spPlX K C.NoName) := by
  refine d_read_places.F.okE sc_read_places (fun vs H Q E h => ?_) (fun cdv A outer s H vs Q E hr h => ?_)
  · obtain ⟨a, b, nm, ws, rfl, _⟩ := h
    rfl
  obtain ⟨a, b, nm, ws, rfl, hA, hN, hB, l100, nok, good, bad⟩ := h
  have hv : (A.deeper (PyProof.Rows.envOfC "read_places" (defScope s_read_places) s.heap.objs.size d_read_places.f cdv)).units + 65 < cLine := by have := hr.un; omega
  refine ⟨_, (pss_cons (ps_set (i := 2) sc_read_places.nd rfl (Or.inl rfl) (pe_lstN pa_nil))
      (pss_cons (ps_for PassesOwn.leaving rfl (pi_listK (K := K) rfl (pv 1)) (pg_name (i := 3) sc_read_places.nd rfl (Or.inl rfl))
      (pss_cons (ps_if (PW.pt (pw_or (pt_cmpR (op_notInDK (K := K) rfl hv) (pv 3) (pv 0) (by with_unfolding_all rfl)) (pw_or1 (pt_cmpR (op_inDK (K := K) rfl hv) (pe_bmK (K := K) rfl PySem.F.plainAttrs_list PySem.F.slot_list_index PySem.F.type_list_index (mt_idxD (K := K) rfl hv) (pv 0) (pa_cons (pv 3) pa_nil)) (pv 2) (by with_unfolding_all rfl)))))
      (pss_one (ps_raise hr.hd rfl C.m_NoName C.k_NoName (pa_cons pe_str pa_nil)))
      pss_nil)
      (pss_one (ps_expr (pe_bmK (K := K) rfl PySem.F.plainAttrs_list PySem.F.slot_list_append PySem.F.type_list_append mt_appendN (pv 2) (pa_cons (pe_bmK (K := K) rfl PySem.F.plainAttrs_list PySem.F.slot_list_index PySem.F.type_list_index (mt_idxD (K := K) rfl hv) (pv 0) (pa_cons (pv 3) pa_nil)) pa_nil))))))
      (pss_one (ps_ret (pe_callB (call_sortedI (K := K) rfl) rfl B.sorted (by decide +kernel) (pa_cons (pv 2) pa_nil)))))), ?_⟩
  refine ⟨(by show 0 ≤ 1000; decide), fun r H0 n0 => ?_⟩
  refine ⟨_, rfl, b, rfl, ⟨_, n0.same.seq hB⟩, ?_⟩
  refine for_list (xs := ws.map V.str) (fun i σ G => ∃ o3 : Option V, σ = [some (.ref a), some (.ref b), some (.ref r), o3] ∧ Same H G ∧ G r = some (.lst (natV ((ws.take i).map (ixN' nm)))) ∧ (∀ w ∈ ws.take i, cL w ∈ nm) ∧ (ws.take i).Nodup) ⟨none, rfl, n0.same, n0.here, (fun w h => by cases h), .nil⟩ (fun i σ G _ ⟨_, _, s, _⟩ => s.seq hB) ?_ ?_
  · rintro i x σ G hx ⟨o3, rfl, s, hr1, inn, nd⟩
    rw [List.getElem?_map] at hx
    obtain ⟨wd, hw, rfl⟩ := Option.map_eq_some_iff.mp hx
    have wm := List.mem_of_getElem? hw
    have il : i < ws.length := (List.getElem?_eq_some_iff.mp hw).1
    have et : ws.take (i + 1) = ws.take i ++ [wd] := by rw [List.take_succ, hw]; rfl
    have ew : wd = sT (cL wd) := (sT_cL wd).symm
    have sml : ∀ c ∈ cL wd, c < 200 := fun c hc => by
      have := nok wd wm
      unfold nameOk at this
      rw [Bool.and_eq_true] at this
      have h2 := this.2
      rw [← Array.all_toList, List.all_eq_true] at h2
      have := of_decide_eq_true (h2 c hc)
      omega
    have hA' := s _ _ hA
    have d1 : SeqAt.shaped (.str wd) = true := by rw [ew]; exact shaped_str sml
    refine ⟨_, rfl, _, rfl, .str wd, nm.map fun l => PyData.str (sT l), .str _, .lst (SqL.of hA') (isDs_strs nm), d1, shaped_strs hN.short, _, rfl, ?_⟩
    rw [if_pos rfl]
    have ea : (nm.map fun l => PyData.str (sT l)).any (fun e => PyData.eqv e (.str wd)) = decide (cL wd ∈ nm) := by
      have := any_str nm (cL wd)
      rw [sT_cL] at this
      exact this
    rw [ea]
    by_cases m : cL wd ∈ nm
    · rw [decide_eq_true m]
      refine iteF ?_
      have vl : ixN' nm wd < nm.length := List.idxOf_lt_length_of_mem m
      have ev : nm[ixN' nm wd] = cL wd := List.getElem_idxOf vl
      have d2 : ∀ e ∈ nm.map fun l => PyData.str (sT l), SeqAt.shaped e = true := fun e he => by
        obtain ⟨l, hl, rfl⟩ := List.mem_map.mp he
        exact shaped_str (hN.short _ hl)
      have d3 : (nm.map fun l => V.str (sT l)).length ≤ 1000 := by rw [List.length_map]; have := hN.few; omega
      have d4 : ixN' nm wd < (nm.map fun l => V.str (sT l)).length := by rw [List.length_map]; exact vl
      have d5 : PyData.eqv ((nm.map fun l => PyData.str (sT l)).getD (ixN' nm wd) .none) (.str wd) = true := by
        rw [List.getD_eq_getElem?_getD, List.getElem?_map, List.getElem?_eq_getElem vl, ev]
        show PyData.eqv (.str (sT (cL wd))) (.str wd) = true
        rw [sT_cL, PyData.eqv]; simp
      have d6 : ∀ m' < ixN' nm wd, PyData.eqv ((nm.map fun l => PyData.str (sT l)).getD m' .none) (.str wd) = false := fun m' hm => by
        have ml : m' < nm.length := by omega
        rw [List.getD_eq_getElem?_getD, List.getElem?_map, List.getElem?_eq_getElem ml]
        show PyData.eqv (.str (sT nm[m'])) (.str wd) = false
        rw [PyData.eqv]
        have ne : sT nm[m'] ≠ wd := fun z => by
          rw [ew] at z
          have e2 : nm[m'] = nm[ixN' nm wd] := by rw [ev]; exact sT_inj z
          have := (List.getElem_inj hN.nd).mp e2
          omega
        simp [ne]
      refine ⟨_, rfl, .inl ⟨rfl, _, SqL.of hA'⟩, _, rfl, a, _, _, .str wd, nm.map fun l => PyData.str (sT l), ixN' nm wd, rfl, rfl, hA', .str _, isDs_strs nm, d1, d2, d3, d4, d5, d6, _, rfl, inNats (SqL.of hr1) ⟨_, rfl, ?_⟩⟩
      have mi : ixN' nm wd ∈ (ws.take i).map (ixN' nm) ↔ wd ∈ ws.take i := by
        constructor
        · intro h
          obtain ⟨y, hy, e⟩ := List.mem_map.mp h
          have yl : ixN' nm y < nm.length := List.idxOf_lt_length_of_mem (inn y hy)
          have e1 : nm[ixN' nm y] = cL y := List.getElem_idxOf yl
          have e2 : cL y = cL wd := by
            rw [← e1, ← ev]
            exact (List.getElem_inj hN.nd).mpr e
          rw [← cL_inj e2]
          exact hy
        · exact fun h => List.mem_map.mpr ⟨wd, h, rfl⟩
      by_cases m2 : wd ∈ ws.take i
      · rw [decide_eq_true (mi.mpr m2)]
        refine iteT ⟨Nat.le_of_lt (small1000 (by decide)), fun p hp => bad (decide_eq_false fun z => ?_) p G s hp⟩
        have h2 := z.2
        rw [← List.take_append_drop i ws] at h2
        rw [List.drop_eq_getElem_cons il, (List.getElem?_eq_some_iff.mp hw).2] at h2
        have := (List.nodup_append.mp h2).2.2 wd m2 wd List.mem_cons_self
        exact this rfl
      · rw [decide_eq_false (fun z => m2 (mi.mp z))]
        refine iteF ?_
        refine ⟨_, rfl, .inl ⟨rfl, _, SqL.of hr1⟩, _, rfl, .inl ⟨rfl, _, SqL.of hA'⟩, _, rfl, a, _, _, .str wd, nm.map fun l => PyData.str (sT l), ixN' nm wd, rfl, rfl, hA', .str _, isDs_strs nm, d1, d2, d3, d4, d5, d6, r, _, _, rfl, rfl, hr1, by rw [List.length_map, List.length_map, List.length_take]; omega, fun H7 c7 => ⟨_, rfl, s.chg n0.fresh c7, ?_, ?_, ?_⟩⟩
        · rw [c7.here, et, List.map_append]
          unfold natV
          rw [List.map_append]
          rfl
        · rw [et]
          intro y hy
          rcases List.mem_append.mp hy with hy | hy
          · exact inn y hy
          · rw [List.mem_singleton.mp hy]; exact m
        · rw [et]
          exact List.nodup_append.mpr ⟨nd, List.pairwise_singleton _ _, fun x hx y hy e => m2 (by rw [← List.mem_singleton.mp hy, ← e]; exact hx)⟩
    · rw [decide_eq_false m]
      exact iteT (iteT ⟨Nat.le_of_lt (small1000 (by decide)), fun p hp => bad (decide_eq_false fun z => m (z.1 wd wm)) p G s hp⟩)
  · rintro σ G ⟨o3, rfl, s, hr1, inn, nd⟩
    rw [List.length_map, List.take_length] at hr1 inn nd
    rw [natV_ints] at hr1
    have l10 := ix_few hN.few inn nd
    refine ⟨_, rfl, r, _, rfl, SqL.of hr1, by rw [List.length_map, List.length_map]; omega, fun p H' zs n pm le => good (decide_eq_true ⟨inn, nd⟩) p zs H' (s.trans n.same) n.here (by rw [List.map_map] at pm; exact pm) le⟩
end

end K


namespace K
open PySem L2 Lw Bg Tx
def linesZ (z : Str) : List Str := Txt.split z (Str.ofString "; ")
def BgE (nm : List (List Nat)) (H : Hp) (v : V) (z : Str) : Prop := ∃ (p b : Addr) (zs : List Int), v = .ref p ∧ H p = some (.tup [upV (upZ z), .ref b]) ∧ H b = some (.lst (zs.map V.int)) ∧ zs.Perm ((wsZ z).tail.map fun w => ((ixN' nm w : Nat) : Int)) ∧ zs.Pairwise (· ≤ ·)
theorem BgE.same {nm : List (List Nat)} {H H' : Hp} {v : V} {z : Str} (s : Same H H') (h : BgE nm H v z) : BgE nm H' v z := by
  obtain ⟨p, b, zs, e, h1, h2, h3⟩ := h
  exact ⟨p, b, zs, e, s _ _ h1, s _ _ h2, h3⟩
def RdX (H : Hp) (v : V) (z : Str) : Prop := ∃ p b, v = .ref p ∧ H p = some (.tup [upV (upZ z), .ref b]) ∧ H b = some (.lst ((wsZ z).tail.map V.str))
theorem RdX.same {H H' : Hp} {v : V} {z : Str} (s : Same H H') (h : RdX H v z) : RdX H' v z := by
  obtain ⟨p, b, e, h1, h2⟩ := h
  exact ⟨p, b, e, s _ _ h1, s _ _ h2⟩
theorem row_names {z : Str} (h : rowB z = true) : ∀ w ∈ (wsZ z).tail, nameOk w = true := by
  unfold rowB at h
  rw [Bool.not_eq_true', Bool.or_eq_false_iff, Bool.or_eq_false_iff, Bool.or_eq_false_iff, Bool.not_eq_false'] at h
  have h2 := h.2.2.2
  rw [Bool.not_eq_false', List.all_eq_true] at h2
  exact h2
def spRBX (K : PySem.W.Frag) (nt nn : Addr) : Sp := fun vs H Q E => ∃ (a : Addr) (nm : List (List Nat)) (z : Str), vs = [.ref a, .str z] ∧ NmL H a nm ∧ Nms nm ∧ z.length ≤ 5000 ∧ (linesZ z).length ≤ 30 ∧ (∀ l ∈ linesZ z, l.length ≤ 190) ∧
  (((linesZ z).all rowB = true ∧ ((linesZ z).all fun l => plB nm (wsZ l).tail) = true) → ∀ p xs H', Same H H' → H' p = some (.lst xs) → Paired (BgE nm H') xs (linesZ z) → Q (.ref p) H') ∧
  ((linesZ z).all rowB = false → ∀ p H', Same H H' → H' p = none → E (.ref p) (some nt) H') ∧ ((linesZ z).all rowB = true → ((linesZ z).all fun l => plB nm (wsZ l).tail) = false → ∀ p H', Same H H' → H' p = none → E (.ref p) (some nn) H')
section
variable {P : Program} {w : World} {K : PySem.W.Frag} {mg : Str → Option Value} {base : Heap}
set_option maxHeartbeats 4000000 in
theorem okX_read_bags (B : Bl mg) (Ct : Cts mg) (C : Cl K mg) (d_is_written : Dn K mg "is_written" s_is_written ["text", "signs", "most"]) (d_is_number : Dn K mg "is_number" s_is_number ["text"]) (d_is_name : Dn K mg "is_name" s_is_name ["text"]) (d_read_row : Dn K mg "read_row" s_read_row ["row"]) (d_read_places : Dn K mg "read_places" s_read_places ["names", "words"]) (d_read_bags : Dn K mg "read_bags" s_read_bags ["names", "text"]) : FnOk P w K mg base (CXE P w) 4 d_read_bags.f d_read_bags.fd ["names", "text"] (spRBX K C.NoText C.NoName) := by
  have GX_read_row : FnOk P w K mg base (CXE P w) 3 _ _ _ _ := okX_read_row B Ct C d_is_written d_is_number d_is_name d_read_row
  have GX_read_places : FnOk P w K mg base (CXE P w) 3 _ _ _ _ := (okX_read_places B C d_read_places).mono (by decide)
  refine d_read_bags.F.okE sc_read_bags (fun vs H Q E h => ?_) (fun cdv A outer s H vs Q E hr h => ?_)
  · obtain ⟨a, nm, z, rfl, _⟩ := h
    rfl
  obtain ⟨a, nm, z, rfl, hA, hN, l5, l30, l190, good, badT, badN⟩ := h
  refine ⟨_, (pss_cons (ps_setLCX (i := 2) ["row"] [none] sc_read_bags.nd rfl rfl (by kernel_rfl) rfl own_of leaves_of (pi_listK (K := K) rfl (pe_bmK (K := K) rfl PySem.F.plainAttrs_str PySem.F.slot_str_split PySem.F.type_str_split mt_splitS (pv 1) (pa_cons pe_str pa_nil))) (fun _ _ _ _ _ => (pg_name (i := 0) (show (["row"] : List Str).Nodup by decide +kernel) rfl (Or.inl rfl))) (fun _ _ _ _ _ => pts_nil) (fun _ _ _ _ _ pass => (pe_call GX_read_row hr rfl d_read_row.m d_read_row.F.kp d_read_row.b .nil pass (pa_cons (pv 0) pa_nil))) (by rfl))
      (pss_one (ps_ret (pe_lcX ["up", "words", "names"] [none, none, some 0]  (by kernel_rfl) rfl own_of leaves_of (pi_listK (K := K) rfl (pv 2)) (fun _ _ _ _ _ => (pg_tupK (K := K) (n := 2) rfl rfl (pgs_cons (pg_name (i := 0) (show (["up", "words", "names"] : List Str).Nodup by decide +kernel) rfl (Or.inl rfl)) (pgs_cons (pg_name (i := 1) (show (["up", "words", "names"] : List Str).Nodup by decide +kernel) rfl (Or.inl rfl)) pgs_nil)))) (fun _ _ _ _ _ => pts_nil) (fun _ _ _ _ _ pass => (pe_tupN (pa_cons (pv 0) (pa_cons (pe_call GX_read_places hr rfl d_read_places.m d_read_places.F.kp d_read_places.b .nil pass (pa_cons (pv 2) (pa_cons (pv 1) pa_nil))) pa_nil)))))))), ?_⟩
  refine ⟨_, rfl, rfl, _, _, rfl, rfl, by rw [semi_t]; rfl, l5, fun p1 H1 n1 => ?_⟩
  have h1 : H1 p1 = some (.lst ((linesZ z).map V.str)) := n1.here
  refine ⟨p1, rfl, ⟨_, SqL.of h1⟩, ?_⟩
  generalize linesZ z = L at l30 l190 good badT badN h1
  have l1 : (L.map V.str).length = L.length := List.length_map _
  refine lc_list (K := K) (a := p1) (xs := L.map V.str) (fun i ys G => Same H1 G ∧ Paired (RdX G) ys (L.take i) ∧ ∀ l ∈ L.take i, rowB l = true) ⟨Same.refl _, .nil, (fun l h => by cases h)⟩ (fun i ys G hi ⟨s, p, _⟩ => ⟨SqL.of (s _ _ h1), ?_⟩) (fun i x ys G hx ⟨s, p, al⟩ => ?_) (fun ys G ⟨s, p, al⟩ p3 hp3 => ?_)
  · rw [Paired.length p, List.length_take]
    exact Nat.le_of_lt (small1000 (by omega))
  · rw [List.getElem?_map] at hx
    obtain ⟨l, hl, rfl⟩ := Option.map_eq_some_iff.mp hx
    have lm := List.mem_of_getElem? hl
    have et : L.take (i + 1) = L.take i ++ [l] := by rw [List.take_succ, hl]; rfl
    refine ⟨_, rfl, l, rfl, l190 l lm, fun rb p4 b4 H4 s4 h4 h4b => ⟨s.trans s4, ?_, ?_⟩, fun rb p4 H4 s4 hp4 => badT ?_ p4 H4 (n1.same.trans (s.trans s4)) hp4⟩
    · rw [et]
      exact paired_snoc (Paired.mapP p fun _ _ h => h.same s4) ⟨p4, b4, rfl, h4, h4b⟩
    · rw [et]
      intro y hy
      rcases List.mem_append.mp hy with hy | hy
      · exact al y hy
      · rw [List.mem_singleton.mp hy]; exact rb
    · refine Bool.eq_false_iff.mpr fun z => ?_
      have := List.all_eq_true.mp z l lm
      rw [rb] at this
      cases this
  rw [l1, List.take_length] at p al
  have allR : L.all rowB = true := List.all_eq_true.mpr al
  have n3 := New.mk0 (o := .lst ys) hp3
  generalize upd G p3 (.lst ys) = H3 at n3 ⊢
  have p' := Paired.mapP p fun _ _ h => RdX.same n3.same h
  have ly := Paired.length p
  have s03 := n1.same.trans (s.trans n3.same)
  refine ⟨_, rfl, p3, rfl, ⟨_, SqL.of n3.here⟩, ?_⟩
  refine lc_list (K := K) (a := p3) (xs := ys) (fun i zs G => Same H3 G ∧ Paired (BgE nm G) zs (L.take i) ∧ ∀ l ∈ L.take i, plB nm (wsZ l).tail = true) ⟨Same.refl _, .nil, (fun l h => by cases h)⟩ (fun i zs G hi ⟨s, p, _⟩ => ⟨SqL.of (s _ _ n3.here), ?_⟩) (fun i x zs G hx ⟨s, p, al2⟩ => ?_) (fun zs G ⟨s, p, al2⟩ p5 hp5 => ?_)
  · rw [Paired.length p, List.length_take]
    exact Nat.le_of_lt (small1000 (by omega))
  · obtain ⟨l, hl, pt, b, rfl, hT, hb⟩ := paired_get p' hx
    have lm := List.mem_of_getElem? hl
    have et : L.take (i + 1) = L.take i ++ [l] := by rw [List.take_succ, hl]; rfl
    have wl := ws_len l
    have l190' := l190 l lm
    refine ⟨pt, _, rfl, SqT.of (s _ _ hT), rfl, _, _, rfl, _, _, rfl, rfl, ?_⟩
    refine ⟨_, rfl, _, rfl, _, rfl, a, b, nm, (wsZ l).tail, rfl, (s03.trans s) _ _ hA, hN, SqL.of (s _ _ hb), by rw [List.length_tail]; omega, row_names (al l lm), fun pb p6 zz H6 s6 h6 pm le => ⟨(by show 2 ≤ 1000; decide), fun p7 H7 n7 => ?_⟩, fun pb p6 H6 s6 hp6 => badN allR ?_ p6 H6 (s03.trans (s.trans s6)) hp6⟩
    · have s7 := s6.trans n7.same
      refine ⟨s.trans s7, ?_, ?_⟩
      · rw [et]
        exact paired_snoc (Paired.mapP p fun _ _ h => h.same s7) ⟨p7, p6, zz, rfl, n7.here, n7.same _ _ h6, pm, le⟩
      · rw [et]
        intro y hy
        rcases List.mem_append.mp hy with hy | hy
        · exact al2 y hy
        · rw [List.mem_singleton.mp hy]; exact pb
    · refine Bool.eq_false_iff.mpr fun z => ?_
      have := List.all_eq_true.mp z l lm
      rw [pb] at this
      cases this
  rw [ly, List.take_length] at p al2
  have n5 := New.mk0 (o := .lst zs) hp5
  exact good ⟨allR, List.all_eq_true.mpr al2⟩ p5 zs _ (s03.trans (s.trans n5.same)) n5.here (Paired.mapP p fun _ _ h => h.same n5.same)
end

abbrev s__law_cell : Stmt := top 18
theorem sc__law_cell : FnScope ["_law_script", "_law_k", "_law_number"] ["_law_script", "_law_k"] (defScope s__law_cell) := ⟨rfl, rfl, rfl, by decide +kernel, rfl, by decide +kernel, by decide +kernel⟩
abbrev s__law_mixed : Stmt := top 19
theorem sc__law_mixed : FnScope ["_law_cell_here", "_law_many"] ["_law_cell_here", "_law_many"] (defScope s__law_mixed) := ⟨rfl, rfl, rfl, by decide +kernel, rfl, by decide +kernel, by decide +kernel⟩
section
variable {P : Program} {w : World} {K : PySem.W.Frag} {mg : Str → Option Value} {base : Heap}
set_option maxHeartbeats 4000000 in
theorem ok_cell (B : Bl mg) (d : Dn K mg "_law_cell" s__law_cell ["_law_script", "_law_k"]) : FnOk P w K mg base CX0 1 d.f d.fd ["_law_script", "_law_k"] (spCell K) := by
  refine d.F.ok sc__law_cell (fun vs H Q E h => ?_) (fun cdv A outer s H vs Q E hr h => ?_)
  · obtain ⟨a, ns, k, rfl, _⟩ := h
    rfl
  obtain ⟨a, ns, k, rfl, hS, h63, h0, h1, q⟩ := h
  refine ⟨_, (pss_cons (ps_if (pt_cmpR op_lt (pv 1) (pe_callB (call_lenK (K := K) rfl) rfl B.len (by decide +kernel) (pa_cons (pv 0) pa_nil)) (nomark _))
      (pss_one (ps_ret (pe_ix (ix_listK (K := K) rfl) (pv 0) (pv 1) (fun _ _ => rfl))))
      pss_nil)
      (pss_cons (ps_set (i := 2) sc__law_cell.nd rfl (Or.inl rfl) (pe_op op_add (pe_op op_mul (pv 1) pe_int) pe_int))
      (pss_cut (ps_if (pt_cmpR op_gt (pe_callB (call_lenK (K := K) rfl) rfl B.len (by decide +kernel) (pa_cons (pv 0) pa_nil)) pe_int (nomark _))
      (pss_one (ps_set (i := 2) sc__law_cell.nd rfl (Or.inl rfl) (pe_op op_add (pe_op op_mul (pe_op op_mod (pe_ix (ix_listK (K := K) rfl) (pv 0) (pe_op op_mod (pe_op op_mul (pv 1) pe_int) (pe_callB (call_lenK (K := K) rfl) rfl B.len (by decide +kernel) (pa_cons (pv 0) pa_nil))) (fun _ _ => rfl)) pe_int) pe_int) (pe_op op_mul (pv 1) pe_int))))
      pss_nil)
      (pss_one (ps_ret (pe_op op_mod (pe_op op_mul (pv 2) (pv 2)) pe_int)))))), ?_⟩
  have hl : (ns.map V.int).length = ns.length := List.length_map _
  refine ⟨_, rfl, _, rfl, a, _, rfl, .inl hS, _, _, rfl, rfl, _, rfl, ?_⟩
  refine ite2 (fun c => ?_) (fun c => ?_)
  · have c' : k < (((ns.map V.int).length : Nat) : Int) := of_decide_eq_true c
    rw [hl] at c'
    refine ⟨_, rfl, _, rfl, a, _, _, _, rfl, rfl, hS, at_ints h0 c', ?_⟩
    have e : cellF ns k = ns.getD k.toNat 0 := by unfold cellF; rw [if_pos c']
    rw [e] at q
    exact q
  · have c' : ¬ k < (((ns.map V.int).length : Nat) : Int) := of_decide_eq_false (Bool.eq_false_iff.mpr c)
    rw [hl] at c'
    refine ⟨_, rfl, _, _, rfl, rfl, .inr ⟨by decide, by decide⟩, _, _, rfl, rfl, ?_⟩
    refine ⟨fun σ' H' => ∃ z : Int, σ' = [some (.ref a), some (.int k), some (.int z)] ∧ H' = H ∧ cellF ns k = z * z % 2147483629 ∧ -(2 ^ 64) < z ∧ z < 2 ^ 64, ?_, ?_⟩
    rotate_left
    · rintro σ' H' ⟨z, rfl, rfl, e, b1, b2⟩
      refine ⟨_, rfl, _, rfl, _, _, rfl, rfl, .inl ⟨b1, b2⟩, _, _, rfl, rfl, (show (0 : Int) < _ by decide), ?_⟩
      rw [e] at q
      exact q
    refine ⟨_, rfl, a, _, rfl, .inl hS, _, _, rfl, rfl, _, rfl, ?_⟩
    refine ite2 (fun z => ?_) (fun z => ?_)
    · have z' : (0 : Int) < (((ns.map V.int).length : Nat) : Int) := of_decide_eq_true z
      rw [hl] at z'
      have m0 := Int.emod_nonneg (k * 7) (show (ns.length : Int) ≠ 0 by omega)
      have m1 := Int.emod_lt_of_pos (k * 7) z'
      have b := cell_bound (ns.getD (k * 7 % (ns.length : Int)).toNat 0) k h0 h1
      refine ⟨_, rfl, _, rfl, _, _, rfl, rfl, .inr ⟨by decide, by decide⟩, _, rfl, a, _, rfl, .inl hS, _, _, rfl, rfl, (by rw [hl]; exact z'), a, _, _, _, rfl, rfl, hS, (by rw [hl]; exact at_ints m0 m1), _, _, rfl, rfl, (show (0 : Int) < _ by decide), _, _, rfl, rfl, .inr ⟨by decide, by decide⟩, _, rfl, _, _, rfl, rfl, .inr ⟨by decide, by decide⟩, _, _, rfl, rfl, ?_⟩
      refine ⟨_, rfl, rfl, ?_, b.1, b.2⟩
      unfold cellF; rw [if_neg c']; simp only [if_pos z']
    · have z' : ¬ (0 : Int) < (((ns.map V.int).length : Nat) : Int) := of_decide_eq_false (Bool.eq_false_iff.mpr z)
      rw [hl] at z'
      refine ⟨_, rfl, rfl, ?_, by omega, by omega⟩
      unfold cellF; rw [if_neg c']; simp only [if_neg z']
set_option maxHeartbeats 4000000 in
theorem ok_mixed (B : Bl mg) (d : Dn K mg "_law_mixed" s__law_mixed ["_law_cell_here", "_law_many"]) : FnOk P w K mg base CX0 1 d.f d.fd ["_law_cell_here", "_law_many"] spMix := by
  refine d.F.ok sc__law_mixed (fun vs H Q E h => ?_) (fun cdv A outer s H vs Q E hr h => ?_)
  · obtain ⟨c, m, rfl, _⟩ := h
    rfl
  obtain ⟨c, m, rfl, hm, q⟩ := h
  refine ⟨_, (pss_one (ps_ret (pe_op op_mod (pe_op op_fdiv (pe_op op_mod (pe_op op_mul (pe_op op_mod (pv 0) (pe_op op_pow pe_int pe_int)) pe_int) (pe_op op_pow pe_int pe_int)) (pe_op op_pow pe_int pe_int)) (pv 1)))), ?_⟩
  have p64 : (0 : Int) < 2 ^ 64 := by decide
  have a1 := Int.emod_nonneg c (show (2 ^ 64 : Int) ≠ 0 by decide)
  have a2 := Int.emod_lt_of_pos c p64
  refine ⟨_, rfl, _, _, rfl, rfl, ⟨by decide, by decide, by decide⟩, _, _, rfl, rfl, (show (0 : Int) < _ by decide), _, _, rfl, rfl, .inl ⟨?_, ?_⟩, _, _, rfl, rfl, ⟨by decide, by decide, by decide⟩, _, _, rfl, rfl, (show (0 : Int) < _ by decide), _, _, rfl, rfl, ⟨by decide, by decide, by decide⟩, _, _, rfl, rfl, ⟨by decide, by decide⟩, _, rfl, _, _, rfl, rfl, hm, ?_⟩
  · show -(2 ^ 64) < c % 2 ^ 64
    omega
  · exact a2
  · exact q
end

end K


namespace K
open PySem L2 Lw Bg Tx
def codeF (first k : Int) : Nat := 97 + ((first + 5 * k) % 26).toNat
/-- the name k is the one before with one sign more -/
def mvF (size first : Int) (k : Nat) : Bool := decide (k % 2 = 1) && (decide (size < 6) && decide (first % 4 = 1))
def baseF (size first : Int) (k : Nat) : Nat := if mvF size first k then k - 1 else k
def sizeF (size first : Int) (k : Nat) : Nat := if mvF size first k then size.toNat + 1 else size.toNat
def Let (l : List Nat) : Prop := ∀ c ∈ l, 97 ≤ c ∧ c ≤ 122
structure NmI (size spot first : Int) (k : Nat) (nm : List (List Nat)) : Prop where
  len : nm.length = k
  lets : ∀ l ∈ nm, Let l
  at_ : ∀ (j : Nat) (l : List Nat), nm[j]? = some l → l.length = sizeF size first j ∧ l[spot.toNat]? = some (codeF first (baseF size first j : Nat))
theorem NmI.nil {size spot first : Int} : NmI size spot first 0 [] := ⟨rfl, (fun _ h => by cases h), (fun j l h => by cases h)⟩
theorem NmI.snoc {size spot first : Int} {k : Nat} {nm : List (List Nat)} (h : NmI size spot first k nm) {l : List Nat} (hl : Let l) (h1 : l.length = sizeF size first k) (h2 : l[spot.toNat]? = some (codeF first (baseF size first k : Nat))) : NmI size spot first (k + 1) (nm ++ [l]) := by
  refine ⟨by rw [List.length_append, h.len]; rfl, fun x hx => ?_, fun j x hx => ?_⟩
  · rcases List.mem_append.mp hx with hx | hx
    · exact h.lets x hx
    · rw [List.mem_singleton.mp hx]; exact hl
  · by_cases c : j < k
    · rw [List.getElem?_append_left (by rw [h.len]; exact c)] at hx
      exact h.at_ j x hx
    · have := (List.getElem?_eq_some_iff.mp hx).1
      rw [List.length_append, h.len, List.length_singleton] at this
      have e : j = k := by omega
      subst e
      rw [List.getElem?_append_right (by rw [h.len]; exact Nat.le_refl _), h.len, Nat.sub_self] at hx
      have : l = x := Option.some.inj hx
      subst this
      exact ⟨h1, h2⟩
theorem code_ne {first : Int} {i j : Nat} (h : i < j) (h2 : j < 20) : codeF first (i : Nat) ≠ codeF first (j : Nat) := by
  unfold codeF
  omega
theorem NmI.nd {size spot first : Int} {k : Nat} {nm : List (List Nat)} (h : NmI size spot first k nm) (hs : 0 ≤ size) (hk : k ≤ 10) : nm.Nodup := by
  rw [List.nodup_iff_pairwise_ne, List.pairwise_iff_getElem]
  intro i j hi hj ij e
  have a := h.at_ i _ (List.getElem?_eq_getElem hi)
  have b := h.at_ j _ (List.getElem?_eq_getElem hj)
  rw [e] at a
  have e1 : sizeF size first i = sizeF size first j := a.1.symm.trans b.1
  have e2 : codeF first (baseF size first i : Nat) = codeF first (baseF size first j : Nat) := Option.some.inj (a.2.symm.trans b.2)
  rw [h.len] at hi hj
  unfold sizeF at e1
  unfold baseF at e2
  cases c1 : mvF size first i <;> cases c2 : mvF size first j <;> rw [c1, c2] at e1 e2 <;> simp only [if_true, if_false, Bool.false_eq_true] at e1 e2
  · exact code_ne ij (by omega) e2
  · omega
  · omega
  · have o1 : i % 2 = 1 := by
      unfold mvF at c1
      rw [Bool.and_eq_true, decide_eq_true_iff] at c1
      exact c1.1
    have o2 : j % 2 = 1 := by
      unfold mvF at c2
      rw [Bool.and_eq_true, decide_eq_true_iff] at c2
      exact c2.1
    exact code_ne (by omega) (by omega) e2
theorem nd_set {α : Type} {xs : List α} (h : xs.Nodup) {i : Nat} {w : α} (hw : w ∉ xs) : (xs.set i w).Nodup := by
  rw [List.nodup_iff_pairwise_ne, List.pairwise_iff_getElem] at h ⊢
  intro a b ha hb ab e
  rw [List.length_set] at ha hb
  rw [List.getElem_set, List.getElem_set] at e
  split at e <;> split at e
  · omega
  · exact hw (by rw [e]; exact List.getElem_mem _)
  · exact hw (by rw [← e]; exact List.getElem_mem _)
  · exact h a b ha hb ab e
theorem NmI.nms {size spot first : Int} {k : Nat} {nm : List (List Nat)} (h : NmI size spot first k nm) (hs : 1 ≤ size) (hs6 : size ≤ 6) (hk : k ≤ 10) : Nms nm := by
  refine ⟨by rw [h.len]; exact hk, h.nd (by omega) hk, fun l hl => ⟨?_, h.lets l hl⟩⟩
  obtain ⟨j, hj, rfl⟩ := List.getElem_of_mem hl
  rw [(h.at_ j _ (List.getElem?_eq_getElem hj)).1]
  unfold sizeF mvF
  by_cases c : size < 6
  · split <;> omega
  · rw [decide_eq_false c, Bool.false_and, Bool.and_false]
    simp only [if_false, Bool.false_eq_true]
    omega
theorem Nms.put {nm : List (List Nat)} (h : Nms nm) {i : Nat} {l : List Nat} (hl : l ∉ nm) (h1 : 1 ≤ l.length) (h2 : l.length ≤ 6) (h3 : Let l) : Nms (nm.set i l) := by
  refine ⟨by rw [List.length_set]; exact h.few, nd_set h.nd hl, fun x hx => ?_⟩
  rcases List.mem_or_eq_of_mem_set hx with hx | rfl
  · exact h.ok x hx
  · exact ⟨⟨h1, h2⟩, h3⟩
/-- the signs of the name k up to j -/
structure LtI (spot first k : Int) (j : Nat) (l : List Nat) : Prop where
  len : l.length = j
  lets : Let l
  at_ : spot.toNat < j → l[spot.toNat]? = some (codeF first k)
theorem LtI.snoc {spot first k : Int} {j : Nat} {l : List Nat} (h : LtI spot first k j l) {c : Nat} (hc : 97 ≤ c ∧ c ≤ 122) (e : j = spot.toNat → c = codeF first k) : LtI spot first k (j + 1) (l ++ [c]) := by
  refine ⟨by rw [List.length_append, h.len]; rfl, fun x hx => ?_, fun hs => ?_⟩
  · rcases List.mem_append.mp hx with hx | hx
    · exact h.lets x hx
    · rw [List.mem_singleton.mp hx]; exact hc
  · by_cases c2 : spot.toNat < j
    · rw [List.getElem?_append_left (by rw [h.len]; exact c2)]
      exact h.at_ c2
    · have e2 : j = spot.toNat := by omega
      rw [List.getElem?_append_right (by rw [h.len]; omega), h.len, ← e2, Nat.sub_self, e e2]
      rfl

abbrev s__law_names : Stmt := top 20
theorem sc__law_names : FnScope ["_law_script", "_law_at", "_law_n", "_law_size", "_law_spot", "_law_first", "_law_alike", "_law_names_here", "_law_k", "_law_name", "_law_j", "_law_sign", "_law_word"] ["_law_script", "_law_at", "_law_n"] (defScope s__law_names) := ⟨rfl, rfl, rfl, by decide +kernel, rfl, by decide +kernel, by decide +kernel⟩
def spNames81 (K : PySem.W.Frag) : Sp := fun vs H Q _ => ∃ (a : Addr) (ns : List Int) (at0 : Int) (n : Nat), vs = [.ref a, .int at0, .int n] ∧ SqL K H a (ns.map V.int) ∧ ns.length ≤ 63 ∧ 0 ≤ at0 ∧ at0 ≤ 100 ∧ n ≤ 10 ∧ ∀ p nm H', Same H H' → NmL H' p nm → Nms nm → nm.length = n → Q (.ref p) H'
theorem sT_app (l m : List Nat) : sT l ++ sT m = sT (l ++ m) := cL_inj (by rw [cL_app, cL_sT, cL_sT, cL_sT])
theorem let_at {i : Int} (h0 : 0 ≤ i) (h1 : i < 26) : atI (Str.ofString "abcdefghijklmnopqrstuvwxyz").cps.toList i = some (97 + i.toNat) := by
  rw [show (Str.ofString "abcdefghijklmnopqrstuvwxyz").cps.toList = (List.range 26).map (97 + ·) from let_l]
  obtain ⟨k, rfl⟩ : ∃ k : Nat, i = (k : Int) := ⟨i.toNat, by omega⟩
  refine atI_nat ?_
  rw [List.getElem?_map, List.getElem?_range (by omega)]
  rfl
theorem let_len : (Str.ofString "abcdefghijklmnopqrstuvwxyz").length ≤ sizeLine := by
  rw [show (Str.ofString "abcdefghijklmnopqrstuvwxyz").length = 26 by decide +kernel, sizeLine_eq]
  decide
def wordsL : List (List Nat) := [[107, 101, 101, 112], [116, 105, 101], [100, 114, 111, 112], [108, 105, 110, 107], [119, 111, 111, 100], [114, 111, 117, 110, 100]]
theorem words_ok : ∀ l ∈ wordsL, (1 ≤ l.length ∧ l.length ≤ 6) ∧ ∀ c ∈ l, 97 ≤ c ∧ c ≤ 122 := by decide
theorem words_t : [Str.ofString "keep", Str.ofString "tie", Str.ofString "drop", Str.ofString "link", Str.ofString "wood", Str.ofString "round"] = wordsL.map sT := by decide +kernel
theorem words_v : [V.str (Str.ofString "keep"), V.str (Str.ofString "tie"), V.str (Str.ofString "drop"), V.str (Str.ofString "link"), V.str (Str.ofString "wood"), V.str (Str.ofString "round")] = wordsL.map fun l => V.str (sT l) := by
  have := congrArg (List.map V.str) words_t
  rw [List.map_map] at this
  exact this
section
variable {P : Program} {w : World} {K : PySem.W.Frag} {mg : Str → Option Value} {base : Heap}
set_option maxHeartbeats 4000000 in
theorem ok__law_names (B : Bl mg) (d__law_cell : Dn K mg "_law_cell" s__law_cell ["_law_script", "_law_k"]) (d__law_mixed : Dn K mg "_law_mixed" s__law_mixed ["_law_cell_here", "_law_many"]) (d__law_names : Dn K mg "_law_names" s__law_names ["_law_script", "_law_at", "_law_n"]) : FnOk P w K mg base CX0 2 d__law_names.f d__law_names.fd ["_law_script", "_law_at", "_law_n"] (spNames81 K) := by
  have G__law_cell : FnOk P w K mg base CX0 1 _ _ _ _ := ok_cell B d__law_cell
  have G__law_mixed : FnOk P w K mg base CX0 1 _ _ _ _ := ok_mixed B d__law_mixed
  refine d__law_names.F.ok sc__law_names (fun vs H Q E h => ?_) (fun cdv A outer s H vs Q E hr h => ?_)
  · obtain ⟨a, ns, at0, n, rfl, _⟩ := h
    rfl
  obtain ⟨a, ns, at0, n, rfl, hS, h63, h0, h1, n10, q⟩ := h
  have hv : (A.deeper (PyProof.Rows.envOfC "_law_names" (defScope s__law_names) s.heap.objs.size d__law_names.f cdv)).units + 65 < cLine := by have := hr.un; omega
  refine ⟨_, (pss_cons (ps_set (i := 3) sc__law_names.nd rfl (Or.inl rfl) (pe_op op_add pe_int (pe_op op_mod (pe_call G__law_cell hr rfl d__law_cell.m d__law_cell.F.kp d__law_cell.b .nil pass0 (pa_cons (pv 0) (pa_cons (pv 1) pa_nil))) pe_int)))
      (pss_cons (ps_set (i := 4) sc__law_names.nd rfl (Or.inl rfl) (pe_op op_mod (pe_call G__law_cell hr rfl d__law_cell.m d__law_cell.F.kp d__law_cell.b .nil pass0 (pa_cons (pv 0) (pa_cons (pe_op op_add (pv 1) pe_int) pa_nil))) (pv 3)))
      (pss_cons (ps_set (i := 5) sc__law_names.nd rfl (Or.inl rfl) (pe_op op_mod (pe_call G__law_cell hr rfl d__law_cell.m d__law_cell.F.kp d__law_cell.b .nil pass0 (pa_cons (pv 0) (pa_cons (pe_op op_add (pv 1) pe_int) pa_nil))) pe_int))
      (pss_cons (ps_set (i := 6) sc__law_names.nd rfl (Or.inl rfl) (pe_op op_mod (pe_op op_fdiv (pe_call G__law_cell hr rfl d__law_cell.m d__law_cell.F.kp d__law_cell.b .nil pass0 (pa_cons (pv 0) (pa_cons (pe_op op_add (pv 1) pe_int) pa_nil))) pe_int) pe_int))
      (pss_cons (ps_set (i := 7) sc__law_names.nd rfl (Or.inl rfl) (pe_lstN pa_nil))
      (pss_cons (ps_for PassesOwn.never rfl (pi_range1 rfl B.range (pa_cons (pv 2) pa_nil)) (pg_name (i := 8) sc__law_names.nd rfl (Or.inl rfl))
      (pss_cons (ps_set (i := 9) sc__law_names.nd rfl (Or.inl rfl) pe_str)
      (pss_cons (ps_for PassesOwn.never rfl (pi_range1 rfl B.range (pa_cons (pv 3) pa_nil)) (pg_name (i := 10) sc__law_names.nd rfl (Or.inl rfl))
      (pss_cons (ps_set (i := 11) sc__law_names.nd rfl (Or.inl rfl) (pe_call G__law_mixed hr rfl d__law_mixed.m d__law_mixed.F.kp d__law_mixed.b .nil pass0 (pa_cons (pe_op op_add (pe_op op_add (pv 5) (pe_op op_mul pe_int (pv 10))) (pe_op op_mul (pe_op op_mul pe_int (pv 8)) (pe_op op_sub pe_int (pv 6)))) (pa_cons pe_int pa_nil))))
      (pss_cut (ps_if (pt_cmpR op_eq (pv 10) (pv 4) (nomark _))
      (pss_one (ps_set (i := 11) sc__law_names.nd rfl (Or.inl rfl) (pe_op op_mod (pe_op op_add (pv 5) (pe_op op_mul pe_int (pv 8))) pe_int)))
      pss_nil)
      (pss_one (ps_set (i := 9) sc__law_names.nd rfl (Or.inl rfl) (pe_op op_add_str (pv 9) (pe_ix ix_str pe_str (pv 11) (fun _ _ => rfl))))))))
      (pss_cut (ps_if (PW.pt (pw_and (pt_cmpR op_eq (pe_op op_mod (pv 8) pe_int) pe_int (nomark _)) (pw_and (pt_cmpR op_lt (pv 3) pe_int (nomark _)) (pw_and1 (pt_cmpR op_eq (pe_op op_mod (pv 5) pe_int) pe_int (nomark _))))))
      (pss_one (ps_set (i := 9) sc__law_names.nd rfl (Or.inl rfl) (pe_op op_add_str (pe_ix (ix_listK (K := K) rfl) (pv 7) (pe_op op_sub (pv 8) pe_int) (fun _ _ => rfl)) (pe_ix ix_str pe_str (pe_op op_mod (pe_op op_add (pv 5) (pv 8)) pe_int) (fun _ _ => rfl)))))
      pss_nil)
      (pss_one (ps_expr (pe_bmK (K := K) rfl PySem.F.plainAttrs_list PySem.F.slot_list_append PySem.F.type_list_append mt_appendN (pv 7) (pa_cons (pv 9) pa_nil))))))))
      (pss_cons (ps_set (i := 12) sc__law_names.nd rfl (Or.inl rfl) (pe_ix (ix_listK (K := K) rfl) (pe_lstN (pa_cons pe_str (pa_cons pe_str (pa_cons pe_str (pa_cons pe_str (pa_cons pe_str (pa_cons pe_str pa_nil))))))) (pe_op op_mod (pe_op op_fdiv (pv 5) pe_int) pe_int) (fun _ _ => rfl)))
      (pss_cut (ps_if (PW.pt (pw_and (pt_cmpR op_eq (pe_op op_mod (pv 5) pe_int) pe_int (nomark _)) (pw_and (pt_cmpR op_gt (pv 2) pe_int (nomark _)) (pw_and1 (pt_cmpR (op_notInDK (K := K) rfl hv) (pv 12) (pv 7) (by with_unfolding_all rfl))))))
      (pss_one (ps_asg (pv 12) (pg_sub (pv 7) (pe_op op_mod (pe_op op_fdiv (pv 5) pe_int) (pv 2)) set_listN)))
      pss_nil)
      (pss_one (ps_ret (pv 7))))))))))), ?_⟩
  refine ⟨_, rfl, _, rfl, a, ns, at0, rfl, hS, h63, h0, by omega, _, _, rfl, rfl, (show (0 : Int) < 6 by decide), _, _, rfl, rfl, ?_⟩
  obtain ⟨sz, esz, sz1, sz6⟩ : ∃ m : Nat, 1 + cellF ns at0 % 6 = (m : Int) ∧ 1 ≤ m ∧ m ≤ 6 := ⟨(1 + cellF ns at0 % 6).toNat, by omega, by omega, by omega⟩
  dsimp only
  rw [esz]
  refine ⟨_, rfl, _, rfl, _, _, rfl, rfl, a, ns, _, rfl, hS, h63, by omega, by omega, _, rfl, _, _, rfl, rfl, (by omega), ?_⟩
  have sp0 := Int.emod_nonneg (cellF ns (at0 + 1)) (show ((sz : Nat) : Int) ≠ 0 by omega)
  have sp1 := Int.emod_lt_of_pos (cellF ns (at0 + 1)) (show (0 : Int) < ((sz : Nat) : Int) by omega)
  dsimp only
  obtain ⟨sp, esp⟩ : ∃ m : Nat, cellF ns (at0 + 1) % ((sz : Nat) : Int) = (m : Int) := ⟨(cellF ns (at0 + 1) % ((sz : Nat) : Int)).toNat, by omega⟩
  rw [esp] at sp0 sp1 ⊢
  refine ⟨_, rfl, _, rfl, _, _, rfl, rfl, a, ns, _, rfl, hS, h63, by omega, by omega, _, _, rfl, rfl, (show (0 : Int) < 1000003 by decide), ?_⟩
  have f0 := Int.emod_nonneg (cellF ns (at0 + 2)) (show (1000003 : Int) ≠ 0 by decide)
  have f1 := Int.emod_lt_of_pos (cellF ns (at0 + 2)) (show (0 : Int) < 1000003 by decide)
  dsimp only
  generalize cellF ns (at0 + 2) % 1000003 = f at f0 f1 ⊢
  refine ⟨_, rfl, _, rfl, _, _, rfl, rfl, a, ns, _, rfl, hS, h63, by omega, by omega, _, _, rfl, rfl, ⟨by decide, by decide⟩, _, _, rfl, rfl, (show (0 : Int) < 2 by decide), ?_⟩
  have a0 := Int.emod_nonneg (cellF ns (at0 + 1) / 6) (show (2 : Int) ≠ 0 by decide)
  have a1 := Int.emod_lt_of_pos (cellF ns (at0 + 1) / 6) (show (0 : Int) < 2 by decide)
  dsimp only
  generalize cellF ns (at0 + 1) / 6 % 2 = al at a0 a1 ⊢
  refine ⟨(by show 0 ≤ 1000; decide), fun p H1 n1 => ?_⟩
  refine ⟨_, rfl, _, rfl, by omega, by omega, ?_⟩
  rw [Int.toNat_natCast]
  refine for_range (n := n) (fun i σ G => ∃ (nm : List (List Nat)) (o8 o9 o10 o11 : Option V), σ = [some (.ref a), some (.int at0), some (.int n), some (.int (sz : Nat)), some (.int (sp : Nat)), some (.int f), some (.int al), some (.ref p), o8, o9, o10, o11, none] ∧ Same H G ∧ NmL G p nm ∧ NmI (sz : Nat) (sp : Nat) f i nm) ⟨[], none, none, none, none, rfl, n1.same, n1.here, .nil⟩ ?_ ?_
  · rintro i σ G hi ⟨nm, o8, o9, o10, o11, rfl, sG, hG, hI⟩
    have ei : (0 + (i : Int)) = ((i : Nat) : Int) := by omega
    rw [ei]
    refine ⟨_, rfl, _, rfl, by omega, by omega, ?_⟩
    rw [Int.toNat_natCast]
    refine for_range (n := sz) (fun j σ G' => ∃ (l : List Nat) (o10 o11 : Option V), σ = [some (.ref a), some (.int at0), some (.int n), some (.int (sz : Nat)), some (.int (sp : Nat)), some (.int f), some (.int al), some (.ref p), some (.int (i : Nat)), some (.str (sT l)), o10, o11, none] ∧ G' = G ∧ LtI (sp : Nat) f (i : Nat) j l) ⟨[], _, _, by rw [← empty_t]; rfl, rfl, rfl, (fun c h => by cases h), (fun h => absurd h (Nat.not_lt_zero _))⟩ ?_ ?_
    · rintro j σ G' hj ⟨l, o10, o11, rfl, rfl, hL⟩
      have ej : (0 + (j : Int)) = ((j : Nat) : Int) := by omega
      rw [ej]
      refine ⟨_, rfl, _, rfl, _, _, rfl, rfl, .inl ⟨by decide, by decide⟩, _, _, rfl, rfl, _, rfl, _, _, rfl, rfl, .inl ⟨by decide, by decide⟩, _, rfl, _, _, rfl, rfl, _, _, rfl, rfl, .inl ⟨by omega, by omega⟩, _, _, rfl, rfl, _, _, rfl, (by decide), ?_⟩
      refine ⟨fun σ' H' => ∃ sg : Int, σ' = [some (.ref a), some (.int at0), some (.int n), some (.int (sz : Nat)), some (.int (sp : Nat)), some (.int f), some (.int al), some (.ref p), some (.int (i : Nat)), some (.str (sT l)), some (.int (j : Nat)), some (.int sg), none] ∧ H' = G' ∧ 0 ≤ sg ∧ sg < 26 ∧ (j = sp → 97 + sg.toNat = codeF f (i : Nat)), ?_, ?_⟩
      · refine ⟨_, rfl, _, rfl, rfl, _, rfl, ite2 (fun c => ?_) (fun c => ?_)⟩
        · refine ⟨_, rfl, _, rfl, _, _, rfl, rfl, .inl ⟨by decide, by decide⟩, _, _, rfl, rfl, _, _, rfl, rfl, (show (0 : Int) < 26 by decide), ?_⟩
          exact ⟨_, rfl, rfl, Int.emod_nonneg _ (by decide), Int.emod_lt_of_pos _ (by decide), fun _ => rfl⟩
        · refine ⟨_, rfl, rfl, mixF_lo (by decide), mixF_hi (by decide), fun e => ?_⟩
          exact absurd (by rw [e]; exact decide_eq_true rfl) c
      · rintro σ' H' ⟨sg, rfl, rfl, sg0, sg1, hc⟩
        refine ⟨_, rfl, _, rfl, _, _, _, rfl, rfl, let_len, let_at sg0 sg1, _, _, rfl, rfl, ?_, ?_⟩
        · rw [sT_len, hL.len, sizeLine_eq]
          show j + 1 ≤ _
          omega
        · have e1 : sT l ++ (⟨#[97 + sg.toNat]⟩ : Str) = sT (l ++ [97 + sg.toNat]) := sT_app l [97 + sg.toNat]
          rw [e1]
          exact ⟨_, _, _, rfl, rfl, hL.snoc ⟨by omega, by omega⟩ (fun e => hc (by rw [Int.toNat_natCast] at e; exact e))⟩
    · rintro σ G' ⟨l, o10', o11', rfl, rfl, hL⟩
      refine ⟨fun σ' H' => ∃ l' : List Nat, σ' = [some (.ref a), some (.int at0), some (.int n), some (.int (sz : Nat)), some (.int (sp : Nat)), some (.int f), some (.int al), some (.ref p), some (.int (i : Nat)), some (.str (sT l')), o10', o11', none] ∧ H' = G' ∧ NmI (sz : Nat) (sp : Nat) f (i + 1) (nm ++ [l']), ?_, ?_⟩
      · have fin : mvF (sz : Nat) f i = false → NmI (sz : Nat) (sp : Nat) f (i + 1) (nm ++ [l]) := fun c => hI.snoc hL.lets (by unfold sizeF; rw [c, hL.len]; rfl) (by unfold baseF; rw [c]; exact hL.at_ (by omega))
        refine ⟨_, rfl, _, _, rfl, rfl, (show (0 : Int) < 2 by decide), rfl, _, rfl, ite2 (fun c1 => ?_) (fun c1 => iteF ⟨l, rfl, rfl, fin ?_⟩)⟩
        · have d1 : i % 2 = 1 := by
            have := V.int.inj (of_decide_eq_true c1)
            omega
          refine ⟨_, rfl, _, _, rfl, rfl, _, rfl, ite2 (fun c2 => ?_) (fun c2 => iteF ⟨l, rfl, rfl, fin ?_⟩)⟩
          · have d2 := of_decide_eq_true c2
            refine ⟨_, rfl, _, _, rfl, rfl, (show (0 : Int) < 4 by decide), rfl, _, rfl, ite2 (fun c3 => ?_) (fun c3 => ⟨l, rfl, rfl, fin ?_⟩)⟩
            · have d3 := V.int.inj (of_decide_eq_true c3)
              have li := hI.len
              obtain ⟨x, hx⟩ : ∃ x, nm[i - 1]? = some x := ⟨nm[i - 1]'(by omega), List.getElem?_eq_getElem (by omega)⟩
              have mv0 : mvF (sz : Nat) f (i - 1) = false := by
                unfold mvF
                rw [decide_eq_false (by omega), Bool.false_and]
              have mv1 : mvF (sz : Nat) f i = true := by
                unfold mvF
                rw [decide_eq_true d1, decide_eq_true d2, decide_eq_true d3]
                rfl
              have hx1 := hI.at_ _ _ hx
              unfold sizeF baseF at hx1
              rw [mv0] at hx1
              simp only [if_false, Bool.false_eq_true] at hx1
              have cc0 := Int.emod_nonneg (f + ((i : Nat) : Int)) (show (26 : Int) ≠ 0 by decide)
              have cc1 := Int.emod_lt_of_pos (f + ((i : Nat) : Int)) (show (0 : Int) < 26 by decide)
              refine ⟨_, rfl, _, rfl, _, _, rfl, rfl, p, _, _, _, rfl, rfl, SqL.of hG, (by
                rw [show ((i : Nat) : Int) - 1 = ((i - 1 : Nat) : Int) by omega]
                exact atI_nat (by rw [List.getElem?_map, hx]; rfl)), _, rfl, _, rfl, _, _, rfl, rfl, _, _, rfl, rfl, (show (0 : Int) < 26 by decide), _, _, _, rfl, rfl, let_len, let_at cc0 cc1, _, _, rfl, rfl, ?_, ?_⟩
              · rw [sT_len, hx1.1, sizeLine_eq]
                show _ + 1 ≤ _
                omega
              · have e1 : sT x ++ (⟨#[97 + ((f + ((i : Nat) : Int)) % 26).toNat]⟩ : Str) = sT (x ++ [97 + ((f + ((i : Nat) : Int)) % 26).toNat]) := sT_app x [97 + ((f + ((i : Nat) : Int)) % 26).toNat]
                rw [e1]
                refine ⟨_, rfl, rfl, hI.snoc (fun c hc => ?_) ?_ ?_⟩
                · rcases List.mem_append.mp hc with hc | hc
                  · exact hI.lets x (List.mem_of_getElem? hx) c hc
                  · rw [List.mem_singleton.mp hc]
                    omega
                · unfold sizeF
                  rw [mv1, List.length_append, hx1.1]
                  rfl
                · unfold baseF
                  rw [mv1, List.getElem?_append_left (by rw [hx1.1]; omega)]
                  exact hx1.2
            · unfold mvF
              rw [decide_eq_false (fun z => c3 (decide_eq_true (congrArg V.int z))), Bool.and_false, Bool.and_false]
          · unfold mvF
            rw [decide_eq_false (fun z => c2 (decide_eq_true z)), Bool.false_and, Bool.and_false]
        · unfold mvF
          rw [decide_eq_false (fun z => c1 (decide_eq_true (by
            have : ((i : Nat) : Int) % 2 = 1 := by omega
            exact congrArg V.int this))), Bool.false_and]
      · rintro σ' H' ⟨l', rfl, rfl, hI'⟩
        have li := hI.len
        refine ⟨_, rfl, .inl ⟨rfl, _, SqL.of hG⟩, _, rfl, p, _, _, rfl, rfl, hG, by rw [List.length_map]; omega, fun H2 c2 => ?_⟩
        refine ⟨nm ++ [l'], _, _, _, _, rfl, sG.chg n1.fresh c2, ?_, hI'⟩
        unfold NmL
        rw [c2.here, List.map_append]
        rfl
  · rintro σ G ⟨nm, o8, o9, o10, o11, rfl, sG, hG, hI⟩
    have hN := hI.nms (by omega) (by omega) n10
    refine ⟨(by show 6 ≤ 1000; decide), fun p6 H6 n6 => ?_⟩
    rw [words_v] at n6
    have w0 := Int.emod_nonneg (f / 5) (show (6 : Int) ≠ 0 by decide)
    have w1 := Int.emod_lt_of_pos (f / 5) (show (0 : Int) < 6 by decide)
    obtain ⟨m, em⟩ : ∃ m : Nat, f / 5 % 6 = (m : Int) := ⟨(f / 5 % 6).toNat, by omega⟩
    obtain ⟨wl, hw⟩ : ∃ wl, wordsL[m]? = some wl := ⟨wordsL[m]'(by show m < 6; omega), List.getElem?_eq_getElem (by show m < 6; omega)⟩
    have hW := words_ok wl (List.mem_of_getElem? hw)
    refine ⟨_, rfl, _, _, rfl, rfl, ⟨by decide, by decide⟩, _, _, rfl, rfl, (show (0 : Int) < 6 by decide), p6, _, _, V.str (sT wl), rfl, rfl, SqL.of n6.here, (by
      show atI (wordsL.map fun l => V.str (sT l)) (f / 5 % 6) = _
      rw [em]
      exact atI_nat (by rw [List.getElem?_map, hw]; rfl)), ?_⟩
    have sG6 := sG.trans n6.same
    have hG6 : NmL H6 p nm := n6.same _ _ hG
    refine ⟨fun σ' H' => ∃ nm' : List (List Nat), σ' = [some (.ref a), some (.int at0), some (.int n), some (.int (sz : Nat)), some (.int (sp : Nat)), some (.int f), some (.int al), some (.ref p), o8, o9, o10, o11, some (.str (sT wl))] ∧ Same H H' ∧ NmL H' p nm' ∧ Nms nm' ∧ nm'.length = n, ?_, ?_⟩
    · have stay : ∃ nm' : List (List Nat), [some (V.ref a), some (.int at0), some (.int n), some (.int (sz : Nat)), some (.int (sp : Nat)), some (.int f), some (.int al), some (.ref p), o8, o9, o10, o11, some (.str (sT wl))] = [some (V.ref a), some (.int at0), some (.int n), some (.int (sz : Nat)), some (.int (sp : Nat)), some (.int f), some (.int al), some (.ref p), o8, o9, o10, o11, some (.str (sT wl))] ∧ Same H H6 ∧ NmL H6 p nm' ∧ Nms nm' ∧ nm'.length = n := ⟨nm, rfl, sG6, hG6, hN, hI.len⟩
      refine ⟨_, rfl, _, _, rfl, rfl, (show (0 : Int) < 5 by decide), rfl, _, rfl, ite2 (fun c1 => ?_) (fun c1 => iteF stay)⟩
      refine ⟨_, rfl, _, _, rfl, rfl, _, rfl, ite2 (fun c2 => ?_) (fun c2 => iteF stay)⟩
      have n0 := of_decide_eq_true c2
      refine ⟨_, rfl, _, rfl, .str (sT wl), nm.map fun l => PyData.str (sT l), .str _, .lst (SqL.of hG6) (isDs_strs nm), shaped_str (fun c hc => by have := hW.2 c hc; omega), shaped_strs hN.short, _, rfl, ?_⟩
      rw [if_pos rfl, any_str]
      refine ite2 (fun c3 => ?_) (fun c3 => stay)
      have nw : wl ∉ nm := fun z => by
        rw [decide_eq_true z] at c3
        cases c3
      have j0 := Int.emod_nonneg (f / 30) (show ((n : Nat) : Int) ≠ 0 by omega)
      have j1 := Int.emod_lt_of_pos (f / 30) (show (0 : Int) < ((n : Nat) : Int) by omega)
      obtain ⟨j, ej⟩ : ∃ j : Nat, f / 30 % ((n : Nat) : Int) = (j : Int) := ⟨(f / 30 % ((n : Nat) : Int)).toNat, by omega⟩
      refine ⟨_, rfl, _, rfl, _, rfl, _, _, rfl, rfl, ⟨by decide, by decide⟩, _, rfl, _, _, rfl, rfl, n0, p, _, _, j, rfl, rfl, hG6, (by
        show ixN (nm.map fun l => V.str (sT l)).length (f / 30 % ((n : Nat) : Int)) = _
        rw [ej]
        exact ixN_nat (by rw [List.length_map, hI.len]; omega)), fun H7 c7 => ?_⟩
      refine ⟨nm.set j wl, rfl, sG6.chg n1.fresh c7, ?_, hN.put nw hW.1.1 hW.1.2 hW.2, by rw [List.length_set]; exact hI.len⟩
      unfold NmL
      rw [c7.here, List.map_set]
    · rintro σ' H' ⟨nm', rfl, s7, h7, hN7, l7⟩
      exact ⟨_, rfl, q p nm' H' s7 h7 hN7 l7⟩
end

end K


namespace K
open PySem L2 Lw Bg Tx
/-- a statement, kept as it stands -/
structure PSw (X : Cx) (s : Stmt) (t : TS) : Prop where
  h : PS X s t
/-- a suite, kept as it stands -/
structure PSsw (X : Cx) (ss : List Stmt) (t : TS) : Prop where
  h : PSs X ss t
theorem pssw_nil {X : Cx} : PSsw X [] tNext := ⟨pss_nil⟩
theorem pssw_cons {X : Cx} {s : Stmt} {ss : List Stmt} {t : TS} {ts : TS} (h : PSw X s t) (hs : PSsw X ss ts) : PSsw X (s :: ss) (tSeq t ts) := ⟨pss_cons h.h hs.h⟩
theorem pssw_cut {X : Cx} {s : Stmt} {ss : List Stmt} {t : TS} {ts : TS} (h : PSw X s t) (hs : PSsw X ss ts) : PSsw X (s :: ss) (tCut t ts) := ⟨pss_cut h.h hs.h⟩

def RowE (H : Hp) (v : V) (r : Row) : Prop := ∃ p b, v = .ref p ∧ H p = some (.tup [upV r.1, .ref b]) ∧ H b = some (.lst (r.2.map V.int)) ∧ r.2.length ≤ 1000
theorem RowE.same {H H' : Hp} {v : V} {r : Row} (s : Same H H') (h : RowE H v r) : RowE H' v r := by
  obtain ⟨p, b, e, h1, h2, z⟩ := h
  exact ⟨p, b, e, s _ _ h1, s _ _ h2, z⟩
/-- rows that stand as they are -/
def RowsE (H : Hp) (a : Addr) (rs : List Row) : Prop := ∃ xs, H a = some (.lst xs) ∧ Paired (RowE H) xs rs
theorem RowsE.same {H H' : Hp} {a : Addr} {rs : List Row} (s : Same H H') (h : RowsE H a rs) : RowsE H' a rs := by
  obtain ⟨xs, h1, p⟩ := h
  exact ⟨xs, s _ _ h1, Paired.mapP p fun _ _ h => h.same s⟩

abbrev s__law_bag : Stmt := top 21
theorem sc__law_bag : FnScope ["_law_script", "_law_at", "_law_n", "_law_first", "_law_keyed"] ["_law_script", "_law_at", "_law_n"] (defScope s__law_bag) := ⟨rfl, rfl, rfl, by decide +kernel, rfl, by decide +kernel, by decide +kernel⟩
def spBag82 (K : PySem.W.Frag) : Sp := fun vs H Q _ => ∃ (a : Addr) (ns : List Int) (k : Int) (n : Nat), vs = [.ref a, .int k, .int n] ∧ SqL K H a (ns.map V.int) ∧ ns.length ≤ 63 ∧ 0 ≤ k ∧ k ≤ 900 ∧ n ≤ 10 ∧ ∀ r os H', Same H H' → H r = none → H' r = some (.lst (natV os)) → os.Nodup → (∀ v ∈ os, v < n) → Q (.ref r) H'
theorem cut_lo' (xs : List V) (k : Nat) : cutV xs none (some (k : Int)) = xs.take k := by
  unfold cutV
  have e1 : HT.sIx xs.length xs.length (some (k : Int)) = min k xs.length := HT.sIx_nat _ _ k
  have e2 : HT.sIx xs.length 0 none = 0 := rfl
  rw [e1, e2, List.drop_zero, Nat.sub_zero]
  rcases Nat.le_total k xs.length with c | c
  · rw [Nat.min_eq_left c]
  · rw [Nat.min_eq_right c, List.take_length, List.take_of_length_le c]
section
variable {P : Program} {w : World} {K : PySem.W.Frag} {mg : Str → Option Value} {base : Heap}
set_option maxHeartbeats 8000000 in
theorem ok__law_bag (B : Bl mg) (d__law_cell : Dn K mg "_law_cell" s__law_cell ["_law_script", "_law_k"]) (d__law_mixed : Dn K mg "_law_mixed" s__law_mixed ["_law_cell_here", "_law_many"]) (d__law_bag : Dn K mg "_law_bag" s__law_bag ["_law_script", "_law_at", "_law_n"]) : FnOk P w K mg base CX0 3 d__law_bag.f d__law_bag.fd ["_law_script", "_law_at", "_law_n"] (spBag82 K) := by
  have G__law_cell : FnOk P w K mg base CX0 2 _ _ _ _ := (ok_cell B d__law_cell).mono (by decide)
  have G__law_mixed : FnOk P w K mg base CX0 2 _ _ _ _ := (ok_mixed B d__law_mixed).mono (by decide)
  refine d__law_bag.F.ok sc__law_bag (fun vs H Q E h => ?_) (fun cdv A outer s H vs Q E hr h => ?_)
  · obtain ⟨a, ns, k, n, rfl, _⟩ := h
    rfl
  obtain ⟨a, ns, k, n, rfl, hS, h63, k0, k9, n10, q⟩ := h
  refine ⟨_, (pss_cons (ps_set (i := 3) sc__law_bag.nd rfl (Or.inr rfl) (pe_op op_mod (pe_call G__law_cell hr rfl d__law_cell.m d__law_cell.F.kp d__law_cell.b .nil pass0 (pa_cons (pv 0) (pa_cons (pv 1) pa_nil))) pe_int))
      (pss_cons (ps_set (i := 4) sc__law_bag.nd rfl (Or.inl rfl) (pe_callB (call_sortedT (K := K) rfl) rfl B.sorted (by decide +kernel) (pa_cons (pe_lc ["_law_k", "_law_first"] [none, some 3]  (by kernel_rfl) rfl (pi_range1 rfl B.range (pa_cons (pv 2) pa_nil)) (fun _ _ _ _ _ => (pg_name (i := 0) (show (["_law_k", "_law_first"] : List Str).Nodup by decide +kernel) rfl (Or.inl rfl))) (fun _ _ _ _ _ => pts_nil) (fun _ _ _ _ _ => (pe_tupN (pa_cons (pe_call G__law_mixed hr rfl d__law_mixed.m d__law_mixed.F.kp d__law_mixed.b .nil pass0 (pa_cons (pe_op op_add (pe_op op_mul (pv 1) (pe_op op_add (pe_op op_mul (pv 0) (pv 0)) pe_int)) (pv 0)) (pa_cons (pe_op op_pow pe_int pe_int) pa_nil))) (pa_cons (pv 0) pa_nil))))) pa_nil)))
      (pss_one (ps_ret (pe_slice (sl_listN (K := K) rfl) (pe_lc ["_law_pair"] [none]  (by kernel_rfl) rfl (pi_listK (K := K) rfl (pv 4)) (fun _ _ _ _ _ => (pg_name (i := 0) (show (["_law_pair"] : List Str).Nodup by decide +kernel) rfl (Or.inl rfl))) (fun _ _ _ _ _ => pts_nil) (fun _ _ _ _ _ => (pe_ix (ix_tupK (K := K) rfl) (pv 0) pe_int (fun _ _ => rfl)))) po_none (po_some (pe_op op_mod (pe_op op_fdiv (pe_call G__law_cell hr rfl d__law_cell.m d__law_cell.F.kp d__law_cell.b .nil pass0 (pa_cons (pv 0) (pa_cons (pv 1) pa_nil))) pe_int) (pe_op op_add (pv 2) pe_int)))))))), ?_⟩
  refine ⟨_, rfl, _, rfl, a, ns, k, rfl, hS, h63, k0, by omega, _, _, rfl, rfl, (show (0 : Int) < _ by decide), ?_⟩
  dsimp only
  have f0 := Int.emod_nonneg (cellF ns k) (show (1000003 : Int) ≠ 0 by decide)
  have f1 := Int.emod_lt_of_pos (cellF ns k) (show (0 : Int) < 1000003 by decide)
  generalize cellF ns k % 1000003 = f at f0 f1 ⊢
  refine ⟨_, rfl, _, rfl, by omega, by omega, ?_⟩
  rw [Int.toNat_natCast]
  refine lc_range (fun i ys H' => ∃ (ps : List Addr) (zs : List Int), ys = ps.map V.ref ∧ ps.length = i ∧ zs.length = i ∧ Same H H' ∧ ∀ k p, ps[k]? = some p → H' p = some (.tup [.int (zs.getD k 0), .int (k : Int)])) ⟨[], [], rfl, rfl, rfl, Same.refl _, fun k p h => by cases h⟩ (fun i ys H' hi ⟨ps, zs, e, l, _⟩ => ?_) (fun i ys H1 hi ⟨ps, zs, e, l, lz, s1, hp⟩ => ?_) ?_
  · rw [e, List.length_map, l]; exact Nat.le_of_lt (small1000 (by omega))
  · refine ⟨_, rfl, _, rfl, _, rfl, _, _, rfl, rfl, .inl ⟨by omega, by omega⟩, _, _, rfl, rfl, _, _, rfl, rfl, .inl ⟨by omega, by omega⟩, _, rfl, _, _, rfl, rfl, _, _, rfl, rfl, ⟨by decide, by decide, by decide⟩, _, _, rfl, (by decide), _, rfl, (by show 2 ≤ 1000; decide), fun p2 H2 n2 => ?_⟩
    · obtain ⟨z, nz⟩ : ∃ z, New H1 p2 (.tup [.int z, .int (0 + (i : Int))]) H2 := ⟨_, n2⟩
      refine ⟨ps ++ [p2], zs ++ [z], by rw [e, List.map_append]; rfl, by rw [List.length_append, l]; rfl, by rw [List.length_append, lz]; rfl, s1.trans n2.same, fun k p hk => ?_⟩
      by_cases c : k < ps.length
      · rw [List.getElem?_append_left c] at hk
        have := n2.same _ _ (hp k p hk)
        rw [List.getD_eq_getElem?_getD, List.getElem?_append_left (by omega), ← List.getD_eq_getElem?_getD]
        exact this
      · have k1 := (List.getElem?_eq_some_iff.mp hk).1
        rw [List.length_append] at k1
        have ek : k = i := by
          have : k < ps.length + 1 := k1
          omega
        subst ek
        rw [List.getElem?_append_right (by omega), l, Nat.sub_self] at hk
        cases hk
        rw [List.getD_eq_getElem?_getD, List.getElem?_append_right (by omega), lz, Nat.sub_self]
        have := nz.here
        rw [show (0 + (k : Int)) = (k : Int) by omega] at this
        exact this
  rintro ys H1 ⟨ps, zs, rfl, l, lz, s1, hp⟩ pk hpk
  have n2 := New.mk0 (H := H1) (p := pk) (o := .lst (ps.map V.ref)) hpk
  generalize upd H1 pk (.lst (ps.map V.ref)) = H2 at n2 ⊢
  have s2 : Same H H2 := s1.trans n2.same
  refine ⟨pk, ps.map V.ref, (List.range n).map fun k => [zs.getD k 0, (k : Int)], rfl, SqL.of n2.here, ?_, fun ns h => ?_, by rw [List.length_map]; omega, fun qq p3 H3 pq _ n3 => ?_⟩
  · have all : ∀ (m : Nat), m ≤ n → Paired (TupV K H2) ((ps.take m).map V.ref) ((List.range m).map fun k => [zs.getD k 0, (k : Int)]) := fun m => by
      induction m with
      | zero => intro _; exact .nil
      | succ m ih =>
        intro hm
        have hml : m < ps.length := by omega
        rw [List.take_succ_eq_append_getElem hml, List.map_append, List.range_succ, List.map_append]
        exact paired_snoc (ih (by omega)) ⟨ps[m], rfl, SqT.of (n2.same _ _ (hp m _ (List.getElem?_eq_getElem hml)))⟩
    have := all n (Nat.le_refl _)
    rw [List.take_of_length_le (by omega)] at this
    exact this
  · obtain ⟨k, _, rfl⟩ := List.mem_map.mp h
    exact fun z => by cases z
  have pq' : qq.Perm (List.range n) := by rw [List.length_map, l] at pq; exact pq
  have lq : qq.length = n := by rw [pq'.length_eq, List.length_range]
  refine ⟨_, rfl, p3, rfl, ⟨_, SqL.of n3.here⟩, ?_⟩
  refine lc_list (K := K) (a := p3) (xs := qq.map fun i => (ps.map V.ref).getD i V.non) (fun i ys H' => ys = natV (qq.take i) ∧ Same H3 H') ⟨rfl, Same.refl _⟩ (fun i ys H' hi ⟨e, s⟩ => ⟨SqL.of (s _ _ n3.here), ?_⟩) (fun i x ys H4 hx ⟨e, s4⟩ => ?_) (fun ys H4 ⟨e, s4⟩ p5 hp5 => ?_)
  · rw [e, List.length_map, List.length_take]
    exact Nat.le_of_lt (small1000 (by omega))
  · rw [List.getElem?_map] at hx
    obtain ⟨k, hk, rfl⟩ := Option.map_eq_some_iff.mp hx
    have kn : k < n := List.mem_range.mp (pq'.mem_iff.mp (List.mem_of_getElem? hk))
    have kl : k < ps.length := by omega
    have ex : (ps.map V.ref).getD k V.non = V.ref ps[k] := by rw [List.getD_eq_getElem?_getD, List.getElem?_map, List.getElem?_eq_getElem kl]; rfl
    rw [ex]
    have ht := (n2.same.trans (n3.same.trans s4)) _ _ (hp k _ (List.getElem?_eq_getElem kl))
    refine ⟨_, rfl, ps[k], _, _, _, rfl, rfl, SqT.of ht, rfl, ?_, s4⟩
    obtain ⟨hil, hik⟩ := List.getElem?_eq_some_iff.mp hk
    rw [e, List.take_succ_eq_append_getElem hil, hik]
    unfold natV
    rw [List.map_append]
    rfl
  subst e
  rw [List.length_map, List.take_length]
  have n5 : New H4 p5 (.lst (natV qq)) (upd H4 p5 (.lst (natV qq))) := New.mk0 hp5
  generalize upd H4 p5 (.lst (natV qq)) = H5 at n5 ⊢
  have s5 := s2.trans (n3.same.trans (s4.trans n5.same))
  refine ⟨_, rfl, _, rfl, a, ns, k, rfl, s5.seq hS, h63, k0, by omega, _, _, rfl, rfl, ⟨by decide, by decide⟩, _, rfl, _, _, rfl, rfl, _, _, rfl, rfl, (by show (0 : Int) < ((n : Nat) : Int) + 1; omega), _, rfl, p5, _, rfl, SqL.of n5.here, fun p6 H6 n6 => ?_⟩
  have x0 := Int.emod_nonneg (cellF ns k / 7) (show ((n : Nat) : Int) + 1 ≠ 0 by omega)
  obtain ⟨m, em⟩ : ∃ m : Nat, cellF ns k / 7 % (((n : Nat) : Int) + 1) = (m : Int) := ⟨(cellF ns k / 7 % (((n : Nat) : Int) + 1)).toNat, by omega⟩
  try dsimp only at n6
  rw [em, cut_lo'] at n6
  have e6 : (natV qq).take m = natV (qq.take m) := by unfold natV; rw [List.map_take]
  rw [e6] at n6
  refine q p6 (qq.take m) H6 (s5.trans n6.same) (s5.free n6.fresh) n6.here ?_ fun v hv => ?_
  · exact (pq'.nodup_iff.mpr List.nodup_range).sublist (List.take_sublist _ _)
  · exact List.mem_range.mp (pq'.mem_iff.mp (List.mem_of_mem_take hv))
end

end K


namespace K
open PySem L2 Lw Bg Tx
theorem dig_one : ∀ d : Fin 10, 48 ≤ (Nat.digitChar d.val).toNat ∧ (Nat.digitChar d.val).toNat ≤ 57 ∧ (1 ≤ d.val → 49 ≤ (Nat.digitChar d.val).toNat) := by decide
theorem dig_shape (m : Nat) (h1 : 1 ≤ m) : ∃ c r, (Nat.toDigits 10 m).map Char.toNat = c :: r ∧ (49 ≤ c ∧ c ≤ 57) ∧ (∀ x ∈ r, 48 ≤ x ∧ x ≤ 57) ∧ 10 ^ r.length ≤ m := by
  induction m using Nat.strongRecOn with
  | _ m ih =>
    by_cases h : m < 10
    · have := dig_one ⟨m, h⟩
      refine ⟨(Nat.digitChar m).toNat, [], by rw [Nat.toDigits_of_lt_base h]; rfl, ⟨this.2.2 h1, this.2.1⟩, (fun x hx => by cases hx), ?_⟩
      show 1 ≤ m
      omega
    · have hm : m % 10 < 10 := Nat.mod_lt m (by decide)
      have t : Nat.toDigits 10 (m / 10) ++ Nat.toDigits 10 (m % 10) = Nat.toDigits 10 (10 * (m / 10) + m % 10) := Nat.toDigits_append_toDigits (by decide) (by omega) hm
      rw [Nat.div_add_mod] at t
      obtain ⟨c, r, e, h2, h3, h4⟩ := ih (m / 10) (by omega) (by omega)
      have d := dig_one ⟨m % 10, hm⟩
      refine ⟨c, r ++ [(Nat.digitChar (m % 10)).toNat], ?_, h2, fun x hx => ?_, ?_⟩
      · rw [← t, List.map_append, Nat.toDigits_of_lt_base hm, e]
        rfl
      · rcases List.mem_append.mp hx with hx | hx
        · exact h3 x hx
        · rw [List.mem_singleton.mp hx]
          exact ⟨d.1, d.2.1⟩
      · rw [List.length_append, List.length_singleton, Nat.pow_succ]
        omega
theorem zero_num : numOk (Str.ofString (toString (0 : Int))) = true ∧ valF (Str.ofString (toString (0 : Int))) = 0 ∧ cL (Str.ofString (toString (0 : Int))) = [48] := by
  refine ⟨by decide +kernel, by decide +kernel, by decide +kernel⟩
theorem num_text {i : Int} (h0 : 0 ≤ i) (h1 : i < 10 ^ 30) : numOk (Str.ofString (toString i)) = true ∧ valF (Str.ofString (toString i)) = i ∧ (Str.ofString (toString i)).length ≤ 30 ∧ 1 ≤ (Str.ofString (toString i)).length ∧ ∀ c ∈ cL (Str.ofString (toString i)), 48 ≤ c ∧ c ≤ 57 := by
  obtain ⟨m, rfl⟩ : ∃ m : Nat, i = (m : Int) := ⟨i.toNat, by omega⟩
  by_cases z : m = 0
  · subst z
    obtain ⟨a, b, c⟩ := zero_num
    have l : (Str.ofString (toString (((0 : Nat)) : Int))).length = 1 := by rw [← cL_len]; exact congrArg List.length c
    refine ⟨a, b, by rw [l]; decide, by rw [l]; decide, fun x hx => ?_⟩
    have hx' : x ∈ [48] := c ▸ hx
    have := List.mem_singleton.mp hx'
    omega
  · obtain ⟨c, r, e, h2, h3, h4⟩ := dig_shape m (by omega)
    have es : cL (Str.ofString (toString ((m : Nat) : Int))) = c :: r := by
      unfold cL
      rw [PySem.W.KIN.signs_num m, e]
    have l : (Str.ofString (toString ((m : Nat) : Int))).length = r.length + 1 := by rw [← cL_len, es]; rfl
    have l30 : r.length < 30 := by
      have h5 : 10 ^ r.length < 10 ^ 30 := by omega
      exact (Nat.pow_lt_pow_iff_right (by decide)).mp h5
    have all : ∀ x ∈ cL (Str.ofString (toString ((m : Nat) : Int))), 48 ≤ x ∧ x ≤ 57 := fun x hx => by
      rw [es] at hx
      rcases List.mem_cons.mp hx with rfl | hx
      · omega
      · exact h3 x hx
    refine ⟨?_, ?_, by omega, by omega, all⟩
    · unfold numOk allFig
      rw [decide_eq_true (by omega), decide_eq_true (by omega), Bool.true_and, Bool.true_and, Bool.and_eq_true]
      refine ⟨?_, ?_⟩
      · rw [← Array.all_toList]
        exact List.all_eq_true.mpr fun x hx => decide_eq_true (all x hx)
      · have g0 : (Str.ofString (toString ((m : Nat) : Int))).cps[0]? = some c := by
          rw [← Array.getElem?_toList]
          have : (cL (Str.ofString (toString ((m : Nat) : Int))))[0]? = some c := by rw [es]; rfl
          exact this
        rw [g0, Bool.or_eq_true]
        exact .inr (decide_eq_true fun w => by have := Option.some.inj w; omega)
    · unfold valF
      rw [PySem.W.KIN.signs_num m, PySem.W.KIN.val_back m]

abbrev s__law_drawn : Stmt := top 22
theorem sc__law_drawn : FnScope ["_law_script", "_law_n", "_law_rows", "_law_k", "_law_up", "_law_cell_here"] ["_law_script", "_law_n"] (defScope s__law_drawn) := ⟨rfl, rfl, rfl, by decide +kernel, rfl, by decide +kernel, by decide +kernel⟩
abbrev s__law_line : Stmt := top 23
theorem sc__law_line : FnScope ["_law_names_here", "_law_row", "_law_line_here"] ["_law_names_here", "_law_row"] (defScope s__law_line) := ⟨rfl, rfl, rfl, by decide +kernel, rfl, by decide +kernel, by decide +kernel⟩
abbrev s__law_strange : Stmt := top 24
theorem sc__law_strange : FnScope ["_law_names_here", "_law_cell_here", "_law_signs", "_law_some", "_law_free"] ["_law_names_here", "_law_cell_here"] (defScope s__law_strange) := ⟨rfl, rfl, rfl, by decide +kernel, rfl, by decide +kernel, by decide +kernel⟩
def headD : Option Int → List Nat
  | none => [45]
  | some i => cL (Str.ofString (toString i))
def namesT (nm : List (List Nat)) (ps : List Int) : List (List Nat) := ps.map fun v => nm.getD v.toNat []
def lineT (nm : List (List Nat)) (r : Row) : List Nat := headD r.1 ++ 58 :: (namesT nm r.2).flatMap fun l => 32 :: l
structure RowD (n : Nat) (r : Row) : Prop where
  up : ∀ i, r.1 = some i → 0 ≤ i ∧ i < 10 ^ 30
  nd : r.2.Nodup
  lt : ∀ v ∈ r.2, 0 ≤ v ∧ v < (n : Int)
theorem RowD.few {n : Nat} {r : Row} (h : RowD n r) (n10 : n ≤ 10) : r.2.length ≤ 10 := by
  have h2 : (r.2.map Int.toNat).Nodup := by
    unfold List.Nodup
    rw [List.pairwise_map]
    refine (List.Pairwise.and_mem.mp h.nd).imp fun ⟨hx, hy, ne⟩ e => ne ?_
    have := h.lt _ hx
    have := h.lt _ hy
    omega
  have := nodup_le (m := n) h2 fun x hx => by
    obtain ⟨v, hv, rfl⟩ := List.mem_map.mp hx
    have := h.lt v hv
    omega
  rw [List.length_map] at this
  omega
def spDrawn82 (K : PySem.W.Frag) : Sp := fun vs H Q _ => ∃ (a : Addr) (ns : List Int) (n : Nat), vs = [.ref a, .int n] ∧ SqL K H a (ns.map V.int) ∧ ns.length ≤ 63 ∧ n ≤ 10 ∧ ∀ p rs H', Same H H' → RowsE H' p rs → rs ≠ [] → rs.length ≤ 8 → (∀ r ∈ rs, RowD n r) → Q (.ref p) H'
def spLine82 (K : PySem.W.Frag) : Sp := fun vs H Q _ => ∃ (a pr b : Addr) (nm : List (List Nat)) (r : Row), vs = [.ref a, .ref pr] ∧ NmL H a nm ∧ Nms nm ∧ H pr = some (.tup [upV r.1, .ref b]) ∧ H b = some (.lst (r.2.map V.int)) ∧ RowD nm.length r ∧ ∀ H', Same H H' → Q (.str (sT (lineT nm r))) H'
theorem num_log {n : Int} (h0 : 0 ≤ n) (h1 : n < 10 ^ 30) : n.natAbs.log2 < 1920 := by
  by_cases z : n.natAbs = 0
  · rw [z]; decide
  · rw [Nat.log2_lt z]
    exact Nat.lt_of_lt_of_le (show n.natAbs < 10 ^ 30 by omega) (by decide +kernel)
theorem name_mem {nm : List (List Nat)} {ps : List Int} (lt : ∀ v ∈ ps, 0 ≤ v ∧ v < (nm.length : Int)) {l : List Nat} (h : l ∈ namesT nm ps) : l ∈ nm := by
  obtain ⟨v, hv, rfl⟩ := List.mem_map.mp h
  have := lt v hv
  rw [List.getD_eq_getElem?_getD, List.getElem?_eq_getElem (by omega)]
  exact List.getElem_mem _
theorem join_nil (zs : List Str) : cL (Txt.join (sT []) zs) = zs.flatMap cL := by
  cases zs with
  | nil => rfl
  | cons a r =>
    rw [join_cL, List.flatMap_cons]
    rfl
theorem headD_len {u : Option Int} (h : ∀ i, u = some i → 0 ≤ i ∧ i < 10 ^ 30) : (headD u).length ≤ 30 := by
  cases u with
  | none => show 1 ≤ 30; decide
  | some i =>
    obtain ⟨h0, h1⟩ := h i rfl
    have := (num_text h0 h1).2.2.1
    show (cL _).length ≤ 30
    rw [cL_len]
    exact this
section
variable {P : Program} {w : World} {K : PySem.W.Frag} {mg : Str → Option Value} {base : Heap}
set_option maxHeartbeats 4000000 in
theorem ok__law_drawn (B : Bl mg) (d__law_cell : Dn K mg "_law_cell" s__law_cell ["_law_script", "_law_k"]) (d__law_mixed : Dn K mg "_law_mixed" s__law_mixed ["_law_cell_here", "_law_many"]) (d__law_bag : Dn K mg "_law_bag" s__law_bag ["_law_script", "_law_at", "_law_n"]) (d__law_drawn : Dn K mg "_law_drawn" s__law_drawn ["_law_script", "_law_n"]) : FnOk P w K mg base CX0 4 d__law_drawn.f d__law_drawn.fd ["_law_script", "_law_n"] (spDrawn82 K) := by
  have G__law_cell : FnOk P w K mg base CX0 3 _ _ _ _ := (ok_cell B d__law_cell).mono (by decide)
  have G__law_bag : FnOk P w K mg base CX0 3 _ _ _ _ := ok__law_bag B d__law_cell d__law_mixed d__law_bag
  refine d__law_drawn.F.ok sc__law_drawn (fun vs H Q E h => ?_) (fun cdv A outer s H vs Q E hr h => ?_)
  · obtain ⟨a, ns, n, rfl, _⟩ := h
    rfl
  obtain ⟨a, ns, n, rfl, hS, h63, n10, q⟩ := h
  refine ⟨_, (PSsw.h (pssw_cons ⟨(ps_set (i := 2) sc__law_drawn.nd rfl (Or.inl rfl) (pe_lstN pa_nil))⟩
      (pssw_cons ⟨(ps_for PassesOwn.never rfl (pi_range1 rfl B.range (pa_cons (pe_op op_add pe_int (pe_op op_mod (pe_call G__law_cell hr rfl d__law_cell.m d__law_cell.F.kp d__law_cell.b .nil pass0 (pa_cons (pv 0) (pa_cons pe_int pa_nil))) pe_int)) pa_nil)) (pg_name (i := 3) sc__law_drawn.nd rfl (Or.inl rfl))
      (pss_cons (ps_set (i := 4) sc__law_drawn.nd rfl (Or.inl rfl) pe_non)
      (pss_cons (ps_set (i := 5) sc__law_drawn.nd rfl (Or.inl rfl) (pe_call G__law_cell hr rfl d__law_cell.m d__law_cell.F.kp d__law_cell.b .nil pass0 (pa_cons (pv 0) (pa_cons (pe_op op_add pe_int (pe_op op_mul pe_int (pv 3))) pa_nil))))
      (pss_cut (ps_if (pt_cmpR op_gt (pe_op op_mod (pv 5) pe_int) pe_int (nomark _))
      (pss_one (ps_set (i := 4) sc__law_drawn.nd rfl (Or.inl rfl) (pe_op op_mod (pe_op op_fdiv (pv 5) pe_int) (pe_ix (ix_listK (K := K) rfl) (pe_lstN (pa_cons pe_int (pa_cons pe_int (pa_cons pe_int (pa_cons (pe_op op_pow pe_int pe_int) pa_nil))))) (pe_op op_mod (pv 5) pe_int) (fun _ _ => rfl)))))
      pss_nil)
      (pss_one (ps_expr (pe_bmK (K := K) rfl PySem.F.plainAttrs_list PySem.F.slot_list_append PySem.F.type_list_append mt_appendN (pv 2) (pa_cons (pe_tupN (pa_cons (pv 4) (pa_cons (pe_call G__law_bag hr rfl d__law_bag.m d__law_bag.F.kp d__law_bag.b .nil pass0 (pa_cons (pv 0) (pa_cons (pe_op op_add pe_int (pe_op op_mul pe_int (pv 3))) (pa_cons (pv 1) pa_nil)))) pa_nil))) pa_nil))))))))⟩
      (pssw_cons ⟨(ps_ret (pv 2))⟩
      pssw_nil)))), ?_⟩
  refine ⟨(by show 0 ≤ 1000; decide), fun r H1 n1 => ?_⟩
  obtain ⟨m, em, m1, m8⟩ : ∃ m : Nat, 1 + cellF ns 4 % 8 = (m : Int) ∧ 1 ≤ m ∧ m ≤ 8 := ⟨(1 + cellF ns 4 % 8).toNat, by omega, by omega, by omega⟩
  refine ⟨_, rfl, a, ns, 4, rfl, n1.same.seq hS, h63, by decide, by decide, _, _, rfl, rfl, (show (0 : Int) < 8 by decide), _, _, rfl, rfl, (m : Int), congrArg (fun x => [V.int x]) em, by omega, by omega, ?_⟩
  rw [Int.toNat_natCast]
  refine for_range (n := m) (fun i σ G => ∃ (rs : List Row) (zs : List V) (o3 o4 o5 : Option V), σ = [some (.ref a), some (.int n), some (.ref r), o3, o4, o5] ∧ Same H G ∧ G r = some (.lst zs) ∧ Paired (RowL r G) zs rs ∧ rs.length = i ∧ ∀ x ∈ rs, RowD n x) ⟨[], [], none, none, none, rfl, n1.same, n1.here, .nil, rfl, (fun x h => by cases h)⟩ ?_ ?_
  · rintro i σ G hi ⟨rs, zs, o3, o4, o5, rfl, sG, hr1, pr, li, hD⟩
    have ei : (0 + (i : Int)) = ((i : Nat) : Int) := by omega
    have lz := Paired.length pr
    rw [ei]
    refine ⟨_, rfl, _, rfl, _, _, rfl, rfl, .inl ⟨by decide, by decide⟩, _, _, rfl, rfl, a, ns, _, rfl, sG.seq hS, h63, by omega, by omega, ?_⟩
    dsimp only
    generalize cellF ns (5 + 2 * ((i : Nat) : Int)) = cc
    refine ⟨fun σ' G' => ∃ u : Option Int, σ' = [some (.ref a), some (.int n), some (.ref r), some (.int (i : Nat)), some (upV u), some (.int cc)] ∧ Same G G' ∧ ∀ j, u = some j → 0 ≤ j ∧ j < 10 ^ 30, ?_, ?_⟩
    · refine ⟨_, rfl, _, _, rfl, rfl, (show (0 : Int) < 5 by decide), _, _, rfl, rfl, _, rfl, ite2 (fun c => ?_) (fun c => ⟨none, rfl, Same.refl _, (fun j h => by cases h)⟩)⟩
      refine ⟨_, rfl, _, _, rfl, rfl, ⟨by decide, by decide⟩, _, _, rfl, rfl, ⟨by decide, by decide, by decide⟩, (by show 4 ≤ 1000; decide), fun p3 G3 n3 => ?_⟩
      obtain ⟨x, at_, x0, x1⟩ : ∃ x : Int, atI [V.int 3, V.int 10, V.int 1000, V.int (10 ^ (30 : Int).toNat)] (cc % 4) = some (.int x) ∧ 0 < x ∧ x ≤ 10 ^ 30 := by
        rcases (show cc % 4 = 0 ∨ cc % 4 = 1 ∨ cc % 4 = 2 ∨ cc % 4 = 3 by omega) with e | e | e | e <;> rw [e]
        · exact ⟨3, rfl, by decide, by decide⟩
        · exact ⟨10, rfl, by decide, by decide⟩
        · exact ⟨1000, rfl, by decide, by decide⟩
        · exact ⟨10 ^ (30 : Int).toNat, rfl, by decide, by decide⟩
      refine ⟨_, rfl, _, _, rfl, rfl, (show (0 : Int) < 4 by decide), p3, _, _, _, rfl, rfl, SqL.of n3.here, at_, _, _, rfl, rfl, x0, ?_⟩
      have y0 := Int.emod_nonneg (cc / 5) (show x ≠ 0 by omega)
      have y1 := Int.emod_lt_of_pos (cc / 5) x0
      exact ⟨some (cc / 5 % x), rfl, n3.same, fun j e => by have := Option.some.inj e; omega⟩
    · rintro σ' G' ⟨u, rfl, s', hu⟩
      have hr2 := s' _ _ hr1
      refine ⟨_, rfl, .inl ⟨rfl, _, SqL.of hr2⟩, _, rfl, _, rfl, _, rfl, _, _, rfl, rfl, .inl ⟨by decide, by decide⟩, _, _, rfl, rfl, _, rfl, a, ns, _, n, rfl, (sG.trans s').seq hS, h63, by omega, by omega, n10, fun p4 os G4 s4 f4 h4 nd lt => ?_⟩
      refine ⟨(by show 2 ≤ 1000; decide), fun p5 G5 n5 => ?_⟩
      have s5 := s4.trans n5.same
      have hr5 := s5 _ _ hr2
      have lo : os.length ≤ 10 := by have := nodup_le nd lt; omega
      refine ⟨r, _, _, rfl, rfl, hr5, by omega, fun G6 c6 => ?_⟩
      have fr0 : H r = none := n1.fresh
      refine ⟨rs ++ [(u, os.map fun v : Nat => (v : Int))], _, _, _, _, rfl, (sG.trans (s'.trans s5)).chg fr0 c6, c6.here, ?_, by rw [List.length_append, li]; rfl, fun x hx => ?_⟩
      · refine paired_snoc (Paired.mapP pr fun _ _ h => (h.same (s'.trans s5)).chg hr5 c6) (RowL.chg hr5 c6 ⟨p5, p4, rfl, n5.here, ?_, ?_, ?_⟩)
        · rw [← natV_ints]
          exact n5.same _ _ h4
        · intro e
          rw [e, hr2] at f4
          cases f4
        · show (os.map fun v : Nat => (v : Int)).length ≤ 1000
          rw [List.length_map]
          omega
      · rcases List.mem_append.mp hx with hx | hx
        · exact hD x hx
        · rw [List.mem_singleton.mp hx]
          refine ⟨hu, ?_, fun v hv => ?_⟩
          · show (os.map fun v : Nat => (v : Int)).Nodup
            unfold List.Nodup
            rw [List.pairwise_map]
            exact nd.imp fun ne e => ne (by omega)
          · obtain ⟨y, hy, rfl⟩ := List.mem_map.mp hv
            have := lt y hy
            omega
  · rintro σ G ⟨rs, zs, o3, o4, o5, rfl, sG, hr1, pr, li, hD⟩
    refine ⟨_, rfl, q r rs G sG ⟨zs, hr1, Paired.mapP pr fun _ _ ⟨p, b, e, h1, h2, _, z⟩ => ⟨p, b, e, h1, h2, z⟩⟩ (fun z => ?_) (by omega) hD⟩
    rw [z] at li
    have : 0 = m := li
    omega
set_option maxHeartbeats 4000000 in
theorem ok__law_line (B : Bl mg) (d__law_line : Dn K mg "_law_line" s__law_line ["_law_names_here", "_law_row"]) : FnOk P w K mg base CX0 1 d__law_line.f d__law_line.fd ["_law_names_here", "_law_row"] (spLine82 K) := by
  refine d__law_line.F.ok sc__law_line (fun vs H Q E h => ?_) (fun cdv A outer s H vs Q E hr h => ?_)
  · obtain ⟨a, pr, b, nm, r, rfl, _⟩ := h
    rfl
  obtain ⟨a, pr, b, nm, ⟨u, ps⟩, rfl, hA, hN, hT, hb, hD, q⟩ := h
  have l10 : ps.length ≤ 10 := hD.few hN.few
  have h30 : (headD u).length ≤ 30 := headD_len hD.up
  refine ⟨_, (pss_cons (ps_set (i := 2) sc__law_line.nd rfl (Or.inl rfl) pe_str)
      (pss_cut (ps_if (pt_cmpR op_notN (pe_ix (ix_tupK (K := K) rfl) (pv 1) pe_int (fun _ _ => rfl)) pe_non (nomark _))
      (pss_one (ps_set (i := 2) sc__law_line.nd rfl (Or.inl rfl) (pe_op op_add_str (pe_callTy call_str_int rfl B.str (by decide +kernel) (pa_cons (pe_ix (ix_tupK (K := K) rfl) (pv 1) pe_int (fun _ _ => rfl)) pa_nil)) pe_str)))
      pss_nil)
      (pss_one (ps_ret (pe_op op_add_str (pv 2) (pe_bmK (K := K) rfl PySem.F.plainAttrs_str PySem.F.slot_str_join PySem.F.type_str_join (mt_joinS (K := K) rfl) pe_str (pa_cons (pe_lc ["_law_place", "_law_names_here"] [none, some 0]  (by kernel_rfl) rfl (pi_listK (K := K) rfl (pe_ix (ix_tupK (K := K) rfl) (pv 1) pe_int (fun _ _ => rfl))) (fun _ _ _ _ _ => (pg_name (i := 0) (show (["_law_place", "_law_names_here"] : List Str).Nodup by decide +kernel) rfl (Or.inl rfl))) (fun _ _ _ _ _ => pts_nil) (fun _ _ _ _ _ => (pe_op op_add_str pe_str (pe_ix (ix_listK (K := K) rfl) (pv 1) (pv 0) (fun _ _ => rfl))))) pa_nil))))))), ?_⟩
  refine ⟨fun σ' G => σ' = [some (.ref a), some (.ref pr), some (.str (sT (headD u ++ [58])))] ∧ G = H, ?_, ?_⟩
  · cases u with
    | none =>
      refine ⟨_, rfl, pr, _, _, _, rfl, rfl, SqT.of hT, rfl, rfl, _, rfl, iteF ⟨?_, rfl⟩⟩
      rw [show headD none ++ [58] = [45, 58] from rfl, ← show Str.ofString "-:" = sT [45, 58] by decide +kernel]
      rfl
    | some i =>
      obtain ⟨i0, i1⟩ := hD.up i rfl
      have nt := num_text i0 i1
      refine ⟨_, rfl, pr, _, _, _, rfl, rfl, SqT.of hT, rfl, rfl, _, rfl, iteT ?_⟩
      refine ⟨_, rfl, pr, _, _, _, rfl, rfl, SqT.of hT, rfl, i, rfl, num_log i0 i1, _, _, rfl, rfl, ?_, ?_⟩
      · rw [colon_t, sT_len, sizeLine_eq]
        show _ + 1 ≤ _
        have := nt.2.2.1
        omega
      · have e : Str.ofString (toString i) ++ Str.ofString ":" = sT (headD (some i) ++ [58]) := cL_inj (by rw [cL_app, colon_t, cL_sT, cL_sT]; rfl)
        rw [e]
        exact ⟨rfl, rfl⟩
  rintro σ' G ⟨rfl, rfl⟩
  refine ⟨_, rfl, rfl, _, rfl, pr, _, _, _, rfl, rfl, SqT.of hT, rfl, b, rfl, ⟨_, SqL.of hb⟩, ?_⟩
  refine lc_fmN (fun x => match x with | .int v => some (.str (sT (32 :: nm.getD v.toNat []))) | _ => none) (SqL.of hb) (by rw [List.length_map]; show ps.length ≤ _; omega) (fun x H2 N hx s2 hN2 => ?_) (fun H2 p3 H3 s2 n3 => ?_)
  · obtain ⟨v, hv, rfl⟩ := List.mem_map.mp hx
    have lv := hD.lt v hv
    have vl : v.toNat < nm.length := by
      have := lv.2
      omega
    have eg : nm.getD v.toNat [] = nm[v.toNat] := by rw [List.getD_eq_getElem?_getD, List.getElem?_eq_getElem vl]; rfl
    have l6 := (hN.ok _ (List.getElem_mem vl)).1.2
    refine ⟨_, rfl, _, rfl, a, _, _, .str (sT (nm.getD v.toNat [])), rfl, rfl, SqL.of (s2 _ _ hA), ?_, _, _, rfl, rfl, ?_, ?_⟩
    · have e : v = ((v.toNat : Nat) : Int) := by omega
      rw [e]
      refine atI_nat ?_
      rw [List.getElem?_map, Int.toNat_natCast, List.getElem?_eq_getElem vl, eg]
      rfl
    · rw [blank_t, sT_len, sT_len, eg, sizeLine_eq]
      show 1 + _ ≤ _
      omega
    · have e : Str.ofString " " ++ sT (nm.getD v.toNat []) = sT (32 :: nm.getD v.toNat []) := cL_inj (by rw [cL_app, blank_t, cL_sT, cL_sT, cL_sT]; rfl)
      rw [e]
      exact hN2 H2 s2
  have e3 : (ps.map V.int).filterMap (fun x => match x with | .int v => some (V.str (sT (32 :: nm.getD v.toNat []))) | _ => none) = ((namesT nm ps).map fun l => sT (32 :: l)).map V.str := by
    unfold namesT
    rw [List.filterMap_map, List.map_map, List.map_map]
    exact fm_some fun _ _ => rfl
  rw [e3] at n3
  have b7 : ∀ z ∈ (namesT nm ps).map fun l => sT (32 :: l), z.length ≤ 7 := fun z hz => by
    obtain ⟨l, hl, rfl⟩ := List.mem_map.mp hz
    rw [sT_len, List.length_cons]
    have := (hN.ok l (name_mem hD.lt hl)).1.2
    omega
  have sm := sum_le b7
  have ll : ((namesT nm ps).map fun l => sT (32 :: l)).length = ps.length := by unfold namesT; rw [List.length_map, List.length_map]
  rw [ll] at sm
  have ej : Txt.join (Str.ofString "") ((namesT nm ps).map fun l => sT (32 :: l)) = sT ((namesT nm ps).flatMap fun l => 32 :: l) := by
    refine cL_inj ?_
    rw [empty_t, join_nil, cL_sT, List.flatMap_map]
    rfl
  refine ⟨_, p3, _, rfl, rfl, SqL.of n3.here, by rw [empty_t, sT_len]; decide, by rw [ll]; omega, ?_⟩
  rw [ej]
  have lf : ((namesT nm ps).flatMap fun l => 32 :: l).length ≤ 70 := by
    have h : ∀ ls : List (List Nat), (∀ l ∈ ls, l.length ≤ 6) → (ls.flatMap fun l => 32 :: l).length ≤ 7 * ls.length := fun ls => by
      induction ls with
      | nil => intro _; exact Nat.zero_le _
      | cons x t ih =>
        intro hl
        have h1 := ih fun x hx => hl x (List.mem_cons_of_mem _ hx)
        have h2 := hl x List.mem_cons_self
        rw [List.flatMap_cons, List.length_append, List.length_cons, List.length_cons]
        omega
    have h7 := h (namesT nm ps) fun l hl => (hN.ok l (name_mem hD.lt hl)).1.2
    have ln : (namesT nm ps).length = ps.length := List.length_map _
    omega
  refine ⟨_, _, rfl, rfl, ?_, ?_⟩
  · rw [sT_len, sT_len, List.length_append, sizeLine_eq]
    show _ + 1 + _ ≤ _
    omega
  · have e : sT (headD u ++ [58]) ++ sT ((namesT nm ps).flatMap fun l => 32 :: l) = sT (lineT nm (u, ps)) := cL_inj (by
      rw [cL_app, cL_sT, cL_sT, cL_sT]
      unfold lineT
      rw [List.append_assoc]
      rfl)
    rw [e]
    exact q H3 (s2.trans n3.same)
end

end K


namespace K
open PySem L2 Lw Bg Tx
def repL (k i : Nat) : List Nat := List.replicate k (97 + i)
theorem rep_one (k c : Nat) : ((List.replicate k [c]).flatMap id) = List.replicate k c := by
  induction k with
  | zero => rfl
  | succ k ih => rw [List.replicate_succ, List.flatMap_cons, ih, List.replicate_succ]; rfl
theorem rep_ok {k i : Nat} (h1 : 1 ≤ k) (h6 : k ≤ 6) (hi : i < 26) : nameOk (sT (repL k i)) = true := by
  unfold nameOk repL
  rw [sT_len, List.length_replicate, decide_eq_true (by omega), decide_eq_true (by omega), Bool.true_and, Bool.true_and]
  show (List.replicate k (97 + i)).toArray.all isLet = true
  rw [List.all_toArray]
  refine List.all_eq_true.mpr fun c hc => ?_
  rw [(List.mem_replicate.mp hc).2]
  exact decide_eq_true (by omega)
theorem rep_inj {k i j : Nat} (h1 : 1 ≤ k) (e : repL k i = repL k j) : i = j := by
  unfold repL at e
  have : (List.replicate k (97 + i))[0]? = (List.replicate k (97 + j))[0]? := by rw [e]
  rw [List.getElem?_replicate, List.getElem?_replicate, if_pos (by omega), if_pos (by omega)] at this
  have := Option.some.inj this
  omega
def freeL (nm : List (List Nat)) (k m : Nat) : List (List Nat) := ((List.range m).map (repL k)).filter fun l => !decide (l ∈ nm)
theorem free_some {nm : List (List Nat)} (few : nm.length ≤ 10) {k : Nat} (h1 : 1 ≤ k) : 0 < (freeL nm k 26).length := by
  refine Nat.pos_of_ne_zero fun z => ?_
  have z' : freeL nm k 26 = [] := List.length_eq_zero_iff.mp z
  have al : ∀ w ∈ ((List.range 26).map fun i => sT (repL k i)), cL w ∈ nm := fun w hw => by
    obtain ⟨i, hi, rfl⟩ := List.mem_map.mp hw
    have := List.filter_eq_nil_iff.mp z' (repL k i) (List.mem_map.mpr ⟨i, hi, rfl⟩)
    rw [cL_sT]
    by_cases c : repL k i ∈ nm
    · exact c
    · rw [decide_eq_false c] at this
      exact absurd rfl this
  have nd : ((List.range 26).map fun i => sT (repL k i)).Nodup := by
    unfold List.Nodup
    rw [List.pairwise_map]
    exact List.nodup_range.imp fun ne e => ne (rep_inj h1 (sT_inj e))
  have := ix_few few al nd
  rw [List.length_map, List.length_range] at this
  omega
def spStrange82 (K : PySem.W.Frag) : Sp := fun vs H Q _ => ∃ (a : Addr) (nm : List (List Nat)) (c : Int), vs = [.ref a, .int c] ∧ NmL H a nm ∧ Nms nm ∧ ∀ l H', Same H H' → nameOk (sT l) = true → l ∉ nm → Q (.str (sT l)) H'
section
variable {P : Program} {w : World} {K : PySem.W.Frag} {mg : Str → Option Value} {base : Heap}
set_option maxHeartbeats 4000000 in
theorem ok__law_strange (B : Bl mg) (d__law_strange : Dn K mg "_law_strange" s__law_strange ["_law_names_here", "_law_cell_here"]) : FnOk P w K mg base CX0 1 d__law_strange.f d__law_strange.fd ["_law_names_here", "_law_cell_here"] (spStrange82 K) := by
  refine d__law_strange.F.ok sc__law_strange (fun vs H Q E h => ?_) (fun cdv A outer s H vs Q E hr h => ?_)
  · obtain ⟨a, nm, c, rfl, _⟩ := h
    rfl
  obtain ⟨a, nm, c, rfl, hA, hN, q⟩ := h
  have hv : (A.deeper (PyProof.Rows.envOfC "_law_strange" (defScope s__law_strange) s.heap.objs.size d__law_strange.f cdv)).units + 65 < cLine := by have := hr.un; omega
  obtain ⟨k, ek, k1, k6⟩ : ∃ k : Nat, 1 + c % 6 = (k : Int) ∧ 1 ≤ k ∧ k ≤ 6 := ⟨(1 + c % 6).toNat, by omega, by omega, by omega⟩
  refine ⟨_, (PSsw.h (pssw_cons ⟨(ps_set (i := 2) sc__law_strange.nd rfl (Or.inl rfl) pe_str)⟩
      (pssw_cons ⟨(ps_setLC (i := 3) ["_law_sign", "_law_cell_here"] [none, some 1] sc__law_strange.nd rfl rfl (by kernel_rfl) rfl (pi_str (pv 2)) (fun _ _ _ _ _ => (pg_name (i := 0) (show (["_law_sign", "_law_cell_here"] : List Str).Nodup by decide +kernel) rfl (Or.inl rfl))) (fun _ _ _ _ _ => pts_nil) (fun _ _ _ _ _ => (pe_op op_repE (pv 0) (pe_op op_add pe_int (pe_op op_mod (pv 1) pe_int)))) (by rfl))⟩
      (pssw_cons ⟨(ps_setLC (i := 4) ["_law_name", "_law_names_here"] [none, some 0] sc__law_strange.nd rfl rfl (by kernel_rfl) rfl (pi_listK (K := K) rfl (pv 3)) (fun _ _ _ _ _ => (pg_name (i := 0) (show (["_law_name", "_law_names_here"] : List Str).Nodup by decide +kernel) rfl (Or.inl rfl))) (fun _ _ _ _ _ => (pts_one (pt_cmpR (op_notInDK (K := K) rfl hv) (pv 0) (pv 1) (by with_unfolding_all rfl)))) (fun _ _ _ _ _ => (pv 0)) (by rfl))⟩
      (pssw_cons ⟨(ps_ret (pe_ix (ix_listK (K := K) rfl) (pv 4) (pe_op op_mod (pe_op op_fdiv (pv 1) pe_int) (pe_callB (call_lenK (K := K) rfl) rfl B.len (by decide +kernel) (pa_cons (pv 4) pa_nil))) (fun _ _ => rfl)))⟩
      pssw_nil))))), ?_⟩
  have sz : letT.cps.size = 26 := by decide +kernel
  refine ⟨_, rfl, letT, rfl, ?_⟩
  refine lc_str (z := letT) (fun i ys G => G = H ∧ ys = ((List.range i).map fun j => V.str (sT (repL k j)))) ⟨rfl, rfl⟩ (fun i ys G hi h => ?_) (fun i ch ys G hc h => ?_) (fun ys G h p hp => ?_)
  · rw [h.2, List.length_map, List.length_range, sizeLine_eq]
    rw [sz] at hi
    omega
  · obtain ⟨rfl, rfl⟩ := h
    have hc' : letT.cps.toList[i]? = some ch := by rw [Array.getElem?_toList]; exact hc
    have il : i < 26 := by
      have := (Array.getElem?_eq_some_iff.mp hc).1
      omega
    rw [let_l, List.getElem?_map, List.getElem?_range il] at hc'
    have ech : ch = 97 + i := (Option.some.inj hc').symm
    refine ⟨_, rfl, _, rfl, _, _, rfl, rfl, (show (0 : Int) < 6 by decide), _, _, rfl, rfl, [ch], k, rfl, congrArg V.int ek, by omega, (by show 1 ≤ 100; decide), rfl, ?_⟩
    rw [List.range_succ, List.map_append, rep_one, ech]
    rfl
  obtain ⟨rfl, rfl⟩ := h
  rw [sz]
  have n1 := New.mk0 (o := .lst ((List.range 26).map fun j => V.str (sT (repL k j)))) hp
  generalize upd G p (.lst ((List.range 26).map fun j => V.str (sT (repL k j)))) = H1 at n1 ⊢
  have hA1 := n1.same _ _ hA
  refine ⟨_, rfl, p, rfl, ⟨_, SqL.of n1.here⟩, ?_⟩
  refine lc_list (K := K) (a := p) (xs := (List.range 26).map fun j => V.str (sT (repL k j))) (fun i ys G' => G' = H1 ∧ ys = (freeL nm k i).map fun l => V.str (sT l)) ⟨rfl, rfl⟩ (fun i ys G' hi ⟨e, ey⟩ => ⟨by rw [e]; exact SqL.of n1.here, ?_⟩) (fun i x ys G' hx ⟨e, ey⟩ => ?_) (fun ys G' ⟨e, ey⟩ p2 hp2 => ?_)
  · rw [ey, List.length_map]
    have h1 := List.length_filter_le (fun l => !decide (l ∈ nm)) ((List.range i).map (repL k))
    rw [List.length_map, List.length_range] at h1
    rw [List.length_map, List.length_range] at hi
    unfold freeL
    exact Nat.le_of_lt (small1000 (by omega))
  · subst e
    rw [List.getElem?_map] at hx
    obtain ⟨j, hj, rfl⟩ := Option.map_eq_some_iff.mp hx
    have il : i < 26 := by
      have := (List.getElem?_eq_some_iff.mp hj).1
      rw [List.length_range] at this
      exact this
    rw [List.getElem?_range il] at hj
    obtain rfl : i = j := Option.some.inj hj
    have sml : ∀ c ∈ repL k i, c < 200 := fun c hc => by
      unfold repL at hc
      rw [(List.mem_replicate.mp hc).2]
      omega
    refine ⟨_, rfl, _, rfl, .str _, nm.map fun l => PyData.str (sT l), .str _, .lst (SqL.of hA1) (isDs_strs nm), shaped_str sml, shaped_strs hN.short, _, rfl, ?_⟩
    rw [if_pos rfl, any_str]
    have ef : freeL nm k (i + 1) = freeL nm k i ++ [repL k i].filter fun l => !decide (l ∈ nm) := by
      unfold freeL
      rw [List.range_succ, List.map_append, List.filter_append]
      rfl
    by_cases m : repL k i ∈ nm
    · rw [decide_eq_true m]
      refine iteF ⟨rfl, ?_⟩
      rw [ey, ef, List.filter_cons, decide_eq_true m]
      simp
    · rw [decide_eq_false m]
      refine iteT ⟨_, rfl, rfl, ?_⟩
      rw [ey, ef, List.filter_cons, decide_eq_false m, List.map_append]
      rfl
  subst e
  rw [List.length_map, List.length_range] at ey
  subst ey
  have n2 := New.mk0 (o := .lst ((freeL nm k 26).map fun l => V.str (sT l))) hp2
  generalize upd G' p2 (.lst ((freeL nm k 26).map fun l => V.str (sT l))) = H2 at n2 ⊢
  have f0 := free_some hN.few k1
  have lf : ((freeL nm k 26).map fun l => V.str (sT l)).length = (freeL nm k 26).length := List.length_map _
  have x0 := Int.emod_nonneg (c / 6) (show (((freeL nm k 26).length : Nat) : Int) ≠ 0 by omega)
  have x1 := Int.emod_lt_of_pos (c / 6) (show (0 : Int) < (((freeL nm k 26).length : Nat) : Int) by omega)
  obtain ⟨m, em⟩ : ∃ m : Nat, c / 6 % (((freeL nm k 26).length : Nat) : Int) = (m : Int) := ⟨(c / 6 % (((freeL nm k 26).length : Nat) : Int)).toNat, by omega⟩
  have ml : m < (freeL nm k 26).length := by omega
  have mm : (freeL nm k 26)[m] ∈ freeL nm k 26 := List.getElem_mem ml
  obtain ⟨m1, m2⟩ := List.mem_filter.mp mm
  obtain ⟨i, hi, ei⟩ := List.mem_map.mp m1
  refine ⟨_, rfl, _, rfl, _, _, rfl, rfl, ⟨by decide, by decide⟩, _, rfl, p2, _, rfl, .inl (SqL.of n2.here), _, _, rfl, rfl, (by rw [lf]; omega), p2, _, _, .str (sT (freeL nm k 26)[m]), rfl, rfl, SqL.of n2.here, ?_, ?_⟩
  · rw [lf, em]
    exact atI_nat (by rw [List.getElem?_map, List.getElem?_eq_getElem ml]; rfl)
  · refine q _ H2 (n1.same.trans n2.same) ?_ ?_
    · rw [← ei]
      exact rep_ok k1 k6 (List.mem_range.mp hi)
    · intro z
      rw [decide_eq_true z] at m2
      cases m2
end

end K


namespace K
open PySem L2 Lw Bg Tx
abbrev s__law_told : Stmt := top 26
theorem sc__law_told : FnScope ["_law_names_here", "_law_text", "_law_found", "e", "_law_marks"] ["_law_names_here", "_law_text"] (defScope s__law_told) := ⟨rfl, rfl, rfl, by decide +kernel, rfl, by decide +kernel, by decide +kernel⟩
def only4 (k : Nat) : List Bool := (List.range 4).map fun i => decide (i = k)
structure Cls4 (K : PySem.W.Frag) (mg : Str → Option Value) (C : Cl K mg) (cc : Addr) (bs : List Bool) : Prop where
  x : Xk K cc
  v : PySem.W.kitOne K (.ref cc) (.type "ValueError") = some true
  q0 : PySem.W.kitOne K (.ref cc) (.ref C.NoText) = some (bs.getD 0 false)
  q1 : PySem.W.kitOne K (.ref cc) (.ref C.NoName) = some (bs.getD 1 false)
  q2 : PySem.W.kitOne K (.ref cc) (.ref C.NoNumber) = some (bs.getD 2 false)
  q3 : PySem.W.kitOne K (.ref cc) (.ref C.NoRow) = some (bs.getD 3 false)
theorem cls_text {K : PySem.W.Frag} {mg : Str → Option Value} (C : Cl K mg) : Cls4 K mg C C.NoText (only4 0) := ⟨C.k_NoText, C.v_NoText, C.q_NoText_NoText, C.q_NoText_NoName, C.q_NoText_NoNumber, C.q_NoText_NoRow⟩
theorem cls_name {K : PySem.W.Frag} {mg : Str → Option Value} (C : Cl K mg) : Cls4 K mg C C.NoName (only4 1) := ⟨C.k_NoName, C.v_NoName, C.q_NoName_NoText, C.q_NoName_NoName, C.q_NoName_NoNumber, C.q_NoName_NoRow⟩
theorem isDs_bls {K : PySem.W.Frag} {H : Hp} : ∀ bs : List Bool, IsDs K H (bs.map V.bl) (bs.map PyData.bool)
  | [] => .nil
  | b :: r => .cons (.bl b) (isDs_bls r)
def spTold82 (K : PySem.W.Frag) : Sp := fun vs H Q _ => ∃ (a : Addr) (nm : List (List Nat)) (z : Str), vs = [.ref a, .str z] ∧ NmL H a nm ∧ Nms nm ∧ z.length ≤ 5000 ∧ (linesZ z).length ≤ 30 ∧ (∀ l ∈ linesZ z, l.length ≤ 190) ∧
  (((linesZ z).all rowB = true ∧ ((linesZ z).all fun l => plB nm (wsZ l).tail) = true) → ∀ p xs H', Same H H' → H' p = some (.lst xs) → Paired (BgE nm H') xs (linesZ z) → Q (.ref p) H') ∧
  ((linesZ z).all rowB = false → ∀ p H', Same H H' → H' p = some (.lst [.int 0]) → Q (.ref p) H') ∧ ((linesZ z).all rowB = true → ((linesZ z).all fun l => plB nm (wsZ l).tail) = false → ∀ p H', Same H H' → H' p = some (.lst [.int 1]) → Q (.ref p) H')
section
variable {P : Program} {w : World} {K : PySem.W.Frag} {mg : Str → Option Value} {base : Heap}
set_option maxHeartbeats 4000000 in
theorem ok__law_told (B : Bl mg) (Ct : Cts mg) (C : Cl K mg) (d_is_written : Dn K mg "is_written" s_is_written ["text", "signs", "most"]) (d_is_number : Dn K mg "is_number" s_is_number ["text"]) (d_is_name : Dn K mg "is_name" s_is_name ["text"]) (d_read_row : Dn K mg "read_row" s_read_row ["row"]) (d_read_places : Dn K mg "read_places" s_read_places ["names", "words"]) (d_read_bags : Dn K mg "read_bags" s_read_bags ["names", "text"]) (d__law_told : Dn K mg "_law_told" s__law_told ["_law_names_here", "_law_text"]) : FnOk P w K mg base CX0 5 d__law_told.f d__law_told.fd ["_law_names_here", "_law_text"] (spTold82 K) := by
  have GX_read_bags : FnOk P w K mg base (CXE P w) 4 _ _ _ _ := okX_read_bags B Ct C d_is_written d_is_number d_is_name d_read_row d_read_places d_read_bags
  refine d__law_told.F.ok sc__law_told (fun vs H Q E h => ?_) (fun cdv A outer s H vs Q E hr h => ?_)
  · obtain ⟨a, nm, z, rfl, _⟩ := h
    rfl
  obtain ⟨a, nm, z, rfl, hA, hN, l5, l30, l190, good, badT, badN⟩ := h
  have hv : (A.deeper (PyProof.Rows.envOfC "_law_told" (defScope s__law_told) s.heap.objs.size d__law_told.f cdv)).units + 65 < cLine := by have := hr.un; omega
  refine ⟨_, (pss_cons (ps_try ⟨rfl, rfl, rfl⟩ (pxss_one (pxs_set (i := 2) sc__law_told.nd rfl (Or.inl rfl) (pxe_call (fun _ _ z => z) GX_read_bags hr rfl d_read_bags.m d_read_bags.F.kp d_read_bags.b .nil (pa_cons (pv 0) (pa_cons (pv 1) pa_nil))))) (fun p cc (hc : PySem.W.exmOne K (.ref cc) (.ref C.BagError) = some true) => (ph_as (i := 3) rfl C.m_BagError hc sc__law_told.nd rfl rfl (pss_cons (ps_set (i := 4) sc__law_told.nd rfl (Or.inl rfl) (pe_lstN (pa_cons (pe_callB (call_isinX (K := K) rfl) rfl B.isinstance (by decide +kernel) (pa_cons (pv 3) (pa_cons (pe_glob (v := .ref C.NoText) (u := .ref C.NoText) rfl C.m_NoText rfl) pa_nil))) (pa_cons (pe_callB (call_isinX (K := K) rfl) rfl B.isinstance (by decide +kernel) (pa_cons (pv 3) (pa_cons (pe_glob (v := .ref C.NoName) (u := .ref C.NoName) rfl C.m_NoName rfl) pa_nil))) (pa_cons (pe_callB (call_isinX (K := K) rfl) rfl B.isinstance (by decide +kernel) (pa_cons (pv 3) (pa_cons (pe_glob (v := .ref C.NoNumber) (u := .ref C.NoNumber) rfl C.m_NoNumber rfl) pa_nil))) (pa_cons (pe_callB (call_isinX (K := K) rfl) rfl B.isinstance (by decide +kernel) (pa_cons (pv 3) (pa_cons (pe_glob (v := .ref C.NoRow) (u := .ref C.NoRow) rfl C.m_NoRow rfl) pa_nil))) pa_nil))))))
      (pss_cons (ps_if (PW.pt (pw_or (pt_cmpR op_ne (pe_bmK (K := K) rfl PySem.F.plainAttrs_list PySem.F.slot_list_count PySem.F.type_list_count (mt_cntT hv) (pv 4) (pa_cons pe_bl pa_nil)) pe_int (nomark _)) (pw_or1 (pt_not (pt_truthK (K := K) rfl (pe_callB (call_isinX (K := K) rfl) rfl B.isinstance (by decide +kernel) (pa_cons (pv 3) (pa_cons (pe_bltn (v := .ty "ValueError") (u := .type "ValueError") rfl B.ValueError (by decide +kernel) rfl) pa_nil))) (fun _ => rfl))))))
      (pss_one (ps_ret (pe_lstN (pa_cons pe_str pa_nil))))
      pss_nil)
      (pss_one (ps_ret (pe_lstN (pa_cons (pe_bmK (K := K) rfl PySem.F.plainAttrs_list PySem.F.slot_list_index PySem.F.type_list_index (mt_idxD (K := K) rfl hv) (pv 4) (pa_cons pe_bl pa_nil)) pa_nil)))))))))
      (pss_one (ps_ret (pv 2)))), ?_⟩
  refine ⟨_, rfl, _, rfl, a, nm, z, rfl, hA, hN, l5, l30, l190, fun gd p xs H1 s1 h1 p1 => ⟨_, rfl, good gd p xs H1 s1 h1 p1⟩, fun bt p H1 s1 hp p' cc e1 e2 => ?_, fun ar bn p H1 s1 hp p' cc e1 e2 => ?_⟩
  · cases e1
    cases e2
    refine ⟨C.x_NoText_BagError, ?_⟩
    have R := cls_text C
    have he : upd H1 p (ExcO p C.NoText) p = some (ExcO p C.NoText) := upd_same
    have hs : Same H1 (upd H1 p (ExcO p C.NoText)) := same_new hp _
    generalize upd H1 p (ExcO p C.NoText) = G1 at he hs ⊢
    refine ⟨_, rfl, p, _, _, _, _, rfl, he, R.x, rfl, R.q0, _, rfl, p, _, _, _, _, rfl, he, R.x, rfl, R.q1, _, rfl, p, _, _, _, _, rfl, he, R.x, rfl, R.q2, _, rfl, p, _, _, _, _, rfl, he, R.x, rfl, R.q3, (by show 4 ≤ 1000; decide), fun r1 G2 n2 => ?_⟩
    have h2 : G2 r1 = some (.lst ((only4 0).map V.bl)) := n2.here
    refine ⟨_, rfl, .inl ⟨rfl, _, SqL.of h2⟩, r1, only4 0, rfl, rfl, h2, rfl, _, rfl, ?_⟩
    rw [show (!decide (V.int (((only4 0).countP id : Nat) : Int) = V.int 1)) = false by decide]
    refine iteF ⟨_, rfl, p, _, _, _, _, rfl, n2.same _ _ he, R.x, rfl, R.v, _, rfl, iteF ?_⟩
    refine ⟨_, rfl, .inl ⟨rfl, _, SqL.of h2⟩, r1, _, _, .bool true, (only4 0).map PyData.bool, 0, rfl, rfl, h2, .bl true, isDs_bls _, rfl, (by decide), (by show 4 ≤ 1000; decide), (by show 0 < 4; decide), (by decide), (fun m hm => absurd hm (Nat.not_lt_zero _)), (by show 1 ≤ 1000; decide), fun r3 G3 n3 => ?_⟩
    exact badT bt r3 G3 (s1.trans (hs.trans (n2.same.trans n3.same))) n3.here
  · cases e1
    cases e2
    refine ⟨C.x_NoName_BagError, ?_⟩
    have R := cls_name C
    have he : upd H1 p (ExcO p C.NoName) p = some (ExcO p C.NoName) := upd_same
    have hs : Same H1 (upd H1 p (ExcO p C.NoName)) := same_new hp _
    generalize upd H1 p (ExcO p C.NoName) = G1 at he hs ⊢
    refine ⟨_, rfl, p, _, _, _, _, rfl, he, R.x, rfl, R.q0, _, rfl, p, _, _, _, _, rfl, he, R.x, rfl, R.q1, _, rfl, p, _, _, _, _, rfl, he, R.x, rfl, R.q2, _, rfl, p, _, _, _, _, rfl, he, R.x, rfl, R.q3, (by show 4 ≤ 1000; decide), fun r1 G2 n2 => ?_⟩
    have h2 : G2 r1 = some (.lst ((only4 1).map V.bl)) := n2.here
    refine ⟨_, rfl, .inl ⟨rfl, _, SqL.of h2⟩, r1, only4 1, rfl, rfl, h2, rfl, _, rfl, ?_⟩
    rw [show (!decide (V.int (((only4 1).countP id : Nat) : Int) = V.int 1)) = false by decide]
    refine iteF ⟨_, rfl, p, _, _, _, _, rfl, n2.same _ _ he, R.x, rfl, R.v, _, rfl, iteF ?_⟩
    refine ⟨_, rfl, .inl ⟨rfl, _, SqL.of h2⟩, r1, _, _, .bool true, (only4 1).map PyData.bool, 1, rfl, rfl, h2, .bl true, isDs_bls _, rfl, (by decide), (by show 4 ≤ 1000; decide), (by show 1 < 4; decide), (by decide), (by decide), (by show 1 ≤ 1000; decide), fun r3 G3 n3 => ?_⟩
    exact badN ar bn r3 G3 (s1.trans (hs.trans (n2.same.trans n3.same))) n3.here
end

abbrev s__law_same : Stmt := top 27
theorem sc__law_same : FnScope ["_law_found", "_law_rows", "_law_k", "_law_up", "_law_places", "_law_place"] ["_law_found", "_law_rows"] (defScope s__law_same) := ⟨rfl, rfl, rfl, by decide +kernel, rfl, by decide +kernel, by decide +kernel⟩
def FdE (H : Hp) (v : V) (r : Row) : Prop := ∃ (pt b : Addr) (zs : List Int), v = .ref pt ∧ H pt = some (.tup [upV r.1, .ref b]) ∧ H b = some (.lst (zs.map V.int)) ∧ zs.Perm r.2 ∧ zs.Pairwise (· ≤ ·)
theorem le_eq : ∀ {zs ps : List Int}, zs.Perm ps → zs.Pairwise (· ≤ ·) → ps.Pairwise (· ≤ ·) → zs = ps
  | [], ps, pm, _, _ => (List.nil_perm.mp pm).symm ▸ rfl
  | z :: zs, [], pm, _, _ => absurd pm.length_eq (by simp)
  | z :: zs, p :: ps, pm, hz, hp => by
    obtain ⟨z1, z2⟩ := List.pairwise_cons.mp hz
    obtain ⟨p1, p2⟩ := List.pairwise_cons.mp hp
    have e : z = p := by
      have m1 : z ∈ p :: ps := pm.mem_iff.mp List.mem_cons_self
      have m2 : p ∈ z :: zs := pm.mem_iff.mpr List.mem_cons_self
      rcases List.mem_cons.mp m1 with e | m1
      · exact e
      · rcases List.mem_cons.mp m2 with e | m2
        · exact e.symm
        · have := p1 z m1
          have := z1 p m2
          omega
    subst e
    rw [le_eq (List.Perm.cons_inv pm) z2 p2]
def spSame82 (K : PySem.W.Frag) : Sp := fun vs H Q _ => ∃ (p q' : Addr) (xs : List V) (rs : List Row), vs = [.ref p, .ref q'] ∧ H p = some (.lst xs) ∧ Paired (FdE H) xs rs ∧ RowsE H q' rs ∧ rs.length ≤ 8 ∧ (∀ r ∈ rs, r.2.length ≤ 10) ∧ ∀ H', Same H H' → Q (.bl true) H'
theorem isDs_ints {K : PySem.W.Frag} {H : Hp} : ∀ ns : List Int, IsDs K H (ns.map V.int) (ns.map PyData.int)
  | [] => .nil
  | n :: r => .cons (.int n) (isDs_ints r)
theorem depth_ints (ns : List Int) : PyData.depthAll (ns.map PyData.int) = 0 := by
  induction ns with
  | nil => rfl
  | cons a r ih => rw [List.map_cons, PyData.depthAll, ih]; rfl
theorem can_ints (ns : List Int) : PyData.canLayAll0 (ns.map PyData.int) = true := by
  induction ns with
  | nil => rfl
  | cons a r ih => rw [List.map_cons, PyData.canLayAll0, ih]; rfl
theorem shaped_intsL (ns : List Int) : SeqAt.shaped (.list (ns.map PyData.int)) = true := by
  unfold SeqAt.shaped
  rw [PyData.canLay0, can_ints, PyData.depth, depth_ints]
  decide
section
variable {P : Program} {w : World} {K : PySem.W.Frag} {mg : Str → Option Value} {base : Heap}
set_option maxHeartbeats 4000000 in
theorem ok__law_same (B : Bl mg) (d__law_same : Dn K mg "_law_same" s__law_same ["_law_found", "_law_rows"]) : FnOk P w K mg base CX0 1 d__law_same.f d__law_same.fd ["_law_found", "_law_rows"] (spSame82 K) := by
  refine d__law_same.F.ok sc__law_same (fun vs H Q E h => ?_) (fun cdv A outer s H vs Q E hr h => ?_)
  · obtain ⟨p, q', xs, rs, rfl, _⟩ := h
    rfl
  obtain ⟨p, q', xs, rs, rfl, hp, px, ⟨ys, hq, py⟩, l8, l10, q⟩ := h
  have hu : (A.deeper (PyProof.Rows.envOfC "_law_same" (defScope s__law_same) s.heap.objs.size d__law_same.f cdv)).units + 64 < cLine := by have := hr.un; omega
  have lx := Paired.length px
  have ly := Paired.length py
  have k1 : PySem.W.kitOne K (.type "list") (.type "list") = some true := by rfl
  have k2 : PySem.W.kitOne K (.type "tuple") (.type "tuple") = some true := by rfl
  refine ⟨_, (PSsw.h (pssw_cons ⟨(ps_if (PW.pt (pw_or (pt_not (pt_truthK (K := K) rfl (pe_callB (call_isinstK (K := K) rfl) rfl B.isinstance (by decide +kernel) (pa_cons (pv 0) (pa_cons (pe_bltn (v := .ty "list") (u := .type "list") rfl B.list (by decide +kernel) rfl) pa_nil))) (fun _ => rfl))) (pw_or1 (pt_cmpR op_ne (pe_callB (call_lenK (K := K) rfl) rfl B.len (by decide +kernel) (pa_cons (pv 0) pa_nil)) (pe_callB (call_lenK (K := K) rfl) rfl B.len (by decide +kernel) (pa_cons (pv 1) pa_nil)) (nomark _)))))
      (pss_one (ps_ret pe_bl))
      pss_nil)⟩
      (pssw_cons ⟨(ps_for PassesOwn.never rfl (pi_range1 rfl B.range (pa_cons (pe_callB (call_lenK (K := K) rfl) rfl B.len (by decide +kernel) (pa_cons (pv 1) pa_nil)) pa_nil)) (pg_name (i := 2) sc__law_same.nd rfl (Or.inl rfl))
      (pss_cons (ps_asg (pe_ix (ix_listK (K := K) rfl) (pv 1) (pv 2) (fun _ _ => rfl)) (pg_tupK (K := K) (n := 2) rfl rfl (pgs_cons (pg_name (i := 3) sc__law_same.nd rfl (Or.inl rfl)) (pgs_cons (pg_name (i := 4) sc__law_same.nd rfl (Or.inl rfl)) pgs_nil))))
      (pss_cons (ps_if (PW.pt (pw_or (pt_not (pt_truthK (K := K) rfl (pe_callB (call_isinstK (K := K) rfl) rfl B.isinstance (by decide +kernel) (pa_cons (pe_ix (ix_listK (K := K) rfl) (pv 0) (pv 2) (fun _ _ => rfl)) (pa_cons (pe_bltn (v := .ty "tuple") (u := .type "tuple") rfl B.tuple (by decide +kernel) rfl) pa_nil))) (fun _ => rfl))) (pw_or (pt_cmpR op_ne (pe_callB (call_lenK (K := K) rfl) rfl B.len (by decide +kernel) (pa_cons (pe_ix (ix_listK (K := K) rfl) (pv 0) (pv 2) (fun _ _ => rfl)) pa_nil)) pe_int (nomark _)) (pw_or1 (pt_not (pt_truthK (K := K) rfl (pe_callB (call_isinstK (K := K) rfl) rfl B.isinstance (by decide +kernel) (pa_cons (pe_ix (ix_tupK (K := K) rfl) (pe_ix (ix_listK (K := K) rfl) (pv 0) (pv 2) (fun _ _ => rfl)) pe_int (fun _ _ => rfl)) (pa_cons (pe_bltn (v := .ty "list") (u := .type "list") rfl B.list (by decide +kernel) rfl) pa_nil))) (fun _ => rfl)))))))
      (pss_one (ps_ret pe_bl))
      pss_nil)
      (pss_cons (ps_if (PW.pt (pw_or (PW.pt (pw_and (pt_cmpR op_isN (pv 3) pe_non (nomark _)) (pw_and1 (pt_cmpR op_notN (pe_ix (ix_tupK (K := K) rfl) (pe_ix (ix_listK (K := K) rfl) (pv 0) (pv 2) (fun _ _ => rfl)) pe_int (fun _ _ => rfl)) pe_non (nomark _))))) (pw_or1 (pt_cmpR (op_neDK (K := K) rfl hu) (pe_ix (ix_tupK (K := K) rfl) (pe_ix (ix_listK (K := K) rfl) (pv 0) (pv 2) (fun _ _ => rfl)) pe_int (fun _ _ => rfl)) (pe_callB (call_sortedI (K := K) rfl) rfl B.sorted (by decide +kernel) (pa_cons (pv 4) pa_nil)) (nomark _)))))
      (pss_one (ps_ret pe_bl))
      pss_nil)
      (pss_cons (ps_if (PW.pt (pw_and (pt_cmpR op_notN (pv 3) pe_non (nomark _)) (pw_and1 (PW.pt (pw_or (pt_not (pt_truthK (K := K) rfl (pe_callB (call_isinstK (K := K) rfl) rfl B.isinstance (by decide +kernel) (pa_cons (pe_ix (ix_tupK (K := K) rfl) (pe_ix (ix_listK (K := K) rfl) (pv 0) (pv 2) (fun _ _ => rfl)) pe_int (fun _ _ => rfl)) (pa_cons (pe_bltn (v := .ty "int") (u := .type "int") rfl B.int (by decide +kernel) rfl) pa_nil))) (fun _ => rfl))) (pw_or1 (pt_cmpR op_ne (pe_ix (ix_tupK (K := K) rfl) (pe_ix (ix_listK (K := K) rfl) (pv 0) (pv 2) (fun _ _ => rfl)) pe_int (fun _ _ => rfl)) (pv 3) (nomark _))))))))
      (pss_one (ps_ret pe_bl))
      pss_nil)
      (pss_one (ps_for PassesOwn.never rfl (pi_listK (K := K) rfl (pe_op op_catN (pe_ix (ix_tupK (K := K) rfl) (pe_ix (ix_listK (K := K) rfl) (pv 0) (pv 2) (fun _ _ => rfl)) pe_int (fun _ _ => rfl)) (pe_lstN (pa_cons (pe_ix (ix_tupK (K := K) rfl) (pe_ix (ix_listK (K := K) rfl) (pv 0) (pv 2) (fun _ _ => rfl)) pe_int (fun _ _ => rfl)) pa_nil)))) (pg_name (i := 5) sc__law_same.nd rfl (Or.inl rfl))
      (pss_one (ps_if (pt_truthK (K := K) rfl (pe_callB (call_isinstK (K := K) rfl) rfl B.isinstance (by decide +kernel) (pa_cons (pv 5) (pa_cons (pe_bltn (v := .ty "bool") (u := .type "bool") rfl B.bool (by decide +kernel) rfl) pa_nil))) (fun _ => rfl))
      (pss_one (ps_ret pe_bl))
      pss_nil)))))))))⟩
      (pssw_cons ⟨(ps_ret pe_bl)⟩
      pssw_nil)))), ?_⟩
  refine ⟨_, rfl, _, _, _, _, _, rfl, rfl, TyOf.lst hp, k1, _, rfl, iteF ?_⟩
  refine ⟨_, rfl, p, _, rfl, .inl (SqL.of hp), _, rfl, q', _, rfl, .inl (SqL.of hq), rfl, _, rfl, ?_⟩
  rw [lx, ly, show (!decide (V.int ((rs.length : Nat) : Int) = V.int ((rs.length : Nat) : Int))) = false by rw [decide_eq_true rfl]; rfl]
  refine iteF ?_
  refine ⟨_, rfl, q', _, rfl, .inl (SqL.of hq), _, rfl, by omega, by omega, ?_⟩
  rw [Int.toNat_natCast]
  refine for_range (n := ys.length) (fun i σ G => (∃ o2 o3 o4 o5 : Option V, σ = [some (.ref p), some (.ref q'), o2, o3, o4, o5]) ∧ Same H G) ⟨⟨none, none, none, none, rfl⟩, Same.refl _⟩ ?_ ?_
  · rintro i σ G hi ⟨⟨o2, o3, o4, o5, rfl⟩, sG⟩
    have ei : (0 + (i : Int)) = ((i : Nat) : Int) := by omega
    rw [ei]
    obtain ⟨y, hy⟩ : ∃ y, ys[i]? = some y := ⟨ys[i], List.getElem?_eq_getElem hi⟩
    obtain ⟨r, hr1, pt, b, rfl, hT, hb, _⟩ := paired_get py hy
    obtain ⟨x, hx, pt2, b2, zs, rfl, hT2, hb2, pm, le⟩ := paired_getr px hr1
    have l10r := l10 r (List.mem_of_getElem? hr1)
    have lz : zs.length = r.2.length := pm.length_eq
    have hp' := SqL.of (K := K) (sG _ _ hp)
    have f1 : SqT K G pt2 [upV r.1, .ref b2] := SqT.of (sG _ _ hT2)
    refine ⟨_, rfl, _, rfl, q', _, _, _, rfl, rfl, SqL.of (sG _ _ hq), atI_nat hy, pt, _, rfl, SqT.of (sG _ _ hT), rfl, _, _, rfl, _, _, rfl, rfl, ?_⟩
    refine ⟨_, rfl, _, rfl, p, _, _, _, rfl, rfl, hp', atI_nat hx, _, _, _, _, _, rfl, rfl, TyOf.tup (sG _ _ hT2), k2, _, rfl, iteF ?_⟩
    refine ⟨_, rfl, _, rfl, p, _, _, _, rfl, rfl, hp', atI_nat hx, pt2, _, rfl, .inr f1, rfl, _, rfl, iteF ?_⟩
    refine ⟨_, rfl, _, rfl, p, _, _, _, rfl, rfl, hp', atI_nat hx, pt2, _, _, _, rfl, rfl, f1, rfl, _, _, _, _, _, rfl, rfl, TyOf.lst (sG _ _ hb2), k1, _, rfl, iteF ?_⟩
    obtain ⟨u, ps⟩ := r
    have kn : PySem.W.kitOne K (.type "NoneType") (.type "bool") = some false := by rfl
    cases u with
    | none =>
      dsimp only [tNext, tSeq, tIfS]
      refine ⟨_, rfl, rfl, _, rfl, iteT ?_⟩
      refine ⟨_, rfl, _, rfl, p, _, _, _, rfl, rfl, hp', atI_nat hx, pt2, _, _, _, rfl, rfl, f1, rfl, rfl, _, rfl, iteF ?_⟩
      refine ⟨_, rfl, _, rfl, p, _, _, _, rfl, rfl, hp', atI_nat hx, pt2, _, _, _, rfl, rfl, f1, rfl, _, rfl, b, ps, rfl, SqL.of (sG _ _ hb), (by show ps.length < 64; have : ps.length ≤ 10 := l10r; omega), fun p5 G5 ws n5 pw le5 => ?_⟩
      have ew : zs = ws := le_eq (pm.trans pw.symm) le le5
      subst ew
      have s5 := sG.trans n5.same
      refine ⟨.list (zs.map PyData.int), .list (zs.map PyData.int), .lst (SqL.of (s5 _ _ hb2)) (isDs_ints zs), .lst (SqL.of n5.here) (isDs_ints zs), shaped_intsL zs, shaped_intsL zs, _, rfl, ?_⟩
      rw [if_pos rfl, eqv_self (shaped_intsL zs)]
      refine iteF ?_
      have hp5 := SqL.of (K := K) (s5 _ _ hp)
      have f5 : SqT K G5 pt2 [.non, .ref b2] := SqT.of (s5 _ _ hT2)
      refine ⟨_, rfl, rfl, _, rfl, iteF (iteF ?_)⟩
      refine ⟨_, rfl, _, rfl, p, _, _, _, rfl, rfl, hp5, atI_nat hx, pt2, _, _, _, rfl, rfl, f5, rfl, _, rfl, _, rfl, p, _, _, _, rfl, rfl, hp5, atI_nat hx, pt2, _, _, _, rfl, rfl, f5, rfl, (by show 1 ≤ 1000; decide), fun p6 G6 n6 => ⟨b2, p6, _, _, rfl, rfl, n6.same _ _ (s5 _ _ hb2), n6.here, (by rw [List.length_map]; show zs.length + 1 ≤ 1000; have : zs.length = ps.length := lz; have : ps.length ≤ 10 := l10r; omega), fun p7 G7 n7 => ⟨p7, rfl, ⟨_, SqL.of n7.here⟩, ?_⟩⟩⟩
      have s7 := s5.trans (n6.same.trans n7.same)
      refine for_list (xs := zs.map V.int ++ [V.non]) (fun j σ G' => (∃ o5 : Option V, σ = [some (.ref p), some (.ref q'), some (.int (i : Nat)), some (V.non), some (.ref b), o5]) ∧ G' = G7) ⟨⟨_, rfl⟩, rfl⟩ (fun j σ G' _ ⟨_, e⟩ => by rw [e]; exact SqL.of n7.here) ?_ ?_
      · rintro j x σ G' hxj ⟨⟨o5', rfl⟩, rfl⟩
        have xm := List.mem_of_getElem? hxj
        rcases List.mem_append.mp xm with xm | xm
        · obtain ⟨v, _, rfl⟩ := List.mem_map.mp xm
          exact ⟨_, rfl, _, _, _, _, _, rfl, rfl, TyOf.int _, kit_int_bool, _, rfl, iteF ⟨⟨_, rfl⟩, rfl⟩⟩
        · rw [List.mem_singleton.mp xm]
          exact ⟨_, rfl, _, _, _, _, _, rfl, rfl, TyOf.non, kn, _, rfl, iteF ⟨⟨_, rfl⟩, rfl⟩⟩
      · rintro σ G' ⟨⟨o5', rfl⟩, rfl⟩
        exact ⟨⟨_, _, _, _, rfl⟩, s7⟩
    | some k =>
      dsimp only [tNext, tSeq, tIfS]
      refine ⟨_, rfl, rfl, _, rfl, iteF (iteF ?_)⟩
      refine ⟨_, rfl, _, rfl, p, _, _, _, rfl, rfl, hp', atI_nat hx, pt2, _, _, _, rfl, rfl, f1, rfl, _, rfl, b, ps, rfl, SqL.of (sG _ _ hb), (by show ps.length < 64; have : ps.length ≤ 10 := l10r; omega), fun p5 G5 ws n5 pw le5 => ?_⟩
      have ew : zs = ws := le_eq (pm.trans pw.symm) le le5
      subst ew
      have s5 := sG.trans n5.same
      refine ⟨.list (zs.map PyData.int), .list (zs.map PyData.int), .lst (SqL.of (s5 _ _ hb2)) (isDs_ints zs), .lst (SqL.of n5.here) (isDs_ints zs), shaped_intsL zs, shaped_intsL zs, _, rfl, ?_⟩
      rw [if_pos rfl, eqv_self (shaped_intsL zs)]
      refine iteF ?_
      have hp5 := SqL.of (K := K) (s5 _ _ hp)
      have f5 : SqT K G5 pt2 [.int k, .ref b2] := SqT.of (s5 _ _ hT2)
      refine ⟨_, rfl, rfl, _, rfl, iteT ?_⟩
      refine ⟨_, rfl, _, rfl, p, _, _, _, rfl, rfl, hp5, atI_nat hx, pt2, _, _, _, rfl, rfl, f5, rfl, _, _, _, _, _, rfl, rfl, TyOf.int _, kit_int_int, _, rfl, iteF ?_⟩
      refine ⟨_, rfl, _, rfl, p, _, _, _, rfl, rfl, hp5, atI_nat hx, pt2, _, _, _, rfl, rfl, f5, rfl, _, rfl, rfl, _, rfl, ?_⟩
      refine ite2 (fun z => by rw [Bool.not_eq_true'] at z; exact absurd rfl (of_decide_eq_false z)) (fun _ => ?_)
      refine ⟨_, rfl, _, rfl, p, _, _, _, rfl, rfl, hp5, atI_nat hx, pt2, _, _, _, rfl, rfl, f5, rfl, _, rfl, _, rfl, p, _, _, _, rfl, rfl, hp5, atI_nat hx, pt2, _, _, _, rfl, rfl, f5, rfl, (by show 1 ≤ 1000; decide), fun p6 G6 n6 => ⟨b2, p6, _, _, rfl, rfl, n6.same _ _ (s5 _ _ hb2), n6.here, (by rw [List.length_map]; show zs.length + 1 ≤ 1000; have : zs.length = ps.length := lz; have : ps.length ≤ 10 := l10r; omega), fun p7 G7 n7 => ⟨p7, rfl, ⟨_, SqL.of n7.here⟩, ?_⟩⟩⟩
      have s7 := s5.trans (n6.same.trans n7.same)
      refine for_list (xs := zs.map V.int ++ [V.int k]) (fun j σ G' => (∃ o5 : Option V, σ = [some (.ref p), some (.ref q'), some (.int (i : Nat)), some (V.int k), some (.ref b), o5]) ∧ G' = G7) ⟨⟨_, rfl⟩, rfl⟩ (fun j σ G' _ ⟨_, e⟩ => by rw [e]; exact SqL.of n7.here) ?_ ?_
      · rintro j x σ G' hxj ⟨⟨o5', rfl⟩, rfl⟩
        have xm := List.mem_of_getElem? hxj
        rcases List.mem_append.mp xm with xm | xm
        · obtain ⟨v, _, rfl⟩ := List.mem_map.mp xm
          exact ⟨_, rfl, _, _, _, _, _, rfl, rfl, TyOf.int _, kit_int_bool, _, rfl, iteF ⟨⟨_, rfl⟩, rfl⟩⟩
        · rw [List.mem_singleton.mp xm]
          exact ⟨_, rfl, _, _, _, _, _, rfl, rfl, TyOf.int _, kit_int_bool, _, rfl, iteF ⟨⟨_, rfl⟩, rfl⟩⟩
      · rintro σ G' ⟨⟨o5', rfl⟩, rfl⟩
        exact ⟨⟨_, _, _, _, rfl⟩, s7⟩
  · rintro σ G ⟨⟨o2, o3, o4, o5, rfl⟩, sG⟩
    exact q G sG
end

end K


namespace K
open PySem L2 Lw Bg Tx
/-- an expression, kept as it stands -/
structure PEw (X : Cx) (e : Expr) (t : TE) : Prop where
  h : PE X e t
theorem pew_op {X : Cx} {a b : Expr} {ta tb : TE} {op : Operator} {r : R2} {pos : Pos} (ho : OpR X (binaryOp op) r) (ha : PEw X a ta) (hb : PEw X b tb) : PEw X (.BinOp a op b pos) (tOp r ta tb) := ⟨pe_op ho ha.h hb.h⟩
theorem pew_ixl {X : Cx} {K : PySem.W.Frag} {es : List Expr} {i : Expr} {t : TA} {ti : TE} {p pos : Pos} (e : X.K = K) (h : PAw X es t) (hi : PEw X i ti) (hs : PlainIx i) : PEw X (.Subscript (.List es p) i pos) (tOp (rIxL K) (tLstN t) ti) := ⟨pe_ix (ix_listK e) (pe_lstN h.h) hi.h hs⟩
theorem psw_ifr {X : Cx} {c e : Expr} {tc : TT} {te : TE} {rp pos : Pos} (hc : PT X c tc) (he : PEw X e te) : PSw X (.If c [.Return (some e) rp] [] pos) (tIfS tc (tRet te) tNext) := ⟨ps_if hc (pss_one (ps_ret he.h)) pss_nil⟩
theorem paw_bin {X : Cx} {a b : Expr} {op : Operator} {p : Pos} {te : TE} {es : List Expr} {t : TA} (h : PEw X (.BinOp a op b p) te) (hr : PAw X es t) : PAw X (.BinOp a op b p :: es) (tCons te t) := ⟨pa_cons h.h hr.h (by rfl)⟩

def NmLike (w : List Nat) : Prop := (1 ≤ w.length ∧ w.length ≤ 6) ∧ ∀ c ∈ w, 97 ≤ c ∧ c ≤ 122
instance (w : List Nat) : Decidable (NmLike w) := by unfold NmLike; exact inferInstance
def restL (ws : List (List Nat)) : List Nat := ws.flatMap fun l => 32 :: l
def lnT (u : List Nat) (ws : List (List Nat)) : List Nat := u ++ 58 :: restL ws
structure LnOk (u : List Nat) (ws : List (List Nat)) : Prop where
  up : u = [45] ∨ ((1 ≤ u.length ∧ u.length ≤ 30) ∧ ∀ c ∈ u, 48 ≤ c ∧ c ≤ 57)
  ok : ∀ w ∈ ws, NmLike w
  few : ws.length ≤ 11
def RestOk (r : List Nat) : Prop := ∃ ws, (∀ w ∈ ws, NmLike w) ∧ r = restL ws
theorem like_of {w : Str} (h : nameOk w = true) : NmLike (cL w) := by
  unfold nameOk at h
  rw [Bool.and_eq_true, Bool.and_eq_true, decide_eq_true_iff, decide_eq_true_iff] at h
  obtain ⟨⟨h1, h2⟩, h3⟩ := h
  refine ⟨by rw [cL_len]; omega, fun c hc => ?_⟩
  rw [← Array.all_toList, List.all_eq_true] at h3
  exact of_decide_eq_true (h3 c hc)
theorem rest_snoc (v : List (List Nat)) (w : List Nat) : restL (v ++ [w]) = restL v ++ 32 :: w := by
  unfold restL
  rw [List.flatMap_append, List.flatMap_cons, List.flatMap_nil, List.append_nil]
theorem rest_char {ws : List (List Nat)} (h : ∀ w ∈ ws, NmLike w) : ∀ c ∈ restL ws, c = 32 ∨ (97 ≤ c ∧ c ≤ 122) := fun c hc => by
  obtain ⟨l, hl, hc⟩ := List.mem_flatMap.mp hc
  rcases List.mem_cons.mp hc with e | hc
  · exact .inl e
  · exact .inr ((h l hl).2 c hc)
theorem rest_len {ws : List (List Nat)} (h : ∀ w ∈ ws, NmLike w) : (restL ws).length ≤ 7 * ws.length := by
  induction ws with
  | nil => exact Nat.zero_le _
  | cons a t ih =>
    have h1 := ih fun x hx => h x (List.mem_cons_of_mem _ hx)
    have h2 := (h a List.mem_cons_self).1.2
    unfold restL at h1 ⊢
    rw [List.flatMap_cons, List.length_append, List.length_cons, List.length_cons]
    omega
theorem last_cut {c : Nat} {a b w q : List Nat} (hw : c ∉ w) (hq : c ∉ q) (e : a ++ c :: w = b ++ c :: q) : w = q := by
  have e2 := congrArg List.reverse e
  rw [List.reverse_append, List.reverse_append, List.reverse_cons, List.reverse_cons, List.append_assoc, List.append_assoc] at e2
  have e3 : w.reverse ++ c :: a.reverse = q.reverse ++ c :: b.reverse := e2
  have := (cut_at (by simpa using hw) (by simpa using hq) e3).1
  simpa using congrArg List.reverse this
theorem rowB_rest {u r : List Nat} (hu : 58 ∉ u) (h : rowB (sT (u ++ 58 :: r)) = true) : isUpB (sT u) = true ∧ RestOk r := by
  have ep : partZ (sT (u ++ 58 :: r)) = (sT u, sT [58], sT r) := by
    unfold partZ
    rw [colon_t]
    exact part_one hu
  have hn := row_names h
  unfold rowB at h
  rw [Bool.not_eq_true', Bool.or_eq_false_iff, Bool.or_eq_false_iff, Bool.or_eq_false_iff, Bool.not_eq_false', ep] at h
  obtain ⟨h1, _, h3, _⟩ := h
  refine ⟨h1, ?_⟩
  have ne := (ws_len (sT (u ++ 58 :: r))).1
  have ej : Str.join (Str.ofString " ") (wsZ (sT (u ++ 58 :: r))) = sT r := by
    unfold wsZ
    rw [ep]
    exact PySem.StrLaws.join_split _ _
  cases ew : wsZ (sT (u ++ 58 :: r)) with
  | nil => exact absurd ew ne
  | cons w0 ws =>
    rw [ew] at h3 hn ej
    have l0 : w0.length = 0 := by
      have : ((w0.length : Int) != 0) = false := h3
      simpa using this
    have c0 : cL w0 = [] := List.length_eq_zero_iff.mp (by rw [cL_len]; exact l0)
    have := join_cL (Str.ofString " ") w0 ws
    rw [show Txt.join (Str.ofString " ") (w0 :: ws) = Str.join (Str.ofString " ") (w0 :: ws) from PySem.StrLaws.glued_eq_join _ _, ej, cL_sT, c0, List.nil_append, blank_t, cL_sT] at this
    refine ⟨ws.map cL, fun w hw => ?_, ?_⟩
    · obtain ⟨y, hy, rfl⟩ := List.mem_map.mp hw
      exact like_of (hn y hy)
    · rw [this]
      unfold restL
      rw [List.flatMap_map]
      rfl
theorem row_none {z : Str} (h : 58 ∉ cL z) : rowB z = false := by
  unfold rowB
  rw [part_none h]
  have : ((((z, Str.empty, Str.empty) : Str × Str × Str).2.1.length : Int) != 0) = false := by show ((Str.empty.length : Int) != 0) = false; decide
  rw [this]
  simp
theorem row_up {u r : List Nat} (hu : 58 ∉ u) (h : isUpB (sT u) = false) : rowB (sT (u ++ 58 :: r)) = false := Bool.eq_false_iff.mpr fun z => by
  have := (rowB_rest hu z).1
  rw [h] at this
  cases this
theorem row_rest {u r : List Nat} (hu : 58 ∉ u) (h : ¬ RestOk r) : rowB (sT (u ++ 58 :: r)) = false := Bool.eq_false_iff.mpr fun z => h (rowB_rest hu z).2
theorem char_bad {r : List Nat} {c : Nat} (hc : c ∈ r) (h1 : c ≠ 32) (h2 : ¬ (97 ≤ c ∧ c ≤ 122)) : ¬ RestOk r := fun ⟨ws, h, e⟩ => by
  rw [e] at hc
  rcases rest_char h c hc with z | z
  · exact h1 z
  · exact h2 z
theorem word_bad {r q : List Nat} (hq : 32 ∉ q) (bad : ¬ NmLike q) : ¬ RestOk (r ++ 32 :: q) := fun ⟨ws, h, e⟩ => by
  rcases List.eq_nil_or_concat ws with z | ⟨v, w, z⟩
  · rw [z] at e
    exact absurd e (by simp [restL])
  · rw [z, List.concat_eq_append] at e h
    rw [rest_snoc] at e
    have hw := h w (List.mem_append_right _ List.mem_cons_self)
    have nw : 32 ∉ w := fun x => by have := hw.2 32 x; omega
    exact bad (last_cut nw hq e.symm ▸ hw)
theorem empty_bad {r : List Nat} : ¬ RestOk (r ++ [32]) := word_bad (q := []) List.not_mem_nil (by decide)
theorem head_bad {c : Nat} {r : List Nat} (hc : c ≠ 32) : ¬ RestOk (c :: r) := fun ⟨ws, h, e⟩ => by
  cases ws with
  | nil => cases e
  | cons w ws =>
    unfold restL at e
    rw [List.flatMap_cons] at e
    exact hc (List.cons.inj e).1
theorem up_blank {u : List Nat} (h : 1 ≤ u.length) : isUpB (sT (u ++ [32])) = false := by
  unfold isUpB
  rw [Bool.or_eq_false_iff]
  refine ⟨decide_eq_false fun z => ?_, ?_⟩
  · rw [dash_t] at z
    have := congrArg List.length (sT_inj (V.str.inj z))
    rw [List.length_append] at this
    have e : u.length + 1 = 1 := this
    omega
  · unfold numOk
    have : allFig (sT (u ++ [32])) = false := by
      unfold allFig
      rw [← Array.all_toList]
      refine Bool.eq_false_iff.mpr fun z => ?_
      have := List.all_eq_true.mp z 32 (show 32 ∈ cL (sT (u ++ [32])) by rw [cL_sT]; exact List.mem_append_right _ List.mem_cons_self)
      exact absurd this (by decide)
    rw [this, Bool.and_false, Bool.false_and]
def badUps : List (List Nat) := [[48, 48], [48, 49], [], [43, 49], [45, 45], [49, 32], [32, 49], [120], List.replicate 31 49, [45, 49]]
theorem bad_ups : ∀ u ∈ badUps, isUpB (sT u) = false ∧ 58 ∉ u ∧ u.length ≤ 31 ∧ 59 ∉ u := by decide +kernel
def badWs : List (List Nat) := [[65], [97, 49], [97, 45, 98], [97, 58, 98], [55], [45], [97, 95], [97, 98, 99, 100, 101, 102, 103]]
theorem bad_ws : ∀ w ∈ badWs, ¬ NmLike w ∧ 32 ∉ w ∧ w.length ≤ 7 ∧ 59 ∉ w := by decide +kernel
theorem bad_ws_t : [V.str (Str.ofString "A"), V.str (Str.ofString "a1"), V.str (Str.ofString "a-b"), V.str (Str.ofString "a:b"), V.str (Str.ofString "7"), V.str (Str.ofString "-"), V.str (Str.ofString "a_"), V.str (Str.ofString "abcdefg")] = badWs.map fun l => V.str (sT l) := by decide +kernel
theorem bad_ups_t : [V.str (Str.ofString "00"), V.str (Str.ofString "01"), V.str (Str.ofString ""), V.str (Str.ofString "+1"), V.str (Str.ofString "--"), V.str (Str.ofString "1 "), V.str (Str.ofString " 1"), V.str (Str.ofString "x"), V.str ⟨((List.replicate 31 [49]).flatMap id).toArray⟩, V.str (Str.ofString "-1")] = badUps.map fun l => V.str (sT l) := by decide +kernel
theorem cutT_lo (l : List Nat) (k : Nat) : cutT l none (some (k : Int)) = l.take k := by
  unfold cutT
  have e1 : HT.sIx l.length l.length (some (k : Int)) = min k l.length := HT.sIx_nat _ _ k
  have e2 : HT.sIx l.length 0 none = 0 := rfl
  rw [e1, e2, List.drop_zero, Nat.sub_zero]
  rcases Nat.le_total k l.length with c | c
  · rw [Nat.min_eq_left c]
  · rw [Nat.min_eq_right c, List.take_length, List.take_of_length_le c]
theorem cutT_hi (l : List Nat) (k : Nat) : cutT l (some (k : Int)) none = l.drop k := by
  unfold cutT
  have e1 : HT.sIx l.length 0 (some (k : Int)) = min k l.length := HT.sIx_nat _ _ k
  have e2 : HT.sIx l.length l.length none = l.length := rfl
  rw [e1, e2]
  rcases Nat.le_total k l.length with c | c
  · rw [Nat.min_eq_left c, List.take_of_length_le (by rw [List.length_drop]; omega)]
  · rw [Nat.min_eq_right c, Nat.sub_self, List.take_zero, List.drop_of_length_le c]
theorem occ_colon {u r : List Nat} (fu : 58 ∉ u) : ∃ rest, Builtin.Str.occurrences (sT (u ++ 58 :: r)) (Str.ofString ":") 0 (sT (u ++ 58 :: r)).length 1 = u.length :: rest := by
  rw [colon_t]
  have at_ : ∀ j, PySem.StrLaws.At (sT (u ++ 58 :: r)) (sT [58]) (sT (u ++ 58 :: r)).length j ↔ (u ++ 58 :: r)[j]? = some 58 := fun j => PySem.StrLaws.subAt_one _ 58 j
  rcases PySem.StrLaws.occ_head (sT (u ++ 58 :: r)) (sT [58]) 1 (Nat.le_refl _) with ⟨_, hn⟩ | ⟨i, t, e, hA, hn⟩
  · exact absurd ((at_ u.length).mpr (by rw [List.getElem?_append_right (Nat.le_refl _), Nat.sub_self]; rfl)) (hn _)
  · have hi := (at_ i).mp hA
    have i1 : ¬ i < u.length := fun z => by
      rw [List.getElem?_append_left z] at hi
      exact fu (List.mem_of_getElem? hi)
    have i2 : ¬ u.length < i := fun z => hn u.length z ((at_ u.length).mpr (by rw [List.getElem?_append_right (Nat.le_refl _), Nat.sub_self]; rfl))
    have ei : i = u.length := by omega
    exact ⟨t, by rw [e, ei]⟩
theorem LnOk.colon {u : List Nat} {ws : List (List Nat)} (h : LnOk u ws) : 58 ∉ u := fun z => by
  rcases h.up with e | ⟨_, h2⟩
  · rw [e] at z; exact absurd z (by decide)
  · have := h2 58 z; omega
theorem LnOk.semi {u : List Nat} {ws : List (List Nat)} (h : LnOk u ws) : 59 ∉ u ∧ 59 ∉ restL ws := by
  refine ⟨fun z => ?_, fun z => ?_⟩
  · rcases h.up with e | ⟨_, h2⟩
    · rw [e] at z; exact absurd z (by decide)
    · have := h2 59 z; omega
  · rcases rest_char h.ok 59 z with e | e
    · exact absurd e (by decide)
    · omega
theorem LnOk.ulen {u : List Nat} {ws : List (List Nat)} (h : LnOk u ws) : 1 ≤ u.length ∧ u.length ≤ 30 := by
  rcases h.up with e | ⟨h1, _⟩
  · rw [e]; decide
  · exact h1
theorem LnOk.rlen {u : List Nat} {ws : List (List Nat)} (h : LnOk u ws) : (restL ws).length ≤ 77 := by
  have := rest_len h.ok
  have := h.few
  omega
theorem no_last {l : List Nat} (h : 59 ∉ l) : NoCD 59 32 (l ++ [59]) := fun k e1 e2 => by
  by_cases c : k < l.length
  · rw [List.getElem?_append_left c] at e1
    exact h (List.mem_of_getElem? e1)
  · have := (List.getElem?_eq_some_iff.mp e2).1
    rw [List.length_append, List.length_singleton] at this
    omega
theorem replace_none {l : List Nat} {u r : List Nat} (hu : 58 ∉ u) (hr : 58 ∉ r) : cL (Txt.replace (sT (u ++ 58 :: r)) (Str.ofString ":") (Str.ofString "")) = u ++ r := by
  rw [colon_t, empty_t, show sT [58] = (⟨#[58]⟩ : Str) from rfl, PySem.StrLaws.replace_one]
  have e : Txt.split (sT (u ++ 58 :: r)) ⟨#[58]⟩ = [sT u, sT r] := by
    have ej : Str.join ⟨#[58]⟩ [sT u, sT r] = sT (u ++ 58 :: r) := cL_inj (by
      rw [join_two, cL_sT, cL_sT]
      rfl)
    rw [← ej]
    exact split_one (by intro z; cases z) fun p hp => by
      rcases List.mem_cons.mp hp with rfl | hp
      · exact hu
      · rw [List.mem_singleton.mp hp]; exact hr
  rw [e, join_two, cL_sT, cL_sT]
  rfl

end K


namespace K
open PySem L2 Lw Bg Tx
abbrev s__law_bad_line : Stmt := top 25
theorem sc__law_bad_line : FnScope ["_law_script", "_law_line_here", "_law_kind", "_law_at"] ["_law_script", "_law_line_here"] (defScope s__law_bad_line) := ⟨rfl, rfl, rfl, by decide +kernel, rfl, by decide +kernel, by decide +kernel⟩
theorem skipI {A B : Prop} {n c : Int} (h : n ≠ c) (hb : B) : if decide (V.int n = V.int c) = true then A else B := by
  rw [if_neg (by rw [decide_eq_true_iff]; exact fun z => h (V.int.inj z))]
  exact hb
theorem takeI {A B : Prop} {n c : Int} (h : n = c) (ha : A) : if decide (V.int n = V.int c) = true then A else B := by
  rw [if_pos (decide_eq_true (congrArg V.int h))]
  exact ha
def spBad82 (K : PySem.W.Frag) : Sp := fun vs H Q _ => ∃ (a : Addr) (ns : List Int) (u : List Nat) (ws : List (List Nat)), vs = [.ref a, .str (sT (lnT u ws))] ∧ SqL K H a (ns.map V.int) ∧ ns.length ≤ 63 ∧ LnOk u ws ∧ ∀ z H', Same H H' → rowB z = false → NoCD 59 32 (cL z) → z.length ≤ 190 → Q (.str z) H'
section
variable {P : Program} {w : World} {K : PySem.W.Frag} {mg : Str → Option Value} {base : Heap}
set_option maxHeartbeats 4000000 in
theorem ok__law_bad_line (B : Bl mg) (d__law_cell : Dn K mg "_law_cell" s__law_cell ["_law_script", "_law_k"]) (d__law_bad_line : Dn K mg "_law_bad_line" s__law_bad_line ["_law_script", "_law_line_here"]) : FnOk P w K mg base CX0 3 d__law_bad_line.f d__law_bad_line.fd ["_law_script", "_law_line_here"] (spBad82 K) := by
  have G__law_cell : FnOk P w K mg base CX0 2 _ _ _ _ := (ok_cell B d__law_cell).mono (by decide)
  refine d__law_bad_line.F.ok sc__law_bad_line (fun vs H Q E h => ?_) (fun cdv A outer s H vs Q E hr h => ?_)
  · obtain ⟨a, ns, u, ws, rfl, _⟩ := h
    rfl
  obtain ⟨a, ns, u, ws, rfl, hS, h63, L, q⟩ := h
  obtain ⟨u1, u30⟩ := L.ulen
  have r77 := L.rlen
  have cu := L.colon
  have cr : 58 ∉ restL ws := fun z => by
    rcases rest_char L.ok 58 z with e | e
    · exact absurd e (by decide)
    · omega
  obtain ⟨su, sr⟩ := L.semi
  have ll : (lnT u ws).length ≤ 108 := by
    unfold lnT
    rw [List.length_append, List.length_cons]
    omega
  have lz : (sT (lnT u ws)).length ≤ 108 := by rw [sT_len]; exact ll
  have fin : ∀ (z : Str) (l : List Nat) H', cL z = l → Same H H' → rowB (sT l) = false → NoCD 59 32 l → l.length ≤ 190 → Q (.str z) H' := fun z l H' e s h1 h2 h3 => by
    have ez : z = sT l := by rw [← e, sT_cL]
    rw [ez]
    exact q _ H' s h1 (by rw [cL_sT]; exact h2) (by rw [sT_len]; exact h3)
  have tk : (lnT u ws).take u.length = u := List.take_left' rfl
  have tk1 : (lnT u ws).take (u.length + 1) = u ++ [58] := by
    unfold lnT
    rw [List.take_append, List.take_of_length_le (by omega), show u.length + 1 - u.length = 1 by omega]
    rfl
  have dr : (lnT u ws).drop u.length = 58 :: restL ws := List.drop_left' rfl
  have dr1 : (lnT u ws).drop (u.length + 1) = restL ws := by
    rw [← List.drop_drop, dr]
    rfl
  have dr2 : (lnT u ws).drop (u.length + 2) = (restL ws).drop 1 := by
    rw [show u.length + 2 = u.length + 1 + 1 by omega, ← List.drop_drop, dr1]
  have c1 : cutT (lnT u ws) none (some (((u.length + 1 : Nat)) : Int)) = u ++ [58] := by rw [cutT_lo, tk1]
  have c2 : cutT (lnT u ws) (some (((u.length + 1 : Nat)) : Int)) none = restL ws := by rw [cutT_hi, dr1]
  have c3 : cutT (lnT u ws) none (some ((u.length : Nat) : Int)) = u := by rw [cutT_lo, tk]
  have c4 : cutT (lnT u ws) (some ((u.length : Nat) : Int)) none = 58 :: restL ws := by rw [cutT_hi, dr]
  have c5 : cutT (lnT u ws) (some (((u.length + 2 : Nat)) : Int)) none = (restL ws).drop 1 := by rw [cutT_hi, dr2]
  have p1 : ((u.length : Nat) : Int) + 1 = ((u.length + 1 : Nat) : Int) := by omega
  have p2 : ((u.length : Nat) : Int) + 2 = ((u.length + 2 : Nat) : Int) := by omega
  have nof : ∀ {l : List Nat}, 59 ∉ l → NoCD 59 32 l := fun h => NoCD.free h
  have mem3 : ∀ {x : Nat} {a b c : List Nat}, x ∉ a → x ∉ b → x ∉ c → x ∉ a ++ b ++ c := fun h1 h2 h3 z => by
    rcases List.mem_append.mp z with z | z
    · rcases List.mem_append.mp z with z | z
      · exact h1 z
      · exact h2 z
    · exact h3 z
  obtain ⟨rest, oc⟩ := occ_colon (u := u) (r := restL ws) cu
  refine ⟨_, (PSsw.h (pssw_cons ⟨(ps_set (i := 2) sc__law_bad_line.nd rfl (Or.inl rfl) (pe_op op_mod (pe_call G__law_cell hr rfl d__law_cell.m d__law_cell.F.kp d__law_cell.b .nil pass0 (pa_cons (pv 0) (pa_cons pe_int pa_nil))) pe_int))⟩
      (pssw_cons ⟨(ps_set (i := 3) sc__law_bad_line.nd rfl (Or.inl rfl) (pe_bmK (K := K) rfl PySem.F.plainAttrs_str PySem.F.slot_str_index PySem.F.type_str_index mt_indexS (pv 1) (pa_cons pe_str pa_nil)))⟩
      (pssw_cons ⟨ps_ifRep (i := 2) (j := 1) rfl (Or.inl rfl) (by decide) (by decide) rfl (Or.inl rfl) (by decide) (by decide)⟩
      (pssw_cons (psw_ifr (pt_cmpR op_eq (pv 2) pe_int (nomark _)) (pew_op op_add_str (pew_op op_add_str (pew_op op_add_str ⟨(pe_slice sl_strE (pv 1) po_none (po_some (pe_op op_add (pv 3) pe_int)))⟩ ⟨pe_str⟩) ⟨(pe_slice sl_strE (pv 1) (po_some (pe_op op_add (pv 3) pe_int)) po_none)⟩) ⟨pe_str⟩))
      (pssw_cons (psw_ifr (pt_cmpR op_eq (pv 2) pe_int (nomark _)) (pew_op op_add_str (pew_op op_add_str ⟨(pv 1)⟩ ⟨pe_str⟩) (pew_ixl (K := K) rfl (paw_str (paw_str (paw_str (paw_str (paw_str (paw_str (paw_str (paw_str paw_nil)))))))) ⟨(pe_op op_mod (pe_call G__law_cell hr rfl d__law_cell.m d__law_cell.F.kp d__law_cell.b .nil pass0 (pa_cons (pv 0) (pa_cons pe_int pa_nil))) pe_int)⟩ (fun _ _ => rfl))))
      (pssw_cons (psw_ifr (pt_cmpR op_eq (pv 2) pe_int (nomark _)) (pew_op op_add_str (pew_ixl (K := K) rfl (paw_str (paw_str (paw_str (paw_str (paw_str (paw_str (paw_str (paw_str (paw_bin ⟨(pe_op op_repE pe_str pe_int)⟩ (paw_str paw_nil)))))))))) ⟨(pe_op op_mod (pe_call G__law_cell hr rfl d__law_cell.m d__law_cell.F.kp d__law_cell.b .nil pass0 (pa_cons (pv 0) (pa_cons pe_int pa_nil))) pe_int)⟩ (fun _ _ => rfl)) ⟨(pe_slice sl_strE (pv 1) (po_some (pv 3)) po_none)⟩))
      (pssw_cons (psw_ifr (pt_cmpR op_eq (pv 2) pe_int (nomark _)) (pew_op op_add_str (pew_op op_add_str ⟨(pe_slice sl_strE (pv 1) po_none (po_some (pv 3)))⟩ ⟨pe_str⟩) ⟨(pe_slice sl_strE (pv 1) (po_some (pv 3)) po_none)⟩))
      (pssw_cons (psw_ifr (pt_cmpR op_eq (pv 2) pe_int (nomark _)) (pew_op op_add_str ⟨(pv 1)⟩ ⟨pe_str⟩))
      (pssw_cons (psw_ifr (pt_cmpR op_eq (pv 2) pe_int (nomark _)) (pew_op op_add_str (pew_op op_add_str ⟨(pe_slice sl_strE (pv 1) po_none (po_some (pe_op op_add (pv 3) pe_int)))⟩ ⟨pe_str⟩) ⟨(pe_slice sl_strE (pv 1) (po_some (pe_op op_add (pv 3) pe_int)) po_none)⟩))
      (pssw_cons (psw_ifr (pt_cmpR op_eq (pv 2) pe_int (nomark _)) (pew_op op_add_str ⟨(pv 1)⟩ ⟨pe_str⟩))
      (pssw_cons ⟨(ps_ret pe_str)⟩
      pssw_nil)))))))))))), ?_⟩
  refine ⟨_, rfl, a, ns, 22, rfl, hS, h63, by decide, by decide, _, _, rfl, rfl, (show (0 : Int) < 9 by decide), ?_⟩
  refine ⟨_, rfl, rfl, _, _, u.length, rest, rfl, rfl, oc, ?_⟩
  obtain ⟨k, ek, k9⟩ : ∃ k : Nat, cellF ns 22 % 9 = (k : Int) ∧ k < 9 := ⟨(cellF ns 22 % 9).toNat, by omega, by omega⟩
  refine ⟨_, congrArg (fun x => some (some (V.int x))) ek, _, rfl, ?_⟩
  rcases (show k = 0 ∨ k = 1 ∨ k = 2 ∨ k = 3 ∨ k = 4 ∨ k = 5 ∨ k = 6 ∨ k = 7 ∨ k = 8 by omega) with rfl | rfl | rfl | rfl | rfl | rfl | rfl | rfl | rfl
  · rw [if_pos (by decide)]
    refine ⟨_, rfl, _, rfl, by omega, by decide +kernel, by decide +kernel, ?_⟩
    exact fin _ (u ++ restL ws) H (replace_none (l := []) cu cr) (Same.refl _) (row_none (by rw [cL_sT]; intro z; rcases List.mem_append.mp z with z | z; exact cu z; exact cr z)) (nof (by intro z; rcases List.mem_append.mp z with z | z; exact su z; exact sr z)) (by rw [List.length_append]; omega)
  · rw [if_neg (by decide)]
    refine ⟨_, congrArg (fun x => some (some (V.int x))) ek, rfl, _, rfl, takeI (by decide) ?_⟩
    refine ⟨_, rfl, _, rfl, _, _, rfl, rfl, _, rfl, _, rfl, by omega, ?_⟩
    dsimp only
    rw [p1, show cutT (sT (lnT u ws)).cps.toList none (some (((u.length + 1 : Nat)) : Int)) = u ++ [58] from c1]
    refine ⟨_, _, rfl, rfl, by rw [blank_t, sT_len]; show (u ++ [58]).toArray.size + 1 ≤ _; rw [List.size_toArray, List.length_append, sizeLine_eq]; show _ + 1 + 1 ≤ _; omega, ?_⟩
    refine ⟨_, rfl, _, rfl, _, _, rfl, rfl, _, rfl, _, rfl, by omega, ?_⟩
    dsimp only
    rw [p1, show cutT (sT (lnT u ws)).cps.toList (some (((u.length + 1 : Nat)) : Int)) none = restL ws from c2]
    refine ⟨_, _, rfl, rfl, ?_, _, _, rfl, rfl, ?_, ?_⟩
    · rw [len_app, blank_t, sT_len]
      show (sT (u ++ [58])).length + 1 + (sT (restL ws)).length ≤ _
      rw [sT_len, sT_len, List.length_append, sizeLine_eq]
      show _ + 1 + 1 + _ ≤ _
      omega
    · rw [len_app, len_app, blank_t, sT_len]
      show (sT (u ++ [58])).length + 1 + (sT (restL ws)).length + 1 ≤ _
      rw [sT_len, sT_len, List.length_append, sizeLine_eq]
      show _ + 1 + 1 + _ + 1 ≤ _
      omega
    · refine fin _ (u ++ 58 :: (32 :: restL ws ++ [32])) H (by
        rw [cL_app, cL_app, cL_app, blank_t, cL_sT]
        show u ++ [58] ++ [32] ++ restL ws ++ [32] = _
        simp) (Same.refl _) (row_rest cu empty_bad) (nof ?_) (by simp; omega)
      simp [su, sr]
  · rw [if_neg (by decide)]
    refine ⟨_, congrArg (fun x => some (some (V.int x))) ek, rfl, _, rfl, skipI (by decide) ?_⟩
    refine ⟨_, congrArg (fun x => some (some (V.int x))) ek, rfl, _, rfl, takeI (by decide) ?_⟩
    refine ⟨_, rfl, _, _, rfl, rfl, by rw [blank_t, sT_len, sT_len, sizeLine_eq]; show _ + 1 ≤ _; omega, (by show 8 ≤ 1000; decide), fun p3 H3 n3 => ?_⟩
    rw [bad_ws_t] at n3
    obtain ⟨m, em, m8⟩ : ∃ m : Nat, cellF ns 23 % 8 = (m : Int) ∧ m < 8 := ⟨(cellF ns 23 % 8).toNat, by omega, by omega⟩
    obtain ⟨wd, hw⟩ : ∃ wd, badWs[m]? = some wd := ⟨badWs[m]'(by show m < 8; exact m8), List.getElem?_eq_getElem (by show m < 8; exact m8)⟩
    obtain ⟨b1, b2, b3, b4⟩ := bad_ws wd (List.mem_of_getElem? hw)
    refine ⟨_, rfl, a, ns, 23, rfl, n3.same.seq hS, h63, by decide, by decide, _, _, rfl, rfl, (show (0 : Int) < 8 by decide), p3, _, _, V.str (sT wd), rfl, rfl, SqL.of n3.here, ?_, _, _, rfl, rfl, ?_, ?_⟩
    · show atI (badWs.map fun l => V.str (sT l)) (cellF ns 23 % 8) = _
      rw [em]
      exact atI_nat (by rw [List.getElem?_map, hw]; rfl)
    · rw [len_app, blank_t, sT_len, sT_len, sT_len, sizeLine_eq]
      show _ + 1 + _ ≤ _
      omega
    · refine fin _ (u ++ 58 :: (restL ws ++ 32 :: wd)) H3 (by
        rw [cL_app, cL_app, blank_t, cL_sT, cL_sT, cL_sT]
        unfold lnT
        simp) n3.same (row_rest cu (word_bad b2 b1)) (nof ?_) (by simp; omega)
      simp [su, sr, b4]
  · rw [if_neg (by decide)]
    refine ⟨_, congrArg (fun x => some (some (V.int x))) ek, rfl, _, rfl, skipI (by decide) ?_⟩
    refine ⟨_, congrArg (fun x => some (some (V.int x))) ek, rfl, _, rfl, skipI (by decide) ?_⟩
    refine ⟨_, congrArg (fun x => some (some (V.int x))) ek, rfl, _, rfl, takeI (by decide) ?_⟩
    refine ⟨[49], 31, by rw [show Str.ofString "1" = sT [49] by decide +kernel]; rfl, rfl, by decide, by decide, (by show 10 ≤ 1000; decide), fun p3 H3 n3 => ?_⟩
    rw [bad_ups_t] at n3
    obtain ⟨m, em, m8⟩ : ∃ m : Nat, cellF ns 23 % 10 = (m : Int) ∧ m < 10 := ⟨(cellF ns 23 % 10).toNat, by omega, by omega⟩
    obtain ⟨wd, hw⟩ : ∃ wd, badUps[m]? = some wd := ⟨badUps[m]'(by show m < 10; exact m8), List.getElem?_eq_getElem (by show m < 10; exact m8)⟩
    obtain ⟨b1, b2, b3, b4⟩ := bad_ups wd (List.mem_of_getElem? hw)
    refine ⟨_, rfl, a, ns, 23, rfl, n3.same.seq hS, h63, by decide, by decide, _, _, rfl, rfl, (show (0 : Int) < 10 by decide), p3, _, _, V.str (sT wd), rfl, rfl, SqL.of n3.here, ?_, ?_⟩
    · show atI (badUps.map fun l => V.str (sT l)) (cellF ns 23 % 10) = _
      rw [em]
      exact atI_nat (by rw [List.getElem?_map, hw]; rfl)
    refine ⟨_, rfl, _, rfl, _, rfl, _, rfl, by omega, ?_⟩
    rw [show cutT (sT (lnT u ws)).cps.toList (some ((u.length : Nat) : Int)) none = 58 :: restL ws from c4]
    refine ⟨_, _, rfl, rfl, ?_, ?_⟩
    · rw [sT_len]
      show _ + (sT (58 :: restL ws)).length ≤ _
      rw [sT_len, List.length_cons, sizeLine_eq]
      omega
    · refine fin _ (wd ++ 58 :: restL ws) H3 (by rw [cL_app, cL_sT]; rfl) n3.same (row_up b2 b1) (nof ?_) (by simp; omega)
      simp [sr, b4]
  · rw [if_neg (by decide)]
    refine ⟨_, congrArg (fun x => some (some (V.int x))) ek, rfl, _, rfl, skipI (by decide) ?_⟩
    refine ⟨_, congrArg (fun x => some (some (V.int x))) ek, rfl, _, rfl, skipI (by decide) ?_⟩
    refine ⟨_, congrArg (fun x => some (some (V.int x))) ek, rfl, _, rfl, skipI (by decide) ?_⟩
    refine ⟨_, congrArg (fun x => some (some (V.int x))) ek, rfl, _, rfl, takeI (by decide) ?_⟩
    refine ⟨_, rfl, _, rfl, _, rfl, _, rfl, by omega, ?_⟩
    rw [show cutT (sT (lnT u ws)).cps.toList none (some ((u.length : Nat) : Int)) = u from c3]
    refine ⟨_, _, rfl, rfl, ?_, ?_⟩
    · rw [blank_t, sT_len]
      show (sT u).length + 1 ≤ _
      rw [sT_len, sizeLine_eq]
      omega
    refine ⟨_, rfl, _, rfl, _, rfl, _, rfl, by omega, ?_⟩
    rw [show cutT (sT (lnT u ws)).cps.toList (some ((u.length : Nat) : Int)) none = 58 :: restL ws from c4]
    refine ⟨_, _, rfl, rfl, ?_, ?_⟩
    · rw [len_app, blank_t, sT_len]
      show (sT u).length + 1 + (sT (58 :: restL ws)).length ≤ _
      rw [sT_len, sT_len, List.length_cons, sizeLine_eq]
      omega
    · refine fin _ ((u ++ [32]) ++ 58 :: restL ws) H (by
        rw [cL_app, cL_app, blank_t, cL_sT]
        rfl) (Same.refl _) (row_up (by simp [cu]) (up_blank u1)) (nof ?_) (by simp; omega)
      simp [su, sr]
  · rw [if_neg (by decide)]
    refine ⟨_, congrArg (fun x => some (some (V.int x))) ek, rfl, _, rfl, skipI (by decide) ?_⟩
    refine ⟨_, congrArg (fun x => some (some (V.int x))) ek, rfl, _, rfl, skipI (by decide) ?_⟩
    refine ⟨_, congrArg (fun x => some (some (V.int x))) ek, rfl, _, rfl, skipI (by decide) ?_⟩
    refine ⟨_, congrArg (fun x => some (some (V.int x))) ek, rfl, _, rfl, skipI (by decide) ?_⟩
    refine ⟨_, congrArg (fun x => some (some (V.int x))) ek, rfl, _, rfl, takeI (by decide) ?_⟩
    refine ⟨_, rfl, _, _, rfl, rfl, ?_, ?_⟩
    · rw [sT_len, show Str.ofString ";" = sT [59] by decide +kernel, sT_len, sizeLine_eq]
      show _ + 1 ≤ _
      omega
    · refine fin _ (u ++ 58 :: (restL ws ++ [59])) H (by
        rw [cL_app, show Str.ofString ";" = sT [59] by decide +kernel, cL_sT, cL_sT]
        unfold lnT
        simp) (Same.refl _) (row_rest cu (char_bad (c := 59) (List.mem_append_right _ List.mem_cons_self) (by decide) (by omega))) ?_ (by simp; omega)
      have e : u ++ 58 :: (restL ws ++ [59]) = lnT u ws ++ [59] := by unfold lnT; simp
      rw [e]
      refine no_last ?_
      unfold lnT
      simp [su, sr]
  · rw [if_neg (by decide)]
    refine ⟨_, congrArg (fun x => some (some (V.int x))) ek, rfl, _, rfl, skipI (by decide) ?_⟩
    refine ⟨_, congrArg (fun x => some (some (V.int x))) ek, rfl, _, rfl, skipI (by decide) ?_⟩
    refine ⟨_, congrArg (fun x => some (some (V.int x))) ek, rfl, _, rfl, skipI (by decide) ?_⟩
    refine ⟨_, congrArg (fun x => some (some (V.int x))) ek, rfl, _, rfl, skipI (by decide) ?_⟩
    refine ⟨_, congrArg (fun x => some (some (V.int x))) ek, rfl, _, rfl, skipI (by decide) ?_⟩
    refine ⟨_, congrArg (fun x => some (some (V.int x))) ek, rfl, _, rfl, takeI (by decide) ?_⟩
    refine ⟨_, rfl, _, rfl, _, _, rfl, rfl, _, rfl, _, rfl, by omega, ?_⟩
    dsimp only
    rw [p1, show cutT (sT (lnT u ws)).cps.toList none (some (((u.length + 1 : Nat)) : Int)) = u ++ [58] from c1]
    have ea : Str.ofString "a" = sT [97] := by decide +kernel
    refine ⟨_, _, rfl, rfl, ?_, ?_⟩
    · rw [ea, sT_len]
      show (sT (u ++ [58])).length + 1 ≤ _
      rw [sT_len, List.length_append, sizeLine_eq]
      show _ + 1 + 1 ≤ _
      omega
    refine ⟨_, rfl, _, rfl, _, _, rfl, rfl, _, rfl, _, rfl, by omega, ?_⟩
    dsimp only
    rw [p2, show cutT (sT (lnT u ws)).cps.toList (some (((u.length + 2 : Nat)) : Int)) none = (restL ws).drop 1 from c5]
    refine ⟨_, _, rfl, rfl, ?_, ?_⟩
    · rw [len_app, ea, sT_len]
      show (sT (u ++ [58])).length + 1 + (sT ((restL ws).drop 1)).length ≤ _
      rw [sT_len, sT_len, List.length_append, List.length_drop, sizeLine_eq]
      show _ + 1 + 1 + _ ≤ _
      omega
    · refine fin _ (u ++ 58 :: (97 :: (restL ws).drop 1)) H (by
        rw [cL_app, cL_app, ea, cL_sT]
        show u ++ [58] ++ [97] ++ (restL ws).drop 1 = _
        simp) (Same.refl _) (row_rest cu (head_bad (by decide))) (nof ?_) (by simp; omega)
      have : 59 ∉ (restL ws).drop 1 := fun z => sr (List.mem_of_mem_drop z)
      simp [su]
      exact fun z => this (by simpa using z)
  · rw [if_neg (by decide)]
    refine ⟨_, congrArg (fun x => some (some (V.int x))) ek, rfl, _, rfl, skipI (by decide) ?_⟩
    refine ⟨_, congrArg (fun x => some (some (V.int x))) ek, rfl, _, rfl, skipI (by decide) ?_⟩
    refine ⟨_, congrArg (fun x => some (some (V.int x))) ek, rfl, _, rfl, skipI (by decide) ?_⟩
    refine ⟨_, congrArg (fun x => some (some (V.int x))) ek, rfl, _, rfl, skipI (by decide) ?_⟩
    refine ⟨_, congrArg (fun x => some (some (V.int x))) ek, rfl, _, rfl, skipI (by decide) ?_⟩
    refine ⟨_, congrArg (fun x => some (some (V.int x))) ek, rfl, _, rfl, skipI (by decide) ?_⟩
    refine ⟨_, congrArg (fun x => some (some (V.int x))) ek, rfl, _, rfl, takeI (by decide) ?_⟩
    have ea : Str.ofString " abcdefg" = sT (32 :: [97, 98, 99, 100, 101, 102, 103]) := by decide +kernel
    refine ⟨_, rfl, _, _, rfl, rfl, ?_, ?_⟩
    · rw [sT_len, ea, sT_len, sizeLine_eq]
      show _ + 8 ≤ _
      omega
    · refine fin _ (u ++ 58 :: (restL ws ++ 32 :: [97, 98, 99, 100, 101, 102, 103])) H (by
        rw [cL_app, ea, cL_sT, cL_sT]
        unfold lnT
        simp) (Same.refl _) (row_rest cu (word_bad (by decide) (by decide))) (nof ?_) (by simp; omega)
      simp [su, sr]
  · rw [if_neg (by decide)]
    refine ⟨_, congrArg (fun x => some (some (V.int x))) ek, rfl, _, rfl, skipI (by decide) ?_⟩
    refine ⟨_, congrArg (fun x => some (some (V.int x))) ek, rfl, _, rfl, skipI (by decide) ?_⟩
    refine ⟨_, congrArg (fun x => some (some (V.int x))) ek, rfl, _, rfl, skipI (by decide) ?_⟩
    refine ⟨_, congrArg (fun x => some (some (V.int x))) ek, rfl, _, rfl, skipI (by decide) ?_⟩
    refine ⟨_, congrArg (fun x => some (some (V.int x))) ek, rfl, _, rfl, skipI (by decide) ?_⟩
    refine ⟨_, congrArg (fun x => some (some (V.int x))) ek, rfl, _, rfl, skipI (by decide) ?_⟩
    refine ⟨_, congrArg (fun x => some (some (V.int x))) ek, rfl, _, rfl, skipI (by decide) ?_⟩
    exact fin _ [] H (by rw [empty_t, cL_sT]) (Same.refl _) (row_none (by rw [cL_sT]; exact List.not_mem_nil)) (nof List.not_mem_nil) (Nat.zero_le _)
end

end K


namespace K
open PySem L2 Lw Bg Tx
theorem good_up {u : Option Int} (h : ∀ i, u = some i → 0 ≤ i ∧ i < 10 ^ 30) : isUpB (sT (headD u)) = true ∧ (headD u = [45] ∨ ((1 ≤ (headD u).length ∧ (headD u).length ≤ 30) ∧ ∀ c ∈ headD u, 48 ≤ c ∧ c ≤ 57)) := by
  cases u with
  | none =>
    refine ⟨?_, .inl rfl⟩
    unfold isUpB
    rw [dash_t, decide_eq_true (show V.str (sT (headD none)) = V.str (sT [45]) from rfl), Bool.true_or]
  | some i =>
    obtain ⟨h0, h1⟩ := h i rfl
    obtain ⟨a, b, c, d, e⟩ := num_text h0 h1
    have es : sT (headD (some i)) = Str.ofString (toString i) := sT_cL _
    have el : (headD (some i)).length = (Str.ofString (toString i)).length := cL_len _
    refine ⟨?_, .inr ⟨by rw [el]; exact ⟨d, c⟩, e⟩⟩
    unfold isUpB
    rw [es, a, Bool.or_true]
theorem line_ok {nm : List (List Nat)} (hN : Nms nm) {r : Row} (hD : RowD nm.length r) : LnOk (headD r.1) (namesT nm r.2) := by
  refine ⟨(good_up hD.up).2, fun w hw => hN.ok w (name_mem hD.lt hw), ?_⟩
  have := hD.few hN.few
  unfold namesT
  rw [List.length_map]
  omega
theorem like_ok {w : List Nat} (h : NmLike w) : nameOk (sT w) = true := by
  unfold nameOk
  rw [sT_len, decide_eq_true (by have := h.1.1; omega), decide_eq_true (by have := h.1.2; omega), Bool.true_and, Bool.true_and]
  show w.toArray.all isLet = true
  rw [List.all_toArray]
  exact List.all_eq_true.mpr fun c hc => decide_eq_true (h.2 c hc)
theorem ln_part {u : List Nat} {ws : List (List Nat)} (hu : 58 ∉ u) : partZ (sT (lnT u ws)) = (sT u, sT [58], sT (restL ws)) := by
  unfold partZ lnT
  rw [colon_t]
  exact part_one hu
theorem ln_words {u : List Nat} {ws : List (List Nat)} (hu : 58 ∉ u) (ok : ∀ w ∈ ws, NmLike w) : wsZ (sT (lnT u ws)) = sT [] :: ws.map sT := by
  unfold wsZ
  rw [ln_part hu, blank_t]
  have e : sT (restL ws) = Str.join ⟨#[32]⟩ (sT [] :: ws.map sT) := by
    refine cL_inj ?_
    have := join_cL ⟨#[32]⟩ (sT []) (ws.map sT)
    rw [show Txt.join ⟨#[32]⟩ (sT [] :: ws.map sT) = Str.join ⟨#[32]⟩ (sT [] :: ws.map sT) from PySem.StrLaws.glued_eq_join _ _] at this
    rw [this, cL_sT, cL_sT, List.nil_append, List.flatMap_map]
    rfl
  show Txt.split (sT (restL ws)) (sT [32]) = _
  rw [e]
  refine split_one (by intro z; cases z) fun p hp => ?_
  rcases List.mem_cons.mp hp with rfl | hp
  · exact List.not_mem_nil
  · obtain ⟨l, hl, rfl⟩ := List.mem_map.mp hp
    intro z
    have := (ok l hl).2 32 z
    omega
theorem ln_row {u : List Nat} {ws : List (List Nat)} (L : LnOk u ws) (hu : isUpB (sT u) = true) : rowB (sT (lnT u ws)) = true := by
  unfold rowB
  rw [ln_words L.colon L.ok, ln_part L.colon]
  have h4 : (ws.map sT).all nameOk = true := List.all_eq_true.mpr fun y hy => by
    obtain ⟨w, hw, rfl⟩ := List.mem_map.mp hy
    exact like_ok (L.ok w hw)
  show (!(!isUpB (sT u) || (!(((sT [58]).length : Int) != 0) || (((sT []).length : Int) != 0 || !((ws.map sT).all nameOk))))) = true
  rw [hu, h4]
  rfl
theorem ln_up {u : Option Int} {ws : List (List Nat)} (h : ∀ i, u = some i → 0 ≤ i ∧ i < 10 ^ 30) (L : LnOk (headD u) ws) : upZ (sT (lnT (headD u) ws)) = u := by
  unfold upZ
  rw [ln_part L.colon, dash_t]
  cases u with
  | none => rw [if_pos (show V.str (sT (headD none)) = V.str (sT [45]) from rfl)]
  | some i =>
    obtain ⟨h0, h1⟩ := h i rfl
    obtain ⟨a, b, c, d, e⟩ := num_text h0 h1
    have es : sT (headD (some i)) = Str.ofString (toString i) := sT_cL _
    rw [if_neg]
    · show some (valF (sT (headD (some i)))) = _
      rw [es, b]
    · intro z
      have z' : headD (some i) = [45] := sT_inj (V.str.inj z)
      have := e 45 (by show 45 ∈ headD (some i); rw [z']; exact List.mem_cons_self)
      omega
theorem ix_at {nm : List (List Nat)} (nd : nm.Nodup) {v : Nat} (h : v < nm.length) : ixN' nm (sT nm[v]) = v := by
  unfold ixN'
  rw [cL_sT]
  have m : nm[v] ∈ nm := List.getElem_mem h
  have vl := List.idxOf_lt_length_of_mem m
  have e : nm[nm.idxOf nm[v]] = nm[v] := List.getElem_idxOf vl
  exact (List.getElem_inj nd).mp e
theorem nm_get {nm : List (List Nat)} {v : Int} (h : 0 ≤ v ∧ v < (nm.length : Int)) : nm.getD v.toNat [] = nm[v.toNat]'(by omega) := by
  rw [List.getD_eq_getElem?_getD, List.getElem?_eq_getElem (by omega)]
  rfl
theorem words_ix {nm : List (List Nat)} (nd : nm.Nodup) {ps : List Int} (lt : ∀ v ∈ ps, 0 ≤ v ∧ v < (nm.length : Int)) : ((namesT nm ps).map sT).map (fun w => ((ixN' nm w : Nat) : Int)) = ps := by
  unfold namesT
  rw [List.map_map, List.map_map]
  have : ∀ v ∈ ps, (((fun w => ((ixN' nm w : Nat) : Int)) ∘ sT) ∘ fun v => nm.getD v.toNat []) v = v := fun v hv => by
    have b := lt v hv
    show ((ixN' nm (sT (nm.getD v.toNat [])) : Nat) : Int) = v
    rw [nm_get b, ix_at nd]
    omega
  rw [List.map_congr_left this, List.map_id']
theorem words_in {nm : List (List Nat)} (nd : nm.Nodup) {ps : List Int} (np : ps.Nodup) (lt : ∀ v ∈ ps, 0 ≤ v ∧ v < (nm.length : Int)) : plB nm ((namesT nm ps).map sT) = true := by
  refine decide_eq_true ⟨fun w hw => ?_, ?_⟩
  · obtain ⟨l, hl, rfl⟩ := List.mem_map.mp hw
    rw [cL_sT]
    exact name_mem lt hl
  · have h : (((namesT nm ps).map sT).map (fun w => ((ixN' nm w : Nat) : Int))).Nodup := by rw [words_ix nd lt]; exact np
    unfold List.Nodup at h ⊢
    rw [List.pairwise_map] at h
    exact h.imp fun ne e => ne (by rw [e])
theorem words_bad {nm : List (List Nat)} {ws : List (List Nat)} {l : List Nat} (h : l ∉ nm ∨ l ∈ ws) : plB nm ((ws ++ [l]).map sT) = false := by
  refine decide_eq_false fun ⟨h1, h2⟩ => ?_
  rw [List.map_append] at h1 h2
  rcases h with h | h
  · have := h1 (sT l) (List.mem_append_right _ List.mem_cons_self)
    rw [cL_sT] at this
    exact h this
  · exact (List.nodup_append.mp h2).2.2 (sT l) (List.mem_map.mpr ⟨l, h, rfl⟩) (sT l) List.mem_cons_self rfl
def textS (Ls : List (List Nat)) : Str := Txt.join (Str.ofString "; ") (Ls.map sT)
theorem text_lines {Ls : List (List Nat)} (ne : Ls ≠ []) (h : ∀ l ∈ Ls, NoCD 59 32 l) : linesZ (textS Ls) = Ls.map sT := by
  unfold linesZ textS
  rw [semi_t, show Txt.join (sT [59, 32]) (Ls.map sT) = Str.join (sT [59, 32]) (Ls.map sT) from PySem.StrLaws.glued_eq_join _ _]
  refine split_twoG (by decide) (by decide) (by decide) (by intro z; exact ne (List.map_eq_nil_iff.mp z)) fun p hp => ?_
  obtain ⟨l, hl, rfl⟩ := List.mem_map.mp hp
  rw [cL_sT]
  exact h l hl
theorem text_len {Ls : List (List Nat)} (l8 : Ls.length ≤ 8) (h : ∀ l ∈ Ls, l.length ≤ 190) : (textS Ls).length ≤ 5000 := by
  unfold textS
  rw [show Txt.join (Str.ofString "; ") (Ls.map sT) = Str.join (Str.ofString "; ") (Ls.map sT) from PySem.StrLaws.glued_eq_join _ _]
  have h1 := PySem.StrLaws.join_length_le (Str.ofString "; ") (Ls.map sT)
  have b : ∀ z ∈ Ls.map sT, z.length ≤ 190 := fun z hz => by
    obtain ⟨l, hl, rfl⟩ := List.mem_map.mp hz
    rw [sT_len]
    exact h l hl
  have h2 := sum_le b
  rw [semi_t, sT_len, List.length_map] at h1
  rw [List.length_map] at h2
  rw [semi_t]
  have h3 : ([59, 32] : List Nat).length = 2 := rfl
  rw [h3] at h1
  omega
theorem ln_len {u : List Nat} {ws : List (List Nat)} (L : LnOk u ws) : (lnT u ws).length ≤ 108 := by
  have := L.ulen
  have := L.rlen
  unfold lnT
  rw [List.length_append, List.length_cons]
  omega
theorem ln_no {u : List Nat} {ws : List (List Nat)} (L : LnOk u ws) : NoCD 59 32 (lnT u ws) := by
  refine NoCD.free ?_
  unfold lnT
  simp [L.semi.1, L.semi.2]
def goodL (nm : List (List Nat)) (rs : List Row) : List (List Nat) := rs.map fun r => lnT (headD r.1) (namesT nm r.2)
theorem good_fd {nm : List (List Nat)} (hN : Nms nm) {H : Hp} : ∀ {xs : List V} {rs : List Row}, (∀ r ∈ rs, RowD nm.length r) → Paired (BgE nm H) xs ((goodL nm rs).map sT) → Paired (FdE H) xs rs
  | [], [], _, _ => .nil
  | x :: xs, r :: rs, hD, .cons h p => by
    refine .cons ?_ (good_fd hN (fun y hy => hD y (List.mem_cons_of_mem _ hy)) p)
    have d := hD r List.mem_cons_self
    have L := line_ok hN d
    obtain ⟨pt, b, zs, e, h1, h2, pm, le⟩ := h
    rw [ln_up d.up L] at h1
    rw [ln_words L.colon L.ok, List.tail_cons, words_ix hN.nd d.lt] at pm
    exact ⟨pt, b, zs, e, h1, h2, pm, le⟩
theorem good_all {nm : List (List Nat)} (hN : Nms nm) {rs : List Row} (hD : ∀ r ∈ rs, RowD nm.length r) : ((goodL nm rs).map sT).all rowB = true ∧ (((goodL nm rs).map sT).all fun l => plB nm (wsZ l).tail) = true := by
  refine ⟨List.all_eq_true.mpr fun z hz => ?_, List.all_eq_true.mpr fun z hz => ?_⟩
  · obtain ⟨l, hl, rfl⟩ := List.mem_map.mp hz
    obtain ⟨r, hr, rfl⟩ := List.mem_map.mp hl
    exact ln_row (line_ok hN (hD r hr)) (good_up (hD r hr).up).1
  · obtain ⟨l, hl, rfl⟩ := List.mem_map.mp hz
    obtain ⟨r, hr, rfl⟩ := List.mem_map.mp hl
    have L := line_ok hN (hD r hr)
    rw [ln_words L.colon L.ok, List.tail_cons]
    exact words_in hN.nd (hD r hr).nd (hD r hr).lt
def WfL (l : List Nat) : Prop := ∃ u ws, l = lnT u ws ∧ LnOk u ws ∧ isUpB (sT u) = true
theorem good_wf {nm : List (List Nat)} (hN : Nms nm) {rs : List Row} (hD : ∀ r ∈ rs, RowD nm.length r) : ∀ l ∈ goodL nm rs, WfL l := fun l hl => by
  obtain ⟨r, hr, rfl⟩ := List.mem_map.mp hl
  exact ⟨_, _, rfl, line_ok hN (hD r hr), (good_up (hD r hr).up).1⟩
theorem wf_rows {Ls : List (List Nat)} (h : ∀ l ∈ Ls, WfL l) : (Ls.map sT).all rowB = true := List.all_eq_true.mpr fun z hz => by
  obtain ⟨l, hl, rfl⟩ := List.mem_map.mp hz
  obtain ⟨u, ws, rfl, L, hu⟩ := h l hl
  exact ln_row L hu
theorem set_any {α : Type} {f : α → Bool} {xs : List α} {i : Nat} {x : α} (hi : i < xs.length) (h : f x = false) : (xs.set i x).all f = false := Bool.eq_false_iff.mpr fun z => by
  have := List.all_eq_true.mp z x (List.mem_of_getElem? (i := i) (by rw [List.getElem?_set_self hi]))
  rw [h] at this
  cases this
theorem mem_set {α : Type} {xs : List α} {i : Nat} {x : α} {P : α → Prop} (h : ∀ y ∈ xs, P y) (hx : P x) : ∀ y ∈ xs.set i x, P y := fun y hy => by
  rcases List.mem_or_eq_of_mem_set hy with hy | rfl
  · exact h y hy
  · exact hx

end K


namespace K
open PySem L2 Lw Bg Tx
abbrev s_law : Stmt := top 28
theorem sc_law : FnScope ["_law_script", "_law_n", "_law_names_here", "_law_rows", "_law_lines", "_law_good", "_law_kind", "_law_due", "_law_spot", "_law_again", "_law_other", "_law_here", "_law_found"] ["_law_script"] (defScope s_law) := ⟨rfl, rfl, rfl, by decide +kernel, rfl, by decide +kernel, by decide +kernel⟩
section
variable {P : Program} {w : World} {K : PySem.W.Frag} {mg : Str → Option Value} {base : Heap}
set_option maxHeartbeats 8000000 in
theorem ok_law (B : Bl mg) (C : Cl K mg) (Ct : Cts mg) (d_is_written : Dn K mg "is_written" s_is_written ["text", "signs", "most"]) (d_is_number : Dn K mg "is_number" s_is_number ["text"]) (d_is_name : Dn K mg "is_name" s_is_name ["text"]) (d_read_row : Dn K mg "read_row" s_read_row ["row"]) (d_read_places : Dn K mg "read_places" s_read_places ["names", "words"]) (d_read_bags : Dn K mg "read_bags" s_read_bags ["names", "text"]) (d__law_cell : Dn K mg "_law_cell" s__law_cell ["_law_script", "_law_k"]) (d__law_mixed : Dn K mg "_law_mixed" s__law_mixed ["_law_cell_here", "_law_many"]) (d__law_names : Dn K mg "_law_names" s__law_names ["_law_script", "_law_at", "_law_n"]) (d__law_bag : Dn K mg "_law_bag" s__law_bag ["_law_script", "_law_at", "_law_n"]) (d__law_drawn : Dn K mg "_law_drawn" s__law_drawn ["_law_script", "_law_n"]) (d__law_line : Dn K mg "_law_line" s__law_line ["_law_names_here", "_law_row"]) (d__law_strange : Dn K mg "_law_strange" s__law_strange ["_law_names_here", "_law_cell_here"]) (d__law_bad_line : Dn K mg "_law_bad_line" s__law_bad_line ["_law_script", "_law_line_here"]) (d__law_told : Dn K mg "_law_told" s__law_told ["_law_names_here", "_law_text"]) (d__law_same : Dn K mg "_law_same" s__law_same ["_law_found", "_law_rows"]) (d_law : Dn K mg "law" s_law ["_law_script"]) : FnOk P w K mg base CX0 6 d_law.f d_law.fd ["_law_script"] (spLaw K) := by
  have G__law_cell : FnOk P w K mg base CX0 5 _ _ _ _ := (ok_cell B d__law_cell).mono (by decide)
  have G__law_names : FnOk P w K mg base CX0 5 _ _ _ _ := (ok__law_names B d__law_cell d__law_mixed d__law_names).mono (by decide)
  have G__law_drawn : FnOk P w K mg base CX0 5 _ _ _ _ := (ok__law_drawn B d__law_cell d__law_mixed d__law_bag d__law_drawn).mono (by decide)
  have G__law_line : FnOk P w K mg base CX0 5 _ _ _ _ := (ok__law_line B d__law_line).mono (by decide)
  have G__law_strange : FnOk P w K mg base CX0 5 _ _ _ _ := (ok__law_strange B d__law_strange).mono (by decide)
  have G__law_bad_line : FnOk P w K mg base CX0 5 _ _ _ _ := (ok__law_bad_line B d__law_cell d__law_bad_line).mono (by decide)
  have G__law_told : FnOk P w K mg base CX0 5 _ _ _ _ := ok__law_told B Ct C d_is_written d_is_number d_is_name d_read_row d_read_places d_read_bags d__law_told
  have G__law_same : FnOk P w K mg base CX0 5 _ _ _ _ := (ok__law_same B d__law_same).mono (by decide)
  refine d_law.F.ok sc_law (fun vs H Q E h => ?_) (fun cdv A outer s H vs Q E hr h => ?_)
  · obtain ⟨a, ns, rfl, _⟩ := h
    rfl
  obtain ⟨a, ns, rfl, hScr, h63, q⟩ := h
  have hS := hScr.seq
  have hu : (A.deeper (PyProof.Rows.envOfC "law" (defScope s_law) s.heap.objs.size d_law.f cdv)).units + 64 < cLine := by have := hr.un; omega
  refine ⟨_, (PSsw.h (pssw_cons ⟨(ps_set (i := 1) sc_law.nd rfl (Or.inl rfl) (pe_op op_mod (pe_call G__law_cell hr rfl d__law_cell.m d__law_cell.F.kp d__law_cell.b .nil pass0 (pa_cons (pv 0) (pa_cons pe_int pa_nil))) pe_int))⟩
      (pssw_cons ⟨(ps_set (i := 2) sc_law.nd rfl (Or.inr rfl) (pe_call G__law_names hr rfl d__law_names.m d__law_names.F.kp d__law_names.b .nil pass0 (pa_cons (pv 0) (pa_cons pe_int (pa_cons (pv 1) pa_nil)))))⟩
      (pssw_cons ⟨(ps_set (i := 3) sc_law.nd rfl (Or.inl rfl) (pe_call G__law_drawn hr rfl d__law_drawn.m d__law_drawn.F.kp d__law_drawn.b .nil pass0 (pa_cons (pv 0) (pa_cons (pv 1) pa_nil))))⟩
      (pssw_cons ⟨(ps_setLC (i := 4) ["_law_row", "_law_names_here"] [none, some 2] sc_law.nd rfl rfl (by kernel_rfl) rfl (pi_listK (K := K) rfl (pv 3)) (fun _ _ _ _ _ => (pg_name (i := 0) (show (["_law_row", "_law_names_here"] : List Str).Nodup by decide +kernel) rfl (Or.inl rfl))) (fun _ _ _ _ _ => pts_nil) (fun _ _ _ _ _ => (pe_call G__law_line hr rfl d__law_line.m d__law_line.F.kp d__law_line.b .nil pass0 (pa_cons (pv 1) (pa_cons (pv 0) pa_nil)))) (by rfl))⟩
      (pssw_cons ⟨(ps_set (i := 5) sc_law.nd rfl (Or.inl rfl) (pe_bmK (K := K) rfl PySem.F.plainAttrs_str PySem.F.slot_str_join PySem.F.type_str_join (mt_joinS (K := K) rfl) pe_str (pa_cons (pv 4) pa_nil)))⟩
      (pssw_cons ⟨(ps_set (i := 6) sc_law.nd rfl (Or.inl rfl) (pe_op op_mod (pe_call G__law_cell hr rfl d__law_cell.m d__law_cell.F.kp d__law_cell.b .nil pass0 (pa_cons (pv 0) (pa_cons pe_int pa_nil))) pe_int))⟩
      (pssw_cons ⟨(ps_set (i := 7) sc_law.nd rfl (Or.inl rfl) (pe_un un_neg pe_int))⟩
      (pssw_cons ⟨(ps_set (i := 8) sc_law.nd rfl (Or.inl rfl) (pe_op op_mod (pe_call G__law_cell hr rfl d__law_cell.m d__law_cell.F.kp d__law_cell.b .nil pass0 (pa_cons (pv 0) (pa_cons pe_int pa_nil))) (pe_callB (call_lenK (K := K) rfl) rfl B.len (by decide +kernel) (pa_cons (pv 4) pa_nil))))⟩
      (pssw_cut ⟨(ps_if (PW.pt (pw_or (pt_cmpR op_eq (pv 6) pe_int (nomark _)) (pw_or1 (pt_cmpR op_eq (pv 6) pe_int (nomark _)))))
      (pss_cons (ps_set (i := 7) sc_law.nd rfl (Or.inl rfl) pe_int)
      (pss_cons (ps_set (i := 9) sc_law.nd rfl (Or.inl rfl) (pe_call G__law_strange hr rfl d__law_strange.m d__law_strange.F.kp d__law_strange.b .nil pass0 (pa_cons (pv 2) (pa_cons (pe_op op_mod (pe_call G__law_cell hr rfl d__law_cell.m d__law_cell.F.kp d__law_cell.b .nil pass0 (pa_cons (pv 0) (pa_cons pe_int pa_nil))) pe_int) pa_nil))))
      (pss_cut (ps_if (PW.pt (pw_and (pt_cmpR op_gt (pe_callB (call_lenK (K := K) rfl) rfl B.len (by decide +kernel) (pa_cons (pe_ix (ix_tupK (K := K) rfl) (pe_ix (ix_listK (K := K) rfl) (pv 3) (pv 8) (fun _ _ => rfl)) pe_int (fun _ _ => rfl)) pa_nil)) pe_int (nomark _)) (pw_and1 (pt_cmpR op_eq (pe_op op_mod (pe_call G__law_cell hr rfl d__law_cell.m d__law_cell.F.kp d__law_cell.b .nil pass0 (pa_cons (pv 0) (pa_cons pe_int pa_nil))) pe_int) pe_int (nomark _)))))
      (pss_one (ps_set (i := 9) sc_law.nd rfl (Or.inl rfl) (pe_ix (ix_listK (K := K) rfl) (pv 2) (pe_ix (ix_listK (K := K) rfl) (pe_ix (ix_tupK (K := K) rfl) (pe_ix (ix_listK (K := K) rfl) (pv 3) (pv 8) (fun _ _ => rfl)) pe_int (fun _ _ => rfl)) (pe_op op_mod (pe_call G__law_cell hr rfl d__law_cell.m d__law_cell.F.kp d__law_cell.b .nil pass0 (pa_cons (pv 0) (pa_cons pe_int pa_nil))) (pe_callB (call_lenK (K := K) rfl) rfl B.len (by decide +kernel) (pa_cons (pe_ix (ix_tupK (K := K) rfl) (pe_ix (ix_listK (K := K) rfl) (pv 3) (pv 8) (fun _ _ => rfl)) pe_int (fun _ _ => rfl)) pa_nil))) (fun _ _ => rfl)) (fun _ _ => rfl))))
      pss_nil)
      (pss_one (ps_asg (pe_op op_add_str (pe_op op_add_str (pe_ix (ix_listK (K := K) rfl) (pv 4) (pv 8) (fun _ _ => rfl)) pe_str) (pv 9)) (pg_sub (pv 4) (pv 8) set_listN))))))
      pss_nil)⟩
      (pssw_cut ⟨(ps_if (PW.pt (pw_or (pt_cmpR op_eq (pv 6) pe_int (nomark _)) (pw_or1 (pt_cmpR op_eq (pv 6) pe_int (nomark _)))))
      (pss_cons (ps_set (i := 7) sc_law.nd rfl (Or.inl rfl) pe_int)
      (pss_cons (ps_set (i := 10) sc_law.nd rfl (Or.inl rfl) (pe_op op_mod (pe_call G__law_cell hr rfl d__law_cell.m d__law_cell.F.kp d__law_cell.b .nil pass0 (pa_cons (pv 0) (pa_cons pe_int pa_nil))) (pe_callB (call_lenK (K := K) rfl) rfl B.len (by decide +kernel) (pa_cons (pv 4) pa_nil))))
      (pss_one (ps_asg (pe_call G__law_bad_line hr rfl d__law_bad_line.m d__law_bad_line.F.kp d__law_bad_line.b .nil pass0 (pa_cons (pv 0) (pa_cons (pe_ix (ix_listK (K := K) rfl) (pv 4) (pv 10) (fun _ _ => rfl)) pa_nil))) (pg_sub (pv 4) (pv 10) set_listN)))))
      pss_nil)⟩
      (pssw_cons ⟨(ps_set (i := 11) sc_law.nd rfl (Or.inl rfl) (pe_callTy (call_listN (K := K) rfl) rfl B.list (by decide +kernel) (pa_cons (pv 2) pa_nil)))⟩
      (pssw_cut ⟨(ps_set (i := 12) sc_law.nd rfl (Or.inl rfl) (pe_call G__law_told hr rfl d__law_told.m d__law_told.F.kp d__law_told.b .nil pass0 (pa_cons (pv 11) (pa_cons (pe_bmK (K := K) rfl PySem.F.plainAttrs_str PySem.F.slot_str_join PySem.F.type_str_join (mt_joinS (K := K) rfl) pe_str (pa_cons (pv 4) pa_nil)) pa_nil))))⟩
      (pssw_cut ⟨(ps_if (PW.pt (pw_or (PW.pt (pw_and (pt_cmpR op_ge (pv 7) pe_int (nomark _)) (pw_and1 (pt_cmpR (op_neDK (K := K) rfl hu) (pv 12) (pe_lstN (pa_cons (pv 7) pa_nil)) (nomark _))))) (pw_or1 (PW.pt (pw_and (pt_cmpR op_lt (pv 7) pe_int (nomark _)) (pw_and1 (pt_not (pt_truthK (K := K) rfl (pe_call G__law_same hr rfl d__law_same.m d__law_same.F.kp d__law_same.b .nil pass0 (pa_cons (pv 12) (pa_cons (pv 3) pa_nil))) (fun _ => rfl)))))))))
      (pss_one (ps_ret pe_bl))
      pss_nil)⟩
      (pssw_cons ⟨(ps_ret (pe_and (pe_call G__law_same hr rfl d__law_same.m d__law_same.F.kp d__law_same.b .nil pass0 (pa_cons (pe_call G__law_told hr rfl d__law_told.m d__law_told.F.kp d__law_told.b .nil pass0 (pa_cons (pv 11) (pa_cons (pv 5) pa_nil))) (pa_cons (pv 3) pa_nil))) (pe_one (pe_cmpR (op_eqDK (K := K) rfl hu) (pv 11) (pv 2) (nomark _)))))⟩
      pssw_nil))))))))))))))), ?_⟩
  refine ⟨_, rfl, a, ns, 0, rfl, hS, h63, by decide, by decide, _, _, rfl, rfl, (show (0 : Int) < 11 by decide), ?_⟩
  obtain ⟨n, en⟩ : ∃ n : Nat, cellF ns 0 % 11 = (n : Int) := ⟨(cellF ns 0 % 11).toNat, by omega⟩
  have n10 : n ≤ 10 := by omega
  dsimp only
  rw [en]
  refine ⟨_, rfl, _, rfl, a, ns, 1, n, rfl, hS, h63, by decide, by decide, n10, fun p nm H1 s1 hp hN ln => ?_⟩
  refine ⟨_, rfl, _, rfl, a, ns, n, rfl, s1.seq hS, h63, n10, fun pr rs H2 s2 hE ne l8 hD => ?_⟩
  rw [← ln] at hD
  have hp2 : NmL H2 p nm := s2 _ _ hp
  have s02 := s1.trans s2
  obtain ⟨xs, hl, prs⟩ := id hE
  have lx := Paired.length prs
  have r0 : 0 < rs.length := List.length_pos_iff.mpr ne
  refine ⟨_, rfl, pr, rfl, ⟨_, SqL.of hl⟩, ?_⟩
  refine lc_list (K := K) (a := pr) (xs := xs) (fun i ys G => Same H2 G ∧ ys = (goodL nm (rs.take i)).map fun l => V.str (sT l)) ⟨Same.refl _, rfl⟩ (fun i ys G hi ⟨s, e⟩ => ⟨SqL.of (s _ _ hl), ?_⟩) (fun i x ys G hx ⟨s, e⟩ => ?_) (fun ys G ⟨s, e⟩ pl hpl => ?_)
  · rw [e, List.length_map]
    unfold goodL
    rw [List.length_map, List.length_take]
    exact Nat.le_of_lt (small1000 (by omega))
  · obtain ⟨r, hr1, pt, b, rfl, hT, hb, _⟩ := paired_get prs hx
    have et : rs.take (i + 1) = rs.take i ++ [r] := by rw [List.take_succ, hr1]; rfl
    refine ⟨_, rfl, _, rfl, p, pt, b, nm, r, rfl, s _ _ hp2, hN, s _ _ hT, s _ _ hb, hD r (List.mem_of_getElem? hr1), fun G' s' => ⟨s.trans s', ?_⟩⟩
    rw [e, et]
    unfold goodL
    rw [List.map_append, List.map_append]
    rfl
  rw [lx, List.take_length] at e
  subst e
  have n5 := New.mk0 (o := .lst ((goodL nm rs).map fun l => V.str (sT l))) hpl
  generalize upd G pl (.lst ((goodL nm rs).map fun l => V.str (sT l))) = H5 at n5 ⊢
  have s25 := s.trans n5.same
  have fpl : H2 pl = none := s.free n5.fresh
  have gl : (goodL nm rs).length = rs.length := by unfold goodL; rw [List.length_map]
  have asS : ∀ Ls : List (List Nat), (Ls.map fun l => V.str (sT l)) = (Ls.map sT).map V.str := fun Ls => by rw [List.map_map]; rfl
  have wfl : ∀ {l : List Nat}, WfL l → l.length ≤ 190 ∧ NoCD 59 32 l := fun ⟨u, ws, e, L, _⟩ => by
    rw [e]
    exact ⟨by have := ln_len L; omega, ln_no L⟩
  have jp : ∀ (Ls : List (List Nat)) (X : Hp), Ls.length ≤ 8 → (∀ l ∈ Ls, l.length ≤ 190) → X pl = some (.lst (Ls.map fun l => V.str (sT l))) → SqL K X pl ((Ls.map sT).map V.str) ∧ (Str.ofString "; ").length ≤ 16 ∧ ((Ls.map sT).map (·.length)).sum + (Ls.map sT).length ≤ 100000 := fun Ls X h1 h2 h3 => by
    have b : ∀ z ∈ Ls.map sT, z.length ≤ 190 := fun z hz => by
      obtain ⟨l, hl, rfl⟩ := List.mem_map.mp hz
      rw [sT_len]
      exact h2 l hl
    have sm := sum_le b
    rw [List.length_map] at sm
    rw [asS] at h3
    exact ⟨SqL.of h3, by rw [semi_t, sT_len]; decide, by rw [List.length_map]; omega⟩
  have j5 := jp (goodL nm rs) H5 (by omega) (fun l hl => (wfl (good_wf hN hD l hl)).1) n5.here
  refine ⟨rfl, _, rfl, _, pl, (goodL nm rs).map sT, rfl, rfl, j5.1, j5.2.1, j5.2.2, ?_⟩
  have S5 := s02.trans s25
  refine ⟨_, rfl, a, ns, 24, rfl, S5.seq hS, h63, by decide, by decide, _, _, rfl, rfl, (show (0 : Int) < 6 by decide), ?_⟩
  dsimp only
  generalize cellF ns 24 % 6 = κ
  refine ⟨_, rfl, ?_⟩
  have ll5 : ((goodL nm rs).map fun l => V.str (sT l)).length = rs.length := by rw [List.length_map, gl]
  have x0 := Int.emod_nonneg (cellF ns 25) (show ((rs.length : Nat) : Int) ≠ 0 by omega)
  have x1 := Int.emod_lt_of_pos (cellF ns 25) (show (0 : Int) < ((rs.length : Nat) : Int) by omega)
  obtain ⟨spot, esp⟩ : ∃ m : Nat, cellF ns 25 % ((rs.length : Nat) : Int) = (m : Int) := ⟨(cellF ns 25 % ((rs.length : Nat) : Int)).toNat, by omega⟩
  have spl : spot < rs.length := by omega
  refine ⟨_, rfl, a, ns, 25, rfl, S5.seq hS, h63, by decide, by decide, _, rfl, pl, _, rfl, .inl (SqL.of n5.here), _, _, rfl, rfl, (by rw [ll5]; omega), ?_⟩
  dsimp only
  rw [ll5, esp]
  refine ⟨fun σ' X => ∃ (Ls : List (List Nat)) (due : Int) (o9 : Option V), σ' = [some (.ref a), some (.int (n : Nat)), some (.ref p), some (.ref pr), some (.ref pl), some (.str (textS (goodL nm rs))), some (.int κ), some (.int due), some (.int (spot : Nat)), o9, none, none, none] ∧ Same H2 X ∧ X pl = some (.lst (Ls.map fun l => V.str (sT l))) ∧ Ls.length = rs.length ∧ (∀ l ∈ Ls, WfL l) ∧ ((κ ≠ 1 ∧ κ ≠ 3 ∧ Ls = goodL nm rs ∧ due = -1) ∨ (due = 1 ∧ (κ = 1 ∨ κ = 3) ∧ ((Ls.map sT).all fun l => plB nm (wsZ l).tail) = false)), ?_, ?_⟩
  · refine orH (c1 := decide (V.int κ = V.int 1)) (c2 := decide (V.int κ = V.int 3)) (fun Q h => ⟨_, rfl, rfl, _, rfl, h⟩) (fun _ Q h => ⟨_, rfl, rfl, _, rfl, h H5 (Same.refl _)⟩) (fun G6 s6 => ?_)
    have n6 : G6 pl = some (.lst ((goodL nm rs).map fun l => V.str (sT l))) := s6 _ _ n5.here
    have s26 := s25.trans s6
    refine ite2 (fun c => ?_) (fun c => ⟨goodL nm rs, -1, none, rfl, s26, n6, gl, good_wf hN hD, .inl ⟨fun z => c ?_, fun z => c ?_, rfl, rfl⟩⟩)
    rotate_left
    · rw [z, decide_eq_true rfl, Bool.true_or]
    · rw [z, decide_eq_true (show V.int 3 = V.int 3 from rfl), Bool.or_true]
    have ck : κ = 1 ∨ κ = 3 := by
      rw [Bool.or_eq_true, decide_eq_true_iff, decide_eq_true_iff, V.int.injEq, V.int.injEq] at c
      exact c
    have S6 := s02.trans s26
    refine ⟨_, rfl, _, rfl, a, ns, 26, rfl, S6.seq hS, h63, by decide, by decide, _, _, rfl, rfl, (show (0 : Int) < 1000003 by decide), p, nm, _, rfl, s26 _ _ hp2, hN, fun l0 G7 s7 nk0 nin0 => ?_⟩
    have s27 := s26.trans s7
    have S7 := s02.trans s27
    obtain ⟨x, hx⟩ : ∃ x, xs[spot]? = some x := ⟨xs[spot], List.getElem?_eq_getElem (by omega)⟩
    obtain ⟨r, hr1, pt, b, rfl, hT, hb, _⟩ := paired_get prs hx
    have hDr := hD r (List.mem_of_getElem? hr1)
    have L := line_ok hN hDr
    refine ⟨fun σ' X => ∃ l : List Nat, σ' = [some (.ref a), some (.int (n : Nat)), some (.ref p), some (.ref pr), some (.ref pl), some (.str (textS (goodL nm rs))), some (.int κ), some (.int 1), some (.int (spot : Nat)), some (.str (sT l)), none, none, none] ∧ X = G7 ∧ NmLike l ∧ (l ∉ nm ∨ l ∈ namesT nm r.2), ?_, ?_⟩
    · have stay : ∃ l : List Nat, [some (V.ref a), some (.int (n : Nat)), some (.ref p), some (.ref pr), some (.ref pl), some (.str (textS (goodL nm rs))), some (.int κ), some (.int 1), some (.int (spot : Nat)), some (.str (sT l0)), none, none, none] = [some (.ref a), some (.int (n : Nat)), some (.ref p), some (.ref pr), some (.ref pl), some (.str (textS (goodL nm rs))), some (.int κ), some (.int 1), some (.int (spot : Nat)), some (.str (sT l)), none, none, none] ∧ G7 = G7 ∧ NmLike l ∧ (l ∉ nm ∨ l ∈ namesT nm r.2) := ⟨l0, rfl, rfl, by have := like_of nk0; rw [cL_sT] at this; exact this, .inl nin0⟩
      refine ⟨_, rfl, _, rfl, pr, _, _, _, rfl, rfl, SqL.of (s27 _ _ hl), atI_nat hx, pt, _, _, _, rfl, rfl, SqT.of (s27 _ _ hT), rfl, b, _, rfl, .inl (SqL.of (s27 _ _ hb)), _, _, rfl, rfl, _, rfl, ite2 (fun d1 => ?_) (fun d1 => iteF stay)⟩
      have d1' := of_decide_eq_true d1
      rw [List.length_map] at d1'
      refine ⟨_, rfl, a, ns, 26, rfl, S7.seq hS, h63, by decide, by decide, _, _, rfl, rfl, (show (0 : Int) < 2 by decide), rfl, _, rfl, ite2 (fun d2 => ?_) (fun d2 => stay)⟩
      have y0 := Int.emod_nonneg (cellF ns 27) (show ((r.2.length : Nat) : Int) ≠ 0 by omega)
      have y1 := Int.emod_lt_of_pos (cellF ns 27) (show (0 : Int) < ((r.2.length : Nat) : Int) by omega)
      obtain ⟨j, ej⟩ : ∃ m : Nat, cellF ns 27 % ((r.2.length : Nat) : Int) = (m : Int) := ⟨(cellF ns 27 % ((r.2.length : Nat) : Int)).toNat, by omega⟩
      have jl : j < r.2.length := by omega
      have vm : r.2[j] ∈ r.2 := List.getElem_mem jl
      have vb := hDr.lt _ vm
      have lm : (r.2.map V.int).length = r.2.length := List.length_map _
      refine ⟨_, rfl, _, rfl, _, rfl, pr, _, _, _, rfl, rfl, SqL.of (s27 _ _ hl), atI_nat hx, pt, _, _, _, rfl, rfl, SqT.of (s27 _ _ hT), rfl, _, rfl, a, ns, 27, rfl, S7.seq hS, h63, by decide, by decide, _, rfl, _, rfl, pr, _, _, _, rfl, rfl, SqL.of (s27 _ _ hl), atI_nat hx, pt, _, _, _, rfl, rfl, SqT.of (s27 _ _ hT), rfl, b, _, rfl, .inl (SqL.of (s27 _ _ hb)), _, _, rfl, rfl, (by rw [lm]; omega), b, _, _, .int r.2[j], rfl, rfl, SqL.of (s27 _ _ hb), ?_, p, _, _, .str (sT (nm.getD r.2[j].toNat [])), rfl, rfl, SqL.of (s27 _ _ hp2), ?_, ?_⟩
      · rw [lm, ej]
        exact atI_nat (by rw [List.getElem?_map, List.getElem?_eq_getElem jl]; rfl)
      · have e : r.2[j] = ((r.2[j].toNat : Nat) : Int) := by omega
        have e2 : atI (nm.map fun l => V.str (sT l)) ((r.2[j].toNat : Nat) : Int) = some (V.str (sT (nm.getD r.2[j].toNat []))) := atI_nat (by
          rw [List.getElem?_map, List.getElem?_eq_getElem (by omega), nm_get vb]
          rfl)
        rw [← e] at e2
        exact e2
      · have inm : nm.getD r.2[j].toNat [] ∈ namesT nm r.2 := List.mem_map.mpr ⟨_, vm, rfl⟩
        exact ⟨_, rfl, rfl, L.ok _ inm, .inr inm⟩
    · rintro σ' X ⟨l, rfl, rfl, lk, lb⟩
      have n7 := s7 _ _ n6
      have gs : (goodL nm rs)[spot]? = some (lnT (headD r.1) (namesT nm r.2)) := by unfold goodL; rw [List.getElem?_map, hr1]; rfl
      have len1 : (sT (lnT (headD r.1) (namesT nm r.2))).length ≤ 108 := by rw [sT_len]; exact ln_len L
      have len2 := lk.1.2
      refine ⟨_, rfl, _, rfl, pl, _, _, .str (sT (lnT (headD r.1) (namesT nm r.2))), rfl, rfl, SqL.of n7, atI_nat (by rw [List.getElem?_map, gs]; rfl), _, _, rfl, rfl, ?_, _, rfl, _, _, rfl, rfl, ?_, ?_⟩
      · rw [blank_t, sT_len [32], sizeLine_eq]
        show _ + 1 ≤ _
        omega
      · rw [len_app, blank_t, sT_len [32], sT_len l, sizeLine_eq]
        show _ + 1 + _ ≤ _
        omega
      have ez : sT (lnT (headD r.1) (namesT nm r.2)) ++ Str.ofString " " ++ sT l = sT (lnT (headD r.1) (namesT nm r.2 ++ [l])) := cL_inj (by
        rw [cL_app, cL_app, blank_t, cL_sT, cL_sT, cL_sT, cL_sT]
        unfold lnT
        rw [rest_snoc]
        simp)
      rw [ez]
      refine ⟨_, rfl, _, rfl, pl, _, _, spot, rfl, rfl, n7, ixN_nat (by rw [ll5]; exact spl), fun G8 c8 => ?_⟩
      have L2 : LnOk (headD r.1) (namesT nm r.2 ++ [l]) := ⟨L.up, fun w hw => by
        rcases List.mem_append.mp hw with hw | hw
        · exact L.ok w hw
        · rw [List.mem_singleton.mp hw]; exact lk, by
        rw [List.length_append, List.length_singleton]
        have := hDr.few hN.few
        unfold namesT
        rw [List.length_map]
        omega⟩
      refine ⟨(goodL nm rs).set spot (lnT (headD r.1) (namesT nm r.2 ++ [l])), 1, _, rfl, s27.chg fpl c8, by rw [c8.here, List.map_set], by rw [List.length_set, gl], mem_set (good_wf hN hD) ⟨_, _, rfl, L2, (good_up hDr.up).1⟩, .inr ⟨rfl, ck, ?_⟩⟩
      rw [List.map_set]
      refine set_any (by rw [List.length_map, gl]; exact spl) ?_
      show plB nm (wsZ (sT (lnT (headD r.1) (namesT nm r.2 ++ [l])))).tail = false
      rw [ln_words L2.colon L2.ok, List.tail_cons]
      exact words_bad lb
  rintro σ' G6 ⟨Ls, due, o9, rfl, s26, n6, lLs, wf, cs⟩
  refine ⟨fun σ' X => ∃ (Ls : List (List Nat)) (due : Int) (o9 o10 : Option V), σ' = [some (.ref a), some (.int (n : Nat)), some (.ref p), some (.ref pr), some (.ref pl), some (.str (textS (goodL nm rs))), some (.int κ), some (.int due), some (.int (spot : Nat)), o9, o10, none, none] ∧ Same H2 X ∧ X pl = some (.lst (Ls.map fun l => V.str (sT l))) ∧ Ls.length = rs.length ∧ (∀ l ∈ Ls, l.length ≤ 190 ∧ NoCD 59 32 l) ∧ ((due = -1 ∧ Ls = goodL nm rs) ∨ (due = 1 ∧ (Ls.map sT).all rowB = true ∧ ((Ls.map sT).all fun l => plB nm (wsZ l).tail) = false) ∨ (due = 0 ∧ (Ls.map sT).all rowB = false)), ?_, ?_⟩
  · refine orH (c1 := decide (V.int κ = V.int 2)) (c2 := decide (V.int κ = V.int 3)) (fun Q h => ⟨_, rfl, rfl, _, rfl, h⟩) (fun _ Q h => ⟨_, rfl, rfl, _, rfl, h G6 (Same.refl _)⟩) (fun G7 s7 => ?_)
    have n7 := s7 _ _ n6
    have s27 := s26.trans s7
    have S7 := s02.trans s27
    refine ite2 (fun c => ?_) (fun c => ⟨Ls, due, o9, none, rfl, s27, n7, lLs, fun l hl => wfl (wf l hl), ?_⟩)
    rotate_left
    · rcases cs with ⟨_, _, e1, e2⟩ | ⟨e1, e2, e3⟩
      · exact .inl ⟨e2, e1⟩
      · exact .inr (.inl ⟨e1, wf_rows wf, e3⟩)
    have lls : (Ls.map fun l => V.str (sT l)).length = rs.length := by rw [List.length_map, lLs]
    have y0 := Int.emod_nonneg (cellF ns 28) (show ((rs.length : Nat) : Int) ≠ 0 by omega)
    have y1 := Int.emod_lt_of_pos (cellF ns 28) (show (0 : Int) < ((rs.length : Nat) : Int) by omega)
    obtain ⟨oth, eo⟩ : ∃ m : Nat, cellF ns 28 % ((rs.length : Nat) : Int) = (m : Int) := ⟨(cellF ns 28 % ((rs.length : Nat) : Int)).toNat, by omega⟩
    have ol : oth < rs.length := by omega
    refine ⟨_, rfl, a, ns, 28, rfl, S7.seq hS, h63, by decide, by decide, _, rfl, pl, _, rfl, .inl (SqL.of n7), _, _, rfl, rfl, (by rw [lls]; omega), ?_⟩
    dsimp only
    rw [lls, eo]
    obtain ⟨lo, hlo⟩ : ∃ l, Ls[oth]? = some l := ⟨Ls[oth]'(by omega), List.getElem?_eq_getElem (by omega)⟩
    obtain ⟨u, ws, rfl, LL, hu'⟩ := wf lo (List.mem_of_getElem? hlo)
    refine ⟨_, rfl, _, rfl, _, rfl, pl, _, _, .str (sT (lnT u ws)), rfl, rfl, SqL.of n7, atI_nat (by rw [List.getElem?_map, hlo]; rfl), a, ns, u, ws, rfl, S7.seq hS, h63, LL, fun z G8 s8 rb nc lz => ?_⟩
    refine ⟨_, rfl, _, rfl, pl, _, _, oth, rfl, rfl, s8 _ _ n7, ixN_nat (by rw [lls]; exact ol), fun G9 c9 => ?_⟩
    refine ⟨Ls.set oth (cL z), 0, o9, _, rfl, (s27.trans s8).chg fpl c9, ?_, by rw [List.length_set, lLs], mem_set (fun l hl => wfl (wf l hl)) ⟨by rw [cL_len]; exact lz, nc⟩, .inr (.inr ⟨rfl, ?_⟩)⟩
    · rw [c9.here, List.map_set, sT_cL]
    · rw [List.map_set]
      exact set_any (by rw [List.length_map, lLs]; exact ol) (by rw [sT_cL]; exact rb)
  rintro σ' G7 ⟨Ls, due, o9, o10, rfl, s27, n7, lLs, lok, cs⟩
  have hp7 := s27 _ _ hp2
  refine ⟨_, rfl, p, _, rfl, .inl (SqL.of hp7), fun ph G8 n8 => ?_⟩
  have s28 := s27.trans n8.same
  have neL : Ls ≠ [] := fun z => by rw [z] at lLs; have : 0 = rs.length := lLs; omega
  have tl := text_lines neL fun l hl => (lok l hl).2
  have gneL : goodL nm rs ≠ [] := fun z => by rw [z] at gl; have : 0 = rs.length := gl; omega
  have gtl := text_lines gneL fun l hl => (wfl (good_wf hN hD l hl)).2
  have lenl : ∀ l ∈ Ls.map sT, l.length ≤ 190 := fun z hz => by
    obtain ⟨l, hl, rfl⟩ := List.mem_map.mp hz
    rw [sT_len]
    exact (lok l hl).1
  have glenl : ∀ l ∈ (goodL nm rs).map sT, l.length ≤ 190 := fun z hz => by
    obtain ⟨l, hl, rfl⟩ := List.mem_map.mp hz
    rw [sT_len]
    exact (wfl (good_wf hN hD l hl)).1
  have d10 : ∀ r ∈ rs, r.2.length ≤ 10 := fun r hr => (hD r hr).few hN.few
  refine ⟨fun σ' X => ∃ pf : Addr, σ' = [some (.ref a), some (.int (n : Nat)), some (.ref p), some (.ref pr), some (.ref pl), some (.str (textS (goodL nm rs))), some (.int κ), some (.int due), some (.int (spot : Nat)), o9, o10, some (.ref ph), some (.ref pf)] ∧ Same G8 X ∧ ((due = -1 ∧ ∃ ys, X pf = some (.lst ys) ∧ Paired (FdE X) ys rs) ∨ (0 ≤ due ∧ X pf = some (.lst [.int due]))), ?_, ?_⟩
  · have j8 := jp Ls G8 (by omega) (fun l hl => (lok l hl).1) (n8.same _ _ n7)
    refine ⟨_, rfl, rfl, _, rfl, _, pl, Ls.map sT, rfl, rfl, j8.1, j8.2.1, j8.2.2, ?_⟩
    refine ⟨ph, nm, textS Ls, rfl, n8.here, hN, text_len (by omega) (fun l hl => (lok l hl).1), by rw [tl, List.length_map]; omega, by rw [tl]; exact lenl, fun gd pf ys G9 s9 h9 P9 => ?_, fun bt pf G9 s9 h9 => ?_, fun ar bn pf G9 s9 h9 => ?_⟩
    · rw [tl] at gd P9
      rcases cs with ⟨e1, e2⟩ | ⟨_, _, e3⟩ | ⟨_, e2⟩
      · rw [e2] at P9
        exact ⟨pf, rfl, s9, .inl ⟨e1, ys, h9, good_fd hN hD P9⟩⟩
      · rw [e3] at gd; cases gd.2
      · rw [e2] at gd; cases gd.1
    · rw [tl] at bt
      rcases cs with ⟨_, e2⟩ | ⟨_, e2, _⟩ | ⟨e1, _⟩
      · rw [e2, (good_all hN hD).1] at bt; cases bt
      · rw [e2] at bt; cases bt
      · exact ⟨pf, rfl, s9, .inr ⟨by omega, by rw [e1]; exact h9⟩⟩
    · rw [tl] at ar bn
      rcases cs with ⟨_, e2⟩ | ⟨e1, _, _⟩ | ⟨_, e2⟩
      · rw [e2, (good_all hN hD).2] at bn; cases bn
      · exact ⟨pf, rfl, s9, .inr ⟨by omega, by rw [e1]; exact h9⟩⟩
      · rw [e2] at ar; cases ar
  rintro σ' G9 ⟨pf, rfl, s89, cf⟩
  have s29 := s28.trans s89
  refine ⟨fun σ' X => σ' = [some (.ref a), some (.int (n : Nat)), some (.ref p), some (.ref pr), some (.ref pl), some (.str (textS (goodL nm rs))), some (.int κ), some (.int due), some (.int (spot : Nat)), o9, o10, some (.ref ph), some (.ref pf)] ∧ Same G9 X, ?_, ?_⟩
  · rcases cf with ⟨e1, ys, h9, P9⟩ | ⟨d0, h9⟩
    · refine ⟨_, rfl, _, _, rfl, rfl, _, rfl, ?_⟩
      rw [decide_eq_false (show ¬ (0 : Int) ≤ due by omega)]
      refine iteF (iteF ?_)
      refine ⟨_, rfl, _, _, rfl, rfl, _, rfl, ?_⟩
      rw [decide_eq_true (show due < 0 by omega)]
      refine iteT ⟨_, rfl, _, rfl, pf, pr, ys, rs, rfl, h9, P9, hE.same s29, l8, d10, fun G10 s10 => ⟨_, rfl, iteF ⟨rfl, s10⟩⟩⟩
    · refine ⟨_, rfl, _, _, rfl, rfl, _, rfl, ?_⟩
      rw [decide_eq_true d0]
      refine iteT ⟨_, rfl, _, rfl, (by show 1 ≤ 1000; decide), fun p10 G10 n10' => ?_⟩
      have se : SeqAt.shaped (.list [PyData.int due]) = true := shaped_ints [due]
      refine ⟨.list [.int due], .list [.int due], .lst (SqL.of (n10'.same _ _ h9)) (.cons (.int due) .nil), .lst (SqL.of n10'.here) (.cons (.int due) .nil), se, se, _, rfl, ?_⟩
      rw [if_pos rfl, eqv_self se]
      refine iteF ?_
      refine ⟨_, rfl, _, _, rfl, rfl, _, rfl, ?_⟩
      rw [decide_eq_false (show ¬ due < 0 by omega)]
      exact iteF (iteF ⟨rfl, n10'.same⟩)
  rintro σ' G10 ⟨rfl, s10⟩
  have s210 := s29.trans s10
  have h10 : NmL G10 ph nm := (s89.trans s10) _ _ n8.here
  refine ⟨_, rfl, _, rfl, ph, nm, textS (goodL nm rs), rfl, h10, hN, text_len (by omega) (fun l hl => (wfl (good_wf hN hD l hl)).1), by rw [gtl, List.length_map]; omega, by rw [gtl]; exact glenl, fun gd pf2 ys G11 s11 h11 P11 => ?_, fun bt => ?_, fun ar bn => ?_⟩
  · rw [gtl] at P11
    refine ⟨_, rfl, pf2, pr, ys, rs, rfl, h11, good_fd hN hD P11, hE.same (s210.trans s11), l8, d10, fun G12 s12 => ?_⟩
    have sh := shaped_strs hN.short
    have s1012 := s11.trans s12
    refine ⟨_, rfl, iteT ?_⟩
    refine ⟨_, rfl, _, rfl, _, _, .lst (SqL.of (s1012 _ _ h10)) (isDs_strs nm), .lst (SqL.of ((s210.trans s1012) _ _ hp2)) (isDs_strs nm), sh, sh, ?_⟩
    rw [if_neg Bool.false_ne_true, eqv_self sh]
    exact q G12
  · rw [gtl, (good_all hN hD).1] at bt
    cases bt
  · rw [gtl, (good_all hN hD).2] at bn
    cases bn
end

end K


open PySem PySem.W PyProof.Rows
set_option maxRecDepth 100000 in
set_option maxHeartbeats 0 in
theorem PySem.Challenge.cw_bagwood_k82_bags_read_holds : PySem.Challenge.rw_bagwood_k82_bags_read.Holds := by
  w_on; o_law; k_head; (case hw => w_witness2)
  k_fill
  refine L2.walk_ofK (l := PySem.Challenge.rw_bagwood_k82_bags_read) (n := 63) (k := 6) (x := "_law_script") (CX := L2.CX0) (sp := Lw.spLaw) rfl (by decide) rfl ⟨rfl, by decide, by decide⟩ (fun w h Y => PySem.W.kIn_of Y) ?F ?S ?C
  case F =>
    intro w mg fa h KX G hmg
    have B : L2.Bl mg := by
      refine' L2.bl_mk KX G ?z1 ?z2 ?z3 ?z4 ?z5 ?z6 ?z7 ?z8 ?z9 ?z10 ?z11 ?z12 ?z13 ?z14 ?z15 ?z16 ?z17
      all_goals k_is
    have d_is_written : Nonempty (L2.Dn (L2.KOf KX) mg "is_written" K.s_is_written ["text", "signs", "most"]) := by
      dsimp only [L2.KOf]
      refine' L2.dn_mk3 KX G ?a ?l ?c ?k rfl (fun _ _ _ _ _ _ _ _ _ => rfl)
      (case a => k_is); (case l => k_is); (case c => k_is); (case k => k_is)
    obtain ⟨d_is_written⟩ := d_is_written
    have d_is_number : Nonempty (L2.Dn (L2.KOf KX) mg "is_number" K.s_is_number ["text"]) := by
      dsimp only [L2.KOf]
      refine' L2.dn_mk1 KX G ?a ?l ?c ?k rfl (fun _ _ _ _ _ _ _ => rfl)
      (case a => k_is); (case l => k_is); (case c => k_is); (case k => k_is)
    obtain ⟨d_is_number⟩ := d_is_number
    have d_is_name : Nonempty (L2.Dn (L2.KOf KX) mg "is_name" K.s_is_name ["text"]) := by
      dsimp only [L2.KOf]
      refine' L2.dn_mk1 KX G ?a ?l ?c ?k rfl (fun _ _ _ _ _ _ _ => rfl)
      (case a => k_is); (case l => k_is); (case c => k_is); (case k => k_is)
    obtain ⟨d_is_name⟩ := d_is_name
    have d_read_row : Nonempty (L2.Dn (L2.KOf KX) mg "read_row" K.s_read_row ["row"]) := by
      dsimp only [L2.KOf]
      refine' L2.dn_mk1 KX G ?a ?l ?c ?k rfl (fun _ _ _ _ _ _ _ => rfl)
      (case a => k_is); (case l => k_is); (case c => k_is); (case k => k_is)
    obtain ⟨d_read_row⟩ := d_read_row
    have d_read_places : Nonempty (L2.Dn (L2.KOf KX) mg "read_places" K.s_read_places ["names", "words"]) := by
      dsimp only [L2.KOf]
      refine' L2.dn_mk2 KX G ?a ?l ?c ?k rfl (fun _ _ _ _ _ _ _ _ => rfl)
      (case a => k_is); (case l => k_is); (case c => k_is); (case k => k_is)
    obtain ⟨d_read_places⟩ := d_read_places
    have d_read_bags : Nonempty (L2.Dn (L2.KOf KX) mg "read_bags" K.s_read_bags ["names", "text"]) := by
      dsimp only [L2.KOf]
      refine' L2.dn_mk2 KX G ?a ?l ?c ?k rfl (fun _ _ _ _ _ _ _ _ => rfl)
      (case a => k_is); (case l => k_is); (case c => k_is); (case k => k_is)
    obtain ⟨d_read_bags⟩ := d_read_bags
    have d__law_cell : Nonempty (L2.Dn (L2.KOf KX) mg "_law_cell" K.s__law_cell ["_law_script", "_law_k"]) := by
      dsimp only [L2.KOf]
      refine' L2.dn_mk2 KX G ?a ?l ?c ?k rfl (fun _ _ _ _ _ _ _ _ => rfl)
      (case a => k_is); (case l => k_is); (case c => k_is); (case k => k_is)
    obtain ⟨d__law_cell⟩ := d__law_cell
    have d__law_mixed : Nonempty (L2.Dn (L2.KOf KX) mg "_law_mixed" K.s__law_mixed ["_law_cell_here", "_law_many"]) := by
      dsimp only [L2.KOf]
      refine' L2.dn_mk2 KX G ?a ?l ?c ?k rfl (fun _ _ _ _ _ _ _ _ => rfl)
      (case a => k_is); (case l => k_is); (case c => k_is); (case k => k_is)
    obtain ⟨d__law_mixed⟩ := d__law_mixed
    have d__law_names : Nonempty (L2.Dn (L2.KOf KX) mg "_law_names" K.s__law_names ["_law_script", "_law_at", "_law_n"]) := by
      dsimp only [L2.KOf]
      refine' L2.dn_mk3 KX G ?a ?l ?c ?k rfl (fun _ _ _ _ _ _ _ _ _ => rfl)
      (case a => k_is); (case l => k_is); (case c => k_is); (case k => k_is)
    obtain ⟨d__law_names⟩ := d__law_names
    have d__law_bag : Nonempty (L2.Dn (L2.KOf KX) mg "_law_bag" K.s__law_bag ["_law_script", "_law_at", "_law_n"]) := by
      dsimp only [L2.KOf]
      refine' L2.dn_mk3 KX G ?a ?l ?c ?k rfl (fun _ _ _ _ _ _ _ _ _ => rfl)
      (case a => k_is); (case l => k_is); (case c => k_is); (case k => k_is)
    obtain ⟨d__law_bag⟩ := d__law_bag
    have d__law_drawn : Nonempty (L2.Dn (L2.KOf KX) mg "_law_drawn" K.s__law_drawn ["_law_script", "_law_n"]) := by
      dsimp only [L2.KOf]
      refine' L2.dn_mk2 KX G ?a ?l ?c ?k rfl (fun _ _ _ _ _ _ _ _ => rfl)
      (case a => k_is); (case l => k_is); (case c => k_is); (case k => k_is)
    obtain ⟨d__law_drawn⟩ := d__law_drawn
    have d__law_line : Nonempty (L2.Dn (L2.KOf KX) mg "_law_line" K.s__law_line ["_law_names_here", "_law_row"]) := by
      dsimp only [L2.KOf]
      refine' L2.dn_mk2 KX G ?a ?l ?c ?k rfl (fun _ _ _ _ _ _ _ _ => rfl)
      (case a => k_is); (case l => k_is); (case c => k_is); (case k => k_is)
    obtain ⟨d__law_line⟩ := d__law_line
    have d__law_strange : Nonempty (L2.Dn (L2.KOf KX) mg "_law_strange" K.s__law_strange ["_law_names_here", "_law_cell_here"]) := by
      dsimp only [L2.KOf]
      refine' L2.dn_mk2 KX G ?a ?l ?c ?k rfl (fun _ _ _ _ _ _ _ _ => rfl)
      (case a => k_is); (case l => k_is); (case c => k_is); (case k => k_is)
    obtain ⟨d__law_strange⟩ := d__law_strange
    have d__law_bad_line : Nonempty (L2.Dn (L2.KOf KX) mg "_law_bad_line" K.s__law_bad_line ["_law_script", "_law_line_here"]) := by
      dsimp only [L2.KOf]
      refine' L2.dn_mk2 KX G ?a ?l ?c ?k rfl (fun _ _ _ _ _ _ _ _ => rfl)
      (case a => k_is); (case l => k_is); (case c => k_is); (case k => k_is)
    obtain ⟨d__law_bad_line⟩ := d__law_bad_line
    have d__law_told : Nonempty (L2.Dn (L2.KOf KX) mg "_law_told" K.s__law_told ["_law_names_here", "_law_text"]) := by
      dsimp only [L2.KOf]
      refine' L2.dn_mk2 KX G ?a ?l ?c ?k rfl (fun _ _ _ _ _ _ _ _ => rfl)
      (case a => k_is); (case l => k_is); (case c => k_is); (case k => k_is)
    obtain ⟨d__law_told⟩ := d__law_told
    have d__law_same : Nonempty (L2.Dn (L2.KOf KX) mg "_law_same" K.s__law_same ["_law_found", "_law_rows"]) := by
      dsimp only [L2.KOf]
      refine' L2.dn_mk2 KX G ?a ?l ?c ?k rfl (fun _ _ _ _ _ _ _ _ => rfl)
      (case a => k_is); (case l => k_is); (case c => k_is); (case k => k_is)
    obtain ⟨d__law_same⟩ := d__law_same
    have d_law : Nonempty (L2.Dn (L2.KOf KX) mg "law" K.s_law ["_law_script"]) := by
      dsimp only [L2.KOf]
      refine' L2.dn_mk1 KX G ?a ?l ?c ?k rfl (fun _ _ _ _ _ _ _ => rfl)
      (case a => k_is); (case l => k_is); (case c => k_is); (case k => k_is)
    obtain ⟨d_law⟩ := d_law
    have Cn : Nonempty (K.Cl (L2.KOf KX) mg) := by
      dsimp only [L2.KOf]
      refine' K.cl_mk KX G ?aBagError ?aNoText ?aNoName ?aNoNumber ?aNoRow ⟨?gNoText1, ?gNoText2, ?gNoText3, ?gNoText4, ?gNoText5, ?gNoText6, ?gNoText7, ?gNoText8⟩ ?vNoText ⟨?gNoName1, ?gNoName2, ?gNoName3, ?gNoName4, ?gNoName5, ?gNoName6, ?gNoName7, ?gNoName8⟩ ?vNoName
      (case aBagError => k_is)
      (case aNoText => k_is)
      (case aNoName => k_is)
      (case aNoNumber => k_is)
      (case aNoRow => k_is)
      (case gNoText1 => k_is)
      (case gNoText2 => k_is)
      (case gNoText3 => k_is)
      (case gNoText4 => k_is)
      (case gNoText5 => k_is)
      (case gNoText6 => k_is)
      (case gNoText7 => k_is)
      (case gNoText8 => kernel_rfl!)
      (case vNoText => kernel_rfl!)
      (case gNoName1 => k_is)
      (case gNoName2 => k_is)
      (case gNoName3 => k_is)
      (case gNoName4 => k_is)
      (case gNoName5 => k_is)
      (case gNoName6 => k_is)
      (case gNoName7 => k_is)
      (case gNoName8 => kernel_rfl!)
      (case vNoName => kernel_rfl!)
    obtain ⟨C⟩ := Cn
    have Ct : Nonempty (K.Cts mg) := by
      refine' K.cts_mk KX G ?aFIGURES ?aLETTERS ?aMOST_FIGURES ?aMOST_LETTERS
      (case aFIGURES => k_is)
      (case aLETTERS => k_is)
      (case aMOST_FIGURES => k_is)
      (case aMOST_LETTERS => k_is)
    obtain ⟨Ct⟩ := Ct
    exact L2.law_at hmg d_law fun base => K.ok_law B C Ct d_is_written d_is_number d_is_name d_read_row d_read_places d_read_bags d__law_cell d__law_mixed d__law_names d__law_bag d__law_drawn d__law_line d__law_strange d__law_bad_line d__law_told d__law_same d_law
  case S => exact fun K H a ns hl hO hS => ⟨a, ns, rfl, Lw.Scr.of hO hS, hl, fun _ => rfl⟩
  case C => exact fun _ _ _ _ z => z

