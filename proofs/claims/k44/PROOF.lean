import PyProof.Rows.All
import Wide.All
import OpenK.AllK
import Wide.FinOn
import Lean
import PyProof.EqAt
import PyProof.EqKinds
import PyProof.TupleCall
import PyProof.SetScanFacts
import PyProof.SetKind
import PyProof.DictKinds
import PyProof.FactsAll.set_0
import PyProof.FactsAll.set_1
import PyProof.FactsAll.set_2
import PyProof.FactsAll.set_3
import PyProof.FactsSeq
import PyProof.CollectWalk
import PyProof.ListRange
import PyProof.ZipIter
import PyProof.MeetsSeq
import PyProof.IsRules
import PyProof.Rows.ZipGen
import PyProof.SumWalkG
import PyProof.DictWalks
import PyProof.Rows.SortShell
import PyProof.Rows.SetFrom
import PyProof.SetRoads
import KE.KIntText
import KE.IntTextLaws
import PyProof.StrWalks
import PyProof.StrOps2
import PyProof.SliceStr2
import PyProof.PureStr
import PyProof.StrCalls3
import PyProof.Rows.StrMadeLen
import PyProof.StrLawsIn
import PySem.Challenge.RW_bagwood_k44_a_ring
set_option Elab.async false
set_option linter.all false
set_option maxRecDepth 100000
local macro_rules | `(tactic| omega) => `(tactic| first | lia | omega (config := {}))
/-! THE HAND LAYER, for ints, bools, texts, own classes, LISTS and tuples (index, slices, in, append, pop ..), calls, loops. Paste it whole ahead of your own text; what your proof does not reach may be deleted. -/
namespace L2
open PySem PySem.Spec PyProof.Rows

/-- a key: an int or a str -/
abbrev Key := Sum Int Str
def keyIs : Key → Value → Bool
  | .inl k, v => Value.isInt k v
  | .inr x, v => Value.isStrOf x v
def keyH (w : World) : Key → Int
  | .inl k => hashInt k
  | .inr x => hashStr w x
theorem keyIs_shape : ∀ {k : Key} {v : Value}, keyIs k v = true → (∃ i t, k = Sum.inl i ∧ v = Value.int i t) ∨ (∃ x t, k = Sum.inr x ∧ v = Value.str x t)
  | .inl i, v, h => by
    obtain ⟨t, e⟩ := Value.isInt_shape (k := i) (v := v) h
    exact .inl ⟨i, t, rfl, e⟩
  | .inr x, v, h => by
    obtain ⟨t, e⟩ := Value.isStrOf_shape (x := x) (v := v) h
    exact .inr ⟨x, t, rfl, e⟩
theorem keyIs_int (i : Int) (t : Tok) : keyIs (.inl i) (.int i t) = true := by simp [keyIs, Value.isInt]
theorem keyIs_str (x : Str) (t : Tok) : keyIs (.inr x) (.str x t) = true := by simp [keyIs, Value.isStrOf]
theorem key_ll (a b : Int) : decide ((Sum.inl a : Key) = Sum.inl b) = (a == b) := by
  by_cases e : a = b
  · subst e; simp
  · have h : ¬ (Sum.inl a : Key) = Sum.inl b := fun q => e (Sum.inl.inj q)
    rw [decide_eq_false h]
    exact (beq_eq_false_iff_ne.mpr e).symm
theorem key_rr (a b : Str) : decide ((Sum.inr a : Key) = Sum.inr b) = decide (a = b) := by
  by_cases e : a = b
  · subst e; simp
  · have h : ¬ (Sum.inr a : Key) = Sum.inr b := fun q => e (Sum.inr.inj q)
    rw [decide_eq_false h, decide_eq_false e]
theorem key_lr (a : Int) (b : Str) : decide ((Sum.inl a : Key) = Sum.inr b) = false := decide_eq_false (fun q => nomatch q)
theorem key_rl (a : Str) (b : Int) : decide ((Sum.inr a : Key) = Sum.inl b) = false := decide_eq_false (fun q => nomatch q)

def mixKind (prog : Program) (w : World) : PySem.KeyKind prog w Key where
  is := keyIs
  hash := keyH w
  inj := fun v a b ha hb => by
    rcases keyIs_shape ha with ⟨i, t, rfl, rfl⟩ | ⟨x, t, rfl, rfl⟩
    · rcases keyIs_shape hb with ⟨j, u, rfl, e⟩ | ⟨y, u, rfl, e⟩
      · injection e with e1 _; rw [e1]
      · exact nomatch e
    · rcases keyIs_shape hb with ⟨j, u, rfl, e⟩ | ⟨y, u, rfl, e⟩
      · exact nomatch e
      · injection e with e1 _; rw [e1]
  byValue := fun k v h => by
    rcases keyIs_shape h with ⟨i, t, rfl, rfl⟩ | ⟨x, t, rfl, rfl⟩ <;> rfl
  pyHash := fun hv h => by
    rcases keyIs_shape hv with ⟨i, t, rfl, rfl⟩ | ⟨x, t, rfl, rfl⟩
    · exact wpAny_pyHash_int h
    · exact wpAny_pyHash_str h
  eqBool := fun hu hv h => by
    rcases keyIs_shape hu with ⟨i, t, rfl, rfl⟩ | ⟨x, t, rfl, rfl⟩
    · rcases keyIs_shape hv with ⟨j, u, rfl, rfl⟩ | ⟨y, u, rfl, rfl⟩
      · rw [key_ll] at h; exact wpAny_eqBool_int h
      · rw [key_lr] at h; exact SeqAt.EqAt.int_str i t y u _ _ _ _ h
    · rcases keyIs_shape hv with ⟨j, u, rfl, rfl⟩ | ⟨y, u, rfl, rfl⟩
      · rw [key_rl] at h; exact SeqAt.EqAt.str_int x t j u _ _ _ _ h
      · rw [key_rr] at h; exact wpAny_eqBool_str h
  «strs» := fun k x t v h => by
    rcases keyIs_shape h with ⟨i, u, rfl, e⟩ | ⟨y, u, rfl, e⟩
    · exact nomatch e
    · injection e with e1 _
      subst e1
      cases v <;> rfl

theorem mixKind_int (prog : Program) (w : World) (i : Int) (t : Tok) : (mixKind prog w).is (.inl i) (.int i t) = true := keyIs_int i t
theorem mixKind_str (prog : Program) (w : World) (x : Str) (t : Tok) : (mixKind prog w).is (.inr x) (.str x t) = true := keyIs_str x t
end L2

namespace L2
open PySem PySem.Spec PyProof.Rows

/-- a value, without the heap -/
inductive V where
  | non | bl (b : Bool) | int (i : Int) | str (x : Str) | byt (b : Array UInt8) | flt (b : UInt64) | ref (a : Addr) | ty (n : String)
  deriving DecidableEq

def RelV : V → Value → Prop
  | .non, u => u = Value.none
  | .bl b, u => u = Value.bool b
  | .int i, u => ∃ t, u = Value.int i t
  | .str x, u => ∃ t, u = Value.str x t
  | .byt b, u => ∃ t, u = Value.bytes b t
  | .flt b, u => ∃ t, u = Value.float b t
  | .ref a, u => u = Value.ref a
  | .ty n, u => u = Value.type n

abbrev Vals : List V → List Value → Prop := Paired RelV
theorem Vals.length {xs : List V} {us : List Value} (r : Vals xs us) : xs.length = us.length := Paired.length r
theorem Vals.get : ∀ {xs : List V} {us : List Value} {i : Nat} {x : V}, Vals xs us → xs[i]? = some x → ∃ u, us[i]? = some u ∧ RelV x u
  | _, _, _, _, .nil, e => by simp at e
  | _, _, 0, _, .cons r _, e => by simp at e; subst e; exact ⟨_, rfl, r⟩
  | _, _, i + 1, x, .cons _ t, e => by
    obtain ⟨u, h1, h2⟩ := Vals.get (i := i) (x := x) t (by simpa using e)
    exact ⟨u, by simpa using h1, h2⟩
theorem Vals.set {x : V} {u : Value} (r : RelV x u) : ∀ {xs : List V} {us : List Value} (i : Nat), Vals xs us → Vals (xs.set i x) (us.set i u)
  | _, _, _, .nil => .nil
  | _, _, 0, .cons _ t => .cons r t
  | _, _, i + 1, .cons q t => .cons q (Vals.set r i t)
theorem Vals.append : ∀ {xs ys : List V} {us ws : List Value}, Vals xs us → Vals ys ws → Vals (xs ++ ys) (us ++ ws)
  | _, _, _, _, .nil, s => s
  | _, _, _, _, .cons r t, s => .cons r (Vals.append t s)
theorem Vals.take : ∀ {xs : List V} {us : List Value} (n : Nat), Vals xs us → Vals (xs.take n) (us.take n)
  | _, _, 0, _ => .nil
  | _, _, _ + 1, .nil => .nil
  | _, _, n + 1, .cons r t => .cons r (Vals.take n t)
theorem Vals.drop : ∀ {xs : List V} {us : List Value} (n : Nat), Vals xs us → Vals (xs.drop n) (us.drop n)
  | _, _, 0, r => r
  | _, _, _ + 1, .nil => .nil
  | _, _, n + 1, .cons _ t => Vals.drop n t

def RelO : Option V → Option Value → Prop
  | some v, some u => RelV v u
  | none, none => True
  | _, _ => False
def KV {κ : Type} : List (κ × V) → List (κ × Value) → Prop := Paired fun (p : κ × V) (q : κ × Value) => p.1 = q.1 ∧ RelV p.2 q.2

/-- a key of a dict (00_mix): an int or a text -/
def kV : Key → V
  | .inl i => .int i
  | .inr x => .str x

/-- what stands at a tracked address -/
inductive HO where
  /-- a list -/
  | lst (xs : List V)
  /-- a tuple (never changes) -/
  | tup (xs : List V)
  /-- a dict whose keys are ints and texts; one whose keys are tuples of ints and texts (the empty one is both) -/
  | dK (kvs : List (Key × V)) | dT (kvs : List (List Key × V))
  /-- a set of ints: its members, its size -/
  | set (S : Int → Bool) (n : Nat)
  /-- an instance of the class at C, its dict at dx, its attributes -/
  | ins (C dx : Addr) (fs : List (Str × V))
  /-- the dict of the instance at x -/
  | own (x : Addr)
  /-- the dict of an exception -/
  | xd (fs : List (Str × V))
  /-- a bound method, f of x -/
  | met (f x : Addr)
  /-- a range object lo, lo + 1, .. below hi -/
  | rng (lo hi : Int)
  /-- a thing that is known to the object (the script; a dict while a loop walks it): read, never written while it is so -/
  | frz (o : Obj) (u : HO)
  /-- a code object's table -/
  | tbl (ps : Array Value)
  /-- any other thing, by what is true of its one object (a def of one's own: SetO a S n := HO.ext fun h => ..) -/
  | ext (φ : Heap → Prop)

abbrev Hp := Addr → Option HO
def upd (H : Hp) (a : Addr) (o : HO) : Hp := fun b => if b = a then some o else H b
theorem upd_same {H : Hp} {a : Addr} {o : HO} : upd H a o a = some o := by unfold upd; rw [if_pos rfl]
theorem upd_ne {H : Hp} {a b : Addr} {o : HO} (h : b ≠ a) : upd H a o b = H b := by unfold upd; rw [if_neg h]
/-- two objects of different content stand apart -/
theorem ne_of {H : Hp} {a b : Addr} {o u : HO} (h : H a = some o) (h' : H b = some u) (d : o ≠ u) : a ≠ b := by
  intro e; subst e; rw [h] at h'; exact d (Option.some.inj h')
theorem ne_of_none {H : Hp} {a b : Addr} {o : HO} (h : H a = some o) (h' : H b = none) : a ≠ b := by
  intro e; subst e; rw [h] at h'; cases h'

section
variable (P : Program) (w : World)
def ObjOk (H : Hp) (h : Heap) (a : Addr) : HO → Prop
  | .lst xs => xs.length ≤ sizeLine ∧ ∃ (its : List Value) (n : Nat), Vals xs its ∧ h.get? a = some { cls := .type "list", data := .seq its.toArray n }
  | .tup xs => xs.length ≤ sizeLine ∧ ∃ its : List Value, Vals xs its ∧ IsTup h a its.toArray
  | .dK kvs => kvs.length ≤ sizeLine ∧ (a == sysModules) = false ∧ ∃ vs, KV kvs vs ∧ h.DictOf (mixKind P w) a vs
  | .dT kvs => kvs.length ≤ sizeLine ∧ (a == sysModules) = false ∧ ∃ xs : List (List Key × Addr × Value),
      Paired (fun (p : List Key × V) (q : List Key × Addr × Value) => p.1 = q.1 ∧ H q.2.1 = some (.tup (p.1.map kV)) ∧ RelV p.2 q.2.2) kvs xs ∧
      ∃ o es ep, h.get? a = some o ∧ o.ExactDict ∧ o.data = .dict es ep ∧ es.toList = xs.map (entryOfKey (tupleKind (mixKind P w))) ∧ (xs.map (·.1)).Nodup
  | .set S n => h.SetOf (intKind P w) a S n
  | .ins C dx fs => H dx = some (.own a) ∧ fs.length ≤ 1000 ∧ dx ≠ a ∧ h.get? a = some (PySem.W.instObj C dx) ∧
      ∃ mA, h.Ns1 dx mA ∧ (∀ f, RelO (fs.lookup f) (mA f)) ∧ PySem.Within mA (fs.map (·.1))
  | .own _ => ∃ o, h.get? a = some o
  | .xd fs => ∃ mA, h.Ns1 a mA ∧ ∀ f, RelO (fs.lookup f) (mA f)
  | .rng lo hi => ∃ t u v, h.get? a = some { cls := .type "range", data := .fields #[.int lo t, .int hi u, .int 1 v] }
  | .frz o u => h.get? a = some o ∧ ObjOk H h a u
  | .tbl ps => h.get? a = some { cls := .none, data := .fields ps }
  | .met f x => h.get? a = some (PySem.W.methodObj (.ref f) (.ref x))
  | .ext φ => φ h ∧ (∃ o, h.get? a = some o) ∧ ∀ h1 h2 : Heap, φ h1 → (∀ o, h1.get? a = some o → h2.get? a = some o) → φ h2
/-- the abstract heap is held -/
def HOk (H : Hp) (h : Heap) : Prop := ∀ a o, H a = some o → ObjOk P w H h a o
end

section
variable {P : Program} {w : World} {H H' : Hp} {h h' : Heap} {a : Addr} {o : HO}
theorem ObjOk.lt (x : ObjOk P w H h a o) : a < h.objs.size := by
  cases o with
  | lst xs => obtain ⟨_, _, _, _, e⟩ := x; exact Heap.lt_size e
  | tup xs => obtain ⟨_, _, _, p⟩ := x; exact p.lt
  | dK kvs => obtain ⟨_, _, _, _, o, _, _, e, _⟩ := x; exact Heap.lt_size e
  | dT kvs => obtain ⟨_, _, _, _, o, _, _, e, _⟩ := x; exact Heap.lt_size e
  | set S n => obtain ⟨o, _, _, _, e, _⟩ := x; exact Heap.lt_size e
  | ins C dx fs => obtain ⟨_, _, _, e, _⟩ := x; exact Heap.lt_size e
  | own y => obtain ⟨_, e⟩ := x; exact Heap.lt_size e
  | xd fs => obtain ⟨_, ⟨_, _, _, e, _⟩, _⟩ := x; exact Heap.lt_size e
  | rng lo hi => obtain ⟨_, _, _, e⟩ := x; exact Heap.lt_size e
  | frz ob u => obtain ⟨e, _⟩ := x; exact Heap.lt_size e
  | tbl ps => exact Heap.lt_size (show h.get? a = some _ from x)
  | met f y => exact Heap.lt_size (show h.get? a = some _ from x)
  | ext φ => obtain ⟨_, ⟨_, e⟩, _⟩ := x; exact Heap.lt_size e
theorem Paired.mapP {α β : Type} {F G : α → β → Prop} : ∀ {l₁ : List α} {l₂ : List β}, Paired F l₁ l₂ → (∀ a b, F a b → G a b) → Paired G l₁ l₂
  | _, _, .nil, _ => .nil
  | _, _, .cons r t, f => .cons (f _ _ r) (Paired.mapP t f)
/-- what an object's description leans on: its own object, its own dict, the tuples -/
theorem ObjOk.stay (x : ObjOk P w H h a o) (k : ∀ b u, (b = a ∨ H b = some (.own a)) → h.get? b = some u → h'.get? b = some u)
    (ho : ∀ b, H b = some (.own a) → H' b = some (.own a)) (ht : ∀ b xs, H b = some (.tup xs) → H' b = some (.tup xs)) : ObjOk P w H' h' a o := by
  induction o with
  | lst xs => obtain ⟨z, its, n, r, e⟩ := x; exact ⟨z, its, n, r, k _ _ (.inl rfl) e⟩
  | tup xs => obtain ⟨z, its, r, ob, e, c⟩ := x; exact ⟨z, its, r, ob, k _ _ (.inl rfl) e, c⟩
  | dK kvs => obtain ⟨z, y, vs, r, ob, es, ep, e, c⟩ := x; exact ⟨z, y, vs, r, ob, es, ep, k _ _ (.inl rfl) e, c⟩
  | dT kvs =>
    obtain ⟨z, y, xs, r, ob, es, ep, e, c⟩ := x
    exact ⟨z, y, xs, Paired.mapP r fun p q z => ⟨z.1, ht _ _ z.2.1, z.2.2⟩, ob, es, ep, k _ _ (.inl rfl) e, c⟩
  | set S n => obtain ⟨ob, es, ep, t, e, c⟩ := x; exact ⟨ob, es, ep, t, k _ _ (.inl rfl) e, c⟩
  | ins C dx fs =>
    obtain ⟨d, z, ne, e, mA, ⟨od, es, ep, e2, c⟩, r⟩ := x
    exact ⟨ho _ d, z, ne, k _ _ (.inl rfl) e, mA, ⟨od, es, ep, k _ _ (.inr d) e2, c⟩, r⟩
  | own y => obtain ⟨ob, e⟩ := x; exact ⟨ob, k _ _ (.inl rfl) e⟩
  | xd fs => obtain ⟨mA, ⟨od, es, ep, e, c⟩, r⟩ := x; exact ⟨mA, ⟨od, es, ep, k _ _ (.inl rfl) e, c⟩, r⟩
  | rng lo hi => obtain ⟨t, u, v, e⟩ := x; exact ⟨t, u, v, k _ _ (.inl rfl) e⟩
  | frz ob u ih => obtain ⟨e, q⟩ := x; exact ⟨k _ _ (.inl rfl) e, ih q⟩
  | tbl ps =>
    have e : h.get? a = some { cls := .none, data := .fields ps } := x
    show h'.get? a = some { cls := .none, data := .fields ps }
    exact k a _ (.inl rfl) e
  | met f y =>
    have e : h.get? a = some (PySem.W.methodObj (.ref f) (.ref y)) := x
    show h'.get? a = some (PySem.W.methodObj (.ref f) (.ref y))
    exact k a _ (.inl rfl) e
  | ext φ => obtain ⟨p, ⟨o, e⟩, st⟩ := x; exact ⟨st _ _ p fun o q => k _ _ (.inl rfl) q, ⟨o, k _ _ (.inl rfl) e⟩, st⟩
theorem HOk.lt (x : HOk P w H h) (e : H a = some o) : a < h.objs.size := (x a o e).lt
theorem HOk.fresh (x : HOk P w H h) (e : h.objs.size ≤ a) : H a = none := by
  cases q : H a with
  | none => rfl
  | some u => exact absurd (Nat.lt_of_lt_of_le (x.lt q) e) (Nat.lt_irrefl _)
/-- every object of the heap is kept -/
theorem HOk.kept (x : HOk P w H h) (k : ∀ b u, h.get? b = some u → h'.get? b = some u) : HOk P w H h' := fun a o e =>
  (x a o e).stay (fun b u _ q => k b u q) (fun _ q => q) fun _ _ q => q
/-- a new object is laid and tracked -/
theorem HOk.laid (x : HOk P w H h) (k : ∀ b u, h.get? b = some u → h'.get? b = some u) (hp : h.objs.size ≤ a) (new : ObjOk P w (upd H a o) h' a o) : HOk P w (upd H a o) h' := fun b u e => by
  have hn := x.fresh hp
  by_cases hb : b = a
  · subst hb; rw [upd_same] at e; cases e; exact new
  · rw [upd_ne hb] at e
    exact (x b u e).stay (fun c v _ q => k c v q) (fun c q => by rw [upd_ne (ne_of_none q hn)]; exact q) fun c xs q => by rw [upd_ne (ne_of_none q hn)]; exact q
end

/-- what may be read as u: it is u, or a known u -/
def Rd (H : Hp) (a : Addr) (u : HO) : Prop := H a = some u ∨ ∃ o, H a = some (.frz o u)
theorem Rd.ok {P : Program} {w : World} {H : Hp} {h : Heap} {a : Addr} {u : HO} (r : Rd H a u) (x : HOk P w H h) : ObjOk P w H h a u := by
  rcases r with r | ⟨o, r⟩
  · exact x a u r
  · obtain ⟨_, q⟩ := x a _ r
    exact q
/-- what may be written -/
def Mut : Option HO → Prop
  | some (.lst _) => True
  | some (.dK _) => True
  | some (.dT _) => True
  | some (.set _ _) => True
  | some (.ins _ _ _) => True
  | some (.ext _) => True
  | _ => False
section
variable {P : Program} {w : World} {H : Hp} {h h' : Heap} {x e : Addr} {o' : HO}
/-- the object at e is changed: x itself, or the dict of the instance x -/
theorem HOk.write (ok : HOk P w H h) (mu : Mut (H x)) (he : e = x ∨ H e = some (.own x)) (k : ∀ b u, b ≠ e → h.get? b = some u → h'.get? b = some u) (heo : ∃ u, h'.get? e = some u)
    (new : ObjOk P w (upd H x o') h' x o') : HOk P w (upd H x o') h' := fun b u q => by
  have nown : ∀ c y, H c = some (.own y) → c ≠ x := fun c y r z => by subst z; rw [r] at mu; exact mu
  have ntup : ∀ c xs, H c = some (.tup xs) → c ≠ x := fun c xs r z => by subst z; rw [r] at mu; exact mu
  by_cases hb : b = x
  · subst hb; rw [upd_same] at q; cases q; exact new
  · rw [upd_ne hb] at q
    by_cases hbe : b = e
    · have q' : H b = some (.own x) := by
        rcases he with z | z
        · exact absurd (hbe.trans z) hb
        · rw [hbe]; exact z
      rw [q] at q'; cases q'
      obtain ⟨v, hv⟩ := heo
      exact ⟨v, by rw [hbe]; exact hv⟩
    · refine (ok b u q).stay (fun c v hc r => k c v ?_ r) (fun c r => by rw [upd_ne (nown c b r)]; exact r) fun c xs r => by rw [upd_ne (ntup c xs r)]; exact r
      rcases hc with rfl | hc
      · exact hbe
      · rintro rfl
        rcases he with z | z
        · exact nown c b hc z
        · rw [hc] at z; cases z; exact hb rfl
end

/-! ### kept unless tracked; of the frames at fs (the callers') the slots may change (an exception that passes writes there); of the records at ex (iterators) nothing is said -/
structure Un (fs ex : List Addr) (H H' : Hp) (h h' : Heap) : Prop where
  keep : ∀ b o, h.get? b = some o → H b = none → b ∉ fs → b ∉ ex → h'.get? b = some o
  slot : ∀ b o, h.get? b = some o → H b = none → b ∈ fs → b ∉ ex → ∃ sl, h'.get? b = some { o with slots := sl }
  free : ∀ b o, h.get? b = some o → H b = none → b ∉ ex → H' b = none
  there : ∀ b o, h.get? b = some o → b ∉ ex → ∃ o', h'.get? b = some o'
  tups : ∀ b xs, H b = some (.tup xs) → H' b = some (.tup xs)
  frzs : ∀ b o u, H b = some (.frz o u) → H' b = some (.frz o u)
  tbls : ∀ b ps, H b = some (.tbl ps) → ∃ more, H' b = some (.tbl (ps ++ more))
section
variable {fs fs' ex ex' : List Addr} {H H1 H2 : Hp} {h h1 h2 h' : Heap} {a x e : Addr} {o : HO}
theorem Un.any (u : Un fs ex H H1 h h1) {b : Addr} {ob : Obj} (q : h.get? b = some ob) (n : H b = none) (hx : b ∉ ex) : ∃ sl, h1.get? b = some { ob with slots := sl } := by
  by_cases hb : b ∈ fs
  · exact u.slot b ob q n hb hx
  · exact ⟨ob.slots, u.keep b ob q n hb hx⟩
theorem Un.kept (k : ∀ b u, h.get? b = some u → h'.get? b = some u) : Un fs ex H H h h' :=
  ⟨fun b ob q _ _ _ => k b ob q, fun b ob q _ _ _ => ⟨ob.slots, k b ob q⟩, fun _ _ _ n _ => n, fun b ob q _ => ⟨ob, k b ob q⟩, fun _ _ q => q, fun _ _ _ q => q, fun _ ps q => ⟨#[], by rw [q]; simp⟩⟩
theorem Un.refl : Un fs ex H H h h := Un.kept fun _ _ q => q
theorem Un.laid (k : ∀ b u, h.get? b = some u → h'.get? b = some u) (hp : h.objs.size ≤ a) (hn : H a = none) : Un fs ex H (upd H a o) h h' where
  keep := fun b u q _ _ _ => k b u q
  slot := fun b u q _ _ _ => ⟨u.slots, k b u q⟩
  free := fun b u q n _ => by rw [upd_ne (Nat.ne_of_lt (Nat.lt_of_lt_of_le (Heap.lt_size q) hp))]; exact n
  there := fun b u q _ => ⟨u, k b u q⟩
  tups := fun b xs q => by rw [upd_ne (ne_of_none q hn)]; exact q
  frzs := fun b u xs q => by rw [upd_ne (ne_of_none q hn)]; exact q
  tbls := fun b ps q => ⟨#[], by rw [upd_ne (ne_of_none q hn), q]; simp⟩
theorem Un.write (mu : Mut (H x)) (he : e = x ∨ H e = some (.own x)) (k : ∀ b u, b ≠ e → h.get? b = some u → h'.get? b = some u) (heo : ∃ u, h'.get? e = some u) : Un fs ex H (upd H x o) h h' := by
  have hx : ∀ b, H b = none → b ≠ x := fun b n z => by subst z; rw [n] at mu; exact mu
  have hb : ∀ b, H b = none → b ≠ e := fun b n z => by
    subst z
    rcases he with r | r
    · exact hx b n r
    · rw [n] at r; cases r
  have hm : ∀ b u, H b = some u → ¬ Mut (some u) → b ≠ x := fun b u q nm z => by subst z; rw [q] at mu; exact nm mu
  refine ⟨fun b u q n _ _ => k b u (hb b n) q, fun b u q n _ _ => ⟨u.slots, k b u (hb b n) q⟩, fun b u q n _ => by rw [upd_ne (hx b n)]; exact n, fun b u q _ => ?_,
    fun b xs q => by rw [upd_ne (hm b _ q fun z => z)]; exact q, fun b u xs q => by rw [upd_ne (hm b _ q fun z => z)]; exact q, fun b ps q => ⟨#[], by rw [upd_ne (hm b _ q fun z => z), q]; simp⟩⟩
  by_cases hbe : b = e
  · subst hbe; exact heo
  · exact ⟨u, k b u hbe q⟩
end

/-! ### the heap without what is tracked -/
def trk (h : Heap) (H : Hp) : List Addr := (List.range h.objs.size).filter fun a => (H a).isSome
def hidT (h : Heap) (H : Hp) : Heap := PySem.W.hideAll h (trk h H)
theorem hidT_size (h : Heap) (H : Hp) : (hidT h H).objs.size = h.objs.size := PySem.W.hideAll_size _ _
theorem hidT_get {h : Heap} {H : Hp} {b : Addr} {o : Obj} (e : h.get? b = some o) (n : H b = none) : (hidT h H).get? b = some o :=
  PySem.W.hideAll_get _ e fun hm => by
    have q : (H b).isSome = true := (List.mem_filter.mp hm).2
    rw [n] at q; simp at q
theorem of_hidT {h : Heap} {H : Hp} {b : Addr} {o : Obj} (e : (hidT h H).get? b = some o) : h.get? b = some o ∧ H b = none := by
  have e' : h.get? b = some o := PySem.W.of_hideAll (trk h H) e
  refine ⟨e', ?_⟩
  cases q : H b with
  | none => rfl
  | some x =>
    have hm : b ∈ trk h H := List.mem_filter.mpr ⟨List.mem_range.mpr (Heap.lt_size e'), by simp [q]⟩
    have z : (hidT h H).get? b = none := PySem.W.hideAll_none (trk h H) hm
    rw [z] at e; cases e

/-! ### OpenK's ledger, filled with every new object but one -/
end L2

namespace L2
open PySem PySem.Spec PyProof.Rows

/-- the module's facts, over the base: the heap at the law's entry without what is tracked there -/
structure Mod (K : PySem.W.Frag) (mg : Str → Option Value) (base : Heap) : Prop where
  kin : K.In base
  glob : base.Ns mainGlobals mg
  blt : ∃ mb, base.Ns builtinsNs mb ∧ ∀ x : Str, x ≠ "__name__" → mb x = bootBuiltins x
  nolimit : base.NoLimit

/-- the context: a def's body (or a comprehension's block) running. base: fixed through the whole law; s₀, H₀: the entry; outer: the frames whose slots others may change (a def's callers); stack: all frames that run;
   ex: iterators that were made ahead of the entry and are walked here (a comprehension's); fn: the names whose cells were made at the entry (a def: all; a comprehension's block: its own); calm: not within an except suite; pn: pins that every state bears; xe: what is wanted of an exception that leaves the code -/
structure Cx where
  prog : Program
  w : World
  K : PySem.W.Frag
  mg : Str → Option Value
  base : Heap
  A : Around
  N : List Str
  s₀ : Shared
  H₀ : Hp
  env : Env
  outer : List Env
  stack : List Env
  ex : List Addr
  fn : Str → Bool
  calm : Bool
  pn : List (Addr × Obj)
  xe : Value → Shared → Prop
/-- the callers' frames -/
def frs (l : List Env) : List Addr := l.filterMap (·.frame)
abbrev Cx.fs (X : Cx) : List Addr := frs X.outer

def Vis (sc : Scope) (x : Str) : Prop := sc.names.lookup x = some .local ∨ sc.names.lookup x = some .cell ∨ sc.names.lookup x = some .free
def Loc (sc : Scope) (x : Str) : Prop := sc.names.lookup x = some .local ∨ sc.names.lookup x = some .cell
def Look (env : Env) (h : Heap) (m : Str → Option Value) (x : Str) (u : Value) : Prop :=
  (env.kindOf x = some .local ∧ m x = some u) ∨ ((env.kindOf x = some .cell ∨ env.kindOf x = some .free) ∧ ∃ c, env.cells.lookup x = some c ∧ h.IsCell c (some u))

structure Cx.Ok (X : Cx) : Prop where
  mod : Mod X.K X.mg X.base
  kind : X.env.scope.kind = .function
  glob : X.env.globals = mainGlobals
  blt : X.env.builtins = builtinsNs
  above : X.s₀.heap.objs.size ≤ X.env.locals
  inj : ∀ x y c, X.env.cells.lookup x = some c → X.env.cells.lookup y = some c → x = y
  has : ∀ x, (X.env.kindOf x = some .cell ∨ X.env.kindOf x = some .free) → ∃ c, X.env.cells.lookup x = some c
  cab : ∀ x c, X.fn x = true → X.env.cells.lookup x = some c → X.s₀.heap.objs.size ≤ c
  hd : X.calm = true → X.A.handled = none
  frames : X.A.frames = some X.stack
  stk : X.stack = X.outer ∨ (X.stack = X.env :: X.outer ∧ X.env.frame = some X.env.locals)
  exf : ∀ b ∈ X.ex, b ≠ X.env.locals ∧ ∀ x c, X.env.cells.lookup x = some c → c ≠ b
  bs : ∀ b o, X.base.get? b = some o → X.s₀.heap.get? b = some o ∧ X.H₀ b = none
  bsz : X.base.objs.size ≤ X.s₀.heap.objs.size
  noex : ∀ b o, X.base.get? b = some o → b ∉ X.ex
  exfs : ∀ b ∈ X.ex, b ∉ X.fs
  funs : X.s₀.heap.FunFrames X.base X.outer
  frf : ∀ b ∈ X.fs, X.H₀ b = none

structure Inv (X : Cx) (pins : List (Addr × Obj)) (σ : List (Option V)) (H : Hp) (s : Shared) : Prop where
  ok : X.Ok
  os : s.os = X.s₀.os
  bare : AllBare s.gens
  base : Un X.fs X.ex X.H₀ H X.s₀.heap s.heap
  loc : ∃ m, s.heap.Ns X.env.locals m ∧ ∀ (i : Nat) (x : Str) (v : V), X.N[i]? = some x → σ[i]? = some (some v) → Vis X.env.scope x → ∃ u, RelV v u ∧ Look X.env s.heap m x u
  cell : ∀ x c, X.env.cells.lookup x = some c → ∃ v, s.heap.IsCell c v
  free : H X.env.locals = none
  freeC : ∀ x c, X.env.cells.lookup x = some c → H c = none
  pin : ∀ p ∈ X.pn ++ pins, s.heap.get? p.1 = some p.2 ∧ H p.1 = none ∧ p.1 ≠ X.env.locals ∧ p.1 ∉ X.fs ∧ ∀ v, p.2.data ≠ .cell v
  hok : HOk X.prog X.w H s.heap
  len : σ.length = X.N.length

section
variable {X : Cx} {pins : List (Addr × Obj)} {σ : List (Option V)} {H H' : Hp} {s : Shared} {h' : Heap}

theorem Cx.Ok.nofr (ok : X.Ok) {b : Addr} {o : Obj} (e : X.base.get? b = some o) : b ∉ X.fs := fun hb => by
  have := (ok.funs.mem hb).1
  rw [e] at this; cases this
theorem Inv.bs (I : Inv X pins σ H s) : ∀ b o, X.base.get? b = some o → s.heap.get? b = some o ∧ H b = none := fun b o e =>
  ⟨I.base.keep b o (I.ok.bs b o e).1 (I.ok.bs b o e).2 (I.ok.nofr e) (I.ok.noex b o e), I.base.free b o (I.ok.bs b o e).1 (I.ok.bs b o e).2 (I.ok.noex b o e)⟩
theorem Inv.bk (I : Inv X pins σ H s) : ∀ b o, X.base.get? b = some o → s.heap.get? b = some o := fun b o e => (I.bs b o e).1
theorem Inv.mod (I : Inv X pins σ H s) : Mod X.K X.mg X.base := I.ok.mod
theorem Inv.kIn (I : Inv X pins σ H s) : X.K.In s.heap := I.ok.mod.kin.keeps I.bk
theorem Inv.lt (I : Inv X pins σ H s) : X.env.locals < s.heap.objs.size := let ⟨_, hn, _⟩ := I.loc; hn.lt
theorem Inv.sz (I : Inv X pins σ H s) : X.s₀.heap.objs.size ≤ s.heap.objs.size := Nat.le_trans I.ok.above (Nat.le_of_lt I.lt)
theorem Inv.nofs (I : Inv X pins σ H s) {a : Addr} (h : s.heap.objs.size ≤ a) : a ∉ X.fs := fun hb => by
  obtain ⟨_, o, ho, _⟩ := I.ok.funs.mem hb
  exact absurd (Nat.lt_of_lt_of_le (Heap.lt_size ho) (Nat.le_trans I.sz h)) (Nat.lt_irrefl _)
theorem Inv.cne (I : Inv X pins σ H s) : ∀ x c, X.env.cells.lookup x = some c → c ≠ X.env.locals := fun x c e z => by
  obtain ⟨v, o, ho, hd⟩ := I.cell x c e
  obtain ⟨m, ⟨o', es, ep, ho', hd', _⟩, _⟩ := I.loc
  rw [z, ho'] at ho; cases ho; rw [hd'] at hd; cases hd
theorem Inv.funs (I : Inv X pins σ H s) : s.heap.FunFrames X.base X.outer := by
  have all : ∀ (l : List Env), (∀ b ∈ frs l, b ∈ X.fs) → X.s₀.heap.FunFrames X.base l → s.heap.FunFrames X.base l := by
    intro l
    induction l with
    | nil => intro _ _; trivial
    | cons env r ih =>
      intro hs hl
      obtain ⟨hk, ⟨L, o, hf, hn, ho, hd⟩, hr⟩ := hl
      have hL : L ∈ X.fs := hs L (by unfold frs; rw [List.filterMap_cons, hf]; exact List.mem_cons_self)
      obtain ⟨sl, e⟩ := I.base.slot L o ho (I.ok.frf L hL) hL fun z => I.ok.exfs L z hL
      exact ⟨hk, ⟨L, _, hf, hn, e, hd⟩, ih (fun b hb => hs b (by unfold frs; rw [List.filterMap_cons, hf]; exact List.mem_cons_of_mem _ hb)) hr⟩
  exact all X.outer (fun _ hb => hb) I.ok.funs

/-- the frames that run, for a call -/
theorem Inv.stack (I : Inv X pins σ H s) : s.heap.FunFrames X.base X.stack := by
  rcases I.ok.stk with e | ⟨e, hf⟩
  · rw [e]; exact I.funs
  · rw [e]
    obtain ⟨m, hn, _⟩ := I.loc
    refine .cons (by rw [I.ok.kind]; decide) hf hn ?_ I.funs
    exact Heap.get?_none_of_le (Nat.le_trans I.ok.bsz I.ok.above)
theorem Inv.stkSub (I : Inv X pins σ H s) : ∀ b ∈ frs X.stack, b ∈ X.env.locals :: X.fs := fun b hb => by
  rcases I.ok.stk with e | ⟨e, hf⟩
  · rw [e] at hb; exact List.mem_cons_of_mem _ hb
  · rw [e] at hb
    unfold frs at hb
    rw [List.filterMap_cons, hf] at hb
    exact hb
theorem Inv.stkFree (I : Inv X pins σ H s) : ∀ b ∈ frs X.stack, H b = none := fun b hb => by
  rcases List.mem_cons.mp (I.stkSub b hb) with e | hb
  · rw [e]; exact I.free
  · obtain ⟨_, o, ho, _⟩ := I.ok.funs.mem hb
    exact I.base.free b o ho (I.ok.frf b hb) fun z => I.ok.exfs b z hb

/-- THE STEP: the untracked objects but the frame and the records at ch are kept (the callers' frames up to slots), the frame's map is kept, the new abstract heap is held -/
theorem Inv.step {g' : Array GenState} {t' : Nat} {d' : Drawn} {ch : List Addr} (I : Inv X pins σ H s)
    (hch : ∀ b ∈ ch, (b ∈ X.ex ∨ X.s₀.heap.objs.size ≤ b) ∧ b ≠ X.env.locals ∧ (∀ x c, X.env.cells.lookup x = some c → c ≠ b) ∧ ∀ p ∈ X.pn ++ pins, p.1 ≠ b)
    (keep : ∀ b o, b ≠ X.env.locals → b ∉ X.fs → b ∉ ch → s.heap.get? b = some o → H b = none → h'.get? b = some o)
    (slot : ∀ b o, b ≠ X.env.locals → b ∈ X.fs → b ∉ ch → s.heap.get? b = some o → H b = none → ∃ sl, h'.get? b = some { o with slots := sl }) (free : ∀ b o, b ∉ ch → s.heap.get? b = some o → H b = none → H' b = none)
    (there : ∀ b o, b ∉ ch → s.heap.get? b = some o → ∃ o', h'.get? b = some o')
    (tups : ∀ b xs, H b = some (.tup xs) → H' b = some (.tup xs)) (frzs : ∀ b o u, H b = some (.frz o u) → H' b = some (.frz o u)) (tbls : ∀ b ps, H b = some (.tbl ps) → ∃ more, H' b = some (.tbl (ps ++ more)))
    (ns : ∀ m, s.heap.Ns X.env.locals m → h'.Ns X.env.locals m) (hok : HOk X.prog X.w H' h') (hg : AllBare g') :
    Inv X pins σ H' { s with heap := h', gens := g', drawn := d', toks := t' } := by
  have neL : ∀ b o, X.s₀.heap.get? b = some o → b ≠ X.env.locals := fun b o e => Nat.ne_of_lt (Nat.lt_of_lt_of_le (Heap.lt_size e) I.ok.above)
  have neC : ∀ b o, X.s₀.heap.get? b = some o → b ∉ X.ex → b ∉ ch := fun b o e hx hb => by
    rcases (hch b hb).1 with z | z
    · exact hx z
    · exact absurd (Nat.lt_of_lt_of_le (Heap.lt_size e) z) (Nat.lt_irrefl _)
  have cellK : ∀ x c, X.env.cells.lookup x = some c → ∀ v, s.heap.IsCell c v → h'.IsCell c v := fun x c e v ⟨o, ho, hd⟩ => by
    have nch : c ∉ ch := fun z => (hch c z).2.2.1 x c e rfl
    by_cases hc : c ∈ X.fs
    · obtain ⟨sl, q⟩ := slot c o (I.cne x c e) hc nch ho (I.freeC x c e)
      exact ⟨_, q, hd⟩
    · exact ⟨o, keep c o (I.cne x c e) hc nch ho (I.freeC x c e), hd⟩
  refine ⟨I.ok, I.os, hg, ⟨fun b o e n hb hx => ?_, fun b o e n hb hx => ?_, fun b o e n hx => ?_, fun b o e hx => ?_, fun b xs e => tups b xs (I.base.tups b xs e), fun b o xs e => frzs b o xs (I.base.frzs b o xs e), fun b ps e => ?_⟩, ?_, fun x c e => ?_, ?_, fun x c e => ?_, fun p hp => ?_, hok, I.len⟩
  · exact keep b o (neL b o e) hb (neC b o e hx) (I.base.keep b o e n hb hx) (I.base.free b o e n hx)
  · obtain ⟨sl, e1⟩ := I.base.slot b o e n hb hx
    obtain ⟨sl', e2⟩ := slot b _ (neL b o e) hb (neC b o e hx) e1 (I.base.free b o e n hx)
    exact ⟨sl', e2⟩
  · obtain ⟨o', e1⟩ := I.base.there b o e hx
    exact free b o' (neC b o e hx) e1 (I.base.free b o e n hx)
  · obtain ⟨o', e1⟩ := I.base.there b o e hx
    exact there b o' (neC b o e hx) e1
  · obtain ⟨m1, e1⟩ := I.base.tbls b ps e
    obtain ⟨m2, e2⟩ := tbls b _ e1
    exact ⟨m1 ++ m2, by rw [e2, Array.append_assoc]⟩
  · obtain ⟨m, hn, hl⟩ := I.loc
    refine ⟨m, ns m hn, fun i x v e1 e2 e3 => ?_⟩
    obtain ⟨u, r, l⟩ := hl i x v e1 e2 e3
    refine ⟨u, r, ?_⟩
    rcases l with l | ⟨k, c, e, z⟩
    · exact .inl l
    · exact .inr ⟨k, c, e, cellK x c e _ z⟩
  · obtain ⟨v, z⟩ := I.cell x c e
    exact ⟨v, cellK x c e v z⟩
  · obtain ⟨m, ⟨o, _, _, ho, _⟩, _⟩ := I.loc
    exact free _ o (fun z => (hch _ z).2.1 rfl) ho I.free
  · obtain ⟨v, o, ho, hd⟩ := I.cell x c e
    exact free c o (fun z => (hch c z).2.2.1 x c e rfl) ho (I.freeC x c e)
  · obtain ⟨e, n, ne, nf, d⟩ := I.pin p hp
    have nch : p.1 ∉ ch := fun z => (hch p.1 z).2.2.2 p hp rfl
    exact ⟨keep p.1 p.2 ne nf nch e n, free p.1 p.2 nch e n, ne, nf, d⟩
/-- .. where the frame's own object is kept too -/
theorem Inv.un {t' : Nat} (I : Inv X pins σ H s) (u : Un X.fs [] H H' s.heap h') (hok : HOk X.prog X.w H' h') : Inv X pins σ H' { s with heap := h', toks := t' } := by
  obtain ⟨m, ⟨o, es, ep, ho, r⟩, _⟩ := id I.loc
  obtain ⟨sl, hL⟩ := u.any ho I.free (by simp)
  exact I.step (g' := s.gens) (d' := s.drawn) (ch := []) (fun _ z => nomatch z) (fun b o _ hb _ e n => u.keep b o e n hb (by simp)) (fun b o _ hb _ e n => u.slot b o e n hb (by simp)) (fun b o _ e n => u.free b o e n (by simp)) (fun b o _ e => u.there b o e (by simp)) u.tups u.frzs u.tbls (fun m' hm => by
    obtain ⟨o', es', ep', ho', r'⟩ := hm
    rw [ho] at ho'; cases ho'
    exact ⟨_, es', ep', hL, r'⟩) hok I.bare
/-- behind a call (or a comprehension's block): the slots of this frame may have changed too, the records at ch may have turned -/
theorem Inv.call {g' : Array GenState} {t' : Nat} {d' : Drawn} {ch : List Addr} (I : Inv X pins σ H s) (u : Un (frs X.stack) ch H H' s.heap h') (hok : HOk X.prog X.w H' h') (hg : AllBare g')
    (hch : ∀ b ∈ ch, (b ∈ X.ex ∨ X.s₀.heap.objs.size ≤ b) ∧ b ≠ X.env.locals ∧ (∀ x c, X.env.cells.lookup x = some c → c ≠ b) ∧ ∀ p ∈ X.pn ++ pins, p.1 ≠ b) :
    Inv X pins σ H' { s with heap := h', gens := g', drawn := d', toks := t' } := by
  obtain ⟨m, ⟨o, es, ep, ho, r⟩, _⟩ := id I.loc
  obtain ⟨sl, hL⟩ := u.any ho I.free fun z => (hch _ z).2.1 rfl
  exact I.step (ch := ch) hch (fun b o hL hb hc e n => u.keep b o e n (fun z => (List.mem_cons.mp (I.stkSub b z)).elim hL hb) hc) (fun b o _ _ hc e n => u.any e n hc) (fun b o hc e n => u.free b o e n hc) (fun b o hc e => u.there b o e hc) u.tups u.frzs u.tbls (fun m' hm => by
    obtain ⟨o', es', ep', ho', r'⟩ := hm
    rw [ho] at ho'; cases ho'
    exact ⟨_, es', ep', hL, r'⟩) hok hg
/-- an untracked record of ours (an iterator) has turned -/
theorem Inv.turned {t' : Nat} {it : Addr} (I : Inv X pins σ H s) (k : ∀ b o, b ≠ it → s.heap.get? b = some o → h'.get? b = some o) (hn : H it = none) (hL : it ≠ X.env.locals)
    (h1 : it ∈ X.ex ∨ X.s₀.heap.objs.size ≤ it) (h2 : ∀ x c, X.env.cells.lookup x = some c → c ≠ it) (h3 : ∀ p ∈ X.pn ++ pins, p.1 ≠ it) : Inv X pins σ H { s with heap := h', toks := t' } := by
  have nit : ∀ b u, H b = some u → b ≠ it := fun b u e z => by rw [z, hn] at e; cases e
  refine I.step (g' := s.gens) (d' := s.drawn) (ch := [it]) (fun b hb => ?_) (fun b o _ _ hc e _ => k b o (fun z => hc (by simp [z])) e) (fun b o _ _ hc e _ => ⟨o.slots, k b o (fun z => hc (by simp [z])) e⟩) (fun _ _ _ _ n => n)
    (fun b o hc e => ⟨o, k b o (fun z => hc (by simp [z])) e⟩) (fun _ _ e => e) (fun _ _ _ e => e) (fun b ps e => ⟨#[], by rw [e]; simp⟩) (fun m hm => ?_) (fun b u e => ?_) I.bare
  · have e : b = it := by simpa using hb
    subst e
    exact ⟨h1, hL, h2, h3⟩
  · obtain ⟨o, es, ep, ho, r⟩ := hm
    exact ⟨o, es, ep, k _ o (Ne.symm hL) ho, r⟩
  · refine (I.hok b u e).stay (fun c v hc q => k c v ?_ q) (fun _ q => q) fun _ _ q => q
    rcases hc with z | z
    · rw [z]; exact nit b u e
    · exact nit c _ z
theorem Inv.tok (I : Inv X pins σ H s) (t : Nat) : Inv X pins σ H { s with toks := t } := I.un (h' := s.heap) (t' := t) Un.refl I.hok
/-- all objects kept -/
theorem Inv.kept {t' : Nat} (I : Inv X pins σ H s) (k : ∀ b u, s.heap.get? b = some u → h'.get? b = some u) : Inv X pins σ H { s with heap := h', toks := t' } := I.un (Un.kept k) (I.hok.kept k)
/-- a new object laid and tracked -/
theorem Inv.laid {a : Addr} {o : HO} {t' : Nat} (I : Inv X pins σ H s) (k : ∀ b u, s.heap.get? b = some u → h'.get? b = some u) (hp : s.heap.objs.size ≤ a) (new : ObjOk X.prog X.w (upd H a o) h' a o) :
    Inv X pins σ (upd H a o) { s with heap := h', toks := t' } := I.un (Un.laid k hp (I.hok.fresh hp)) (I.hok.laid k hp new)
/-- an object written -/
theorem Inv.write {x e : Addr} {o : HO} {t' : Nat} (I : Inv X pins σ H s) (mu : Mut (H x)) (he : e = x ∨ H e = some (.own x)) (k : ∀ b u, b ≠ e → s.heap.get? b = some u → h'.get? b = some u) (heo : ∃ u, h'.get? e = some u)
    (new : ObjOk X.prog X.w (upd H x o) h' x o) : Inv X pins σ (upd H x o) { s with heap := h', toks := t' } := I.un (Un.write mu he k heo) (I.hok.write mu he k heo new)
theorem Inv.pins_of {pins' : List (Addr × Obj)} (I : Inv X pins σ H s) (h : ∀ p ∈ pins', s.heap.get? p.1 = some p.2 ∧ H p.1 = none ∧ p.1 ≠ X.env.locals ∧ p.1 ∉ X.fs ∧ ∀ v, p.2.data ≠ .cell v) : Inv X pins' σ H s :=
  ⟨I.ok, I.os, I.bare, I.base, I.loc, I.cell, I.free, I.freeC, fun p hp => (List.mem_append.mp hp).elim (fun z => I.pin p (List.mem_append_left _ z)) (h p), I.hok, I.len⟩

theorem nodup_ix {N : List Str} (hN : N.Nodup) {i j : Nat} {x : Str} (a : N[i]? = some x) (b : N[j]? = some x) : i = j := by
  obtain ⟨h1, e1⟩ := List.getElem?_eq_some_iff.mp a
  obtain ⟨h2, e2⟩ := List.getElem?_eq_some_iff.mp b
  exact (List.getElem_inj hN).mp (e1.trans e2.symm)

/-- a name is stored; what changed -/
theorem store_ok2 {M : Model} {A : Around} {E : Value → Shared → Prop} {i : Nat} {x : Str} {v : V} {u : Value} {Q : Unit → Shared → Prop} (I : Inv X pins σ H s) (hN : X.N.Nodup) (hi : X.N[i]? = some x) (hx : Loc X.env.scope x) (r : RelV v u)
    (h : ∀ s', Inv X pins (σ.set i (some v)) H s' → (∃ a, Heap.SameBut a s.heap s'.heap ∧ (a = X.env.locals ∨ X.env.cells.lookup x = some a)) → Q () s') (hf : X.fn x = true ∨ X.env.scope.names.lookup x = some .local := by first | exact .inl rfl | exact .inr rfl | assumption) : wpAny M A (storeName X.env x u) Q E s := by
  obtain ⟨m, hn, hl⟩ := id I.loc
  have hcls : (X.env.scope.kind == .class || (X.env.scope.kind == .module && X.env.locals != X.env.globals)) = false := by rw [I.ok.kind]; rfl
  have hiσ : i < σ.length := by rw [I.len]; exact (List.getElem?_eq_some_iff.mp hi).1
  have cne := I.cne
  have tracked : ∀ {a : Addr} {h' : Heap}, (∃ o, s.heap.get? a = some o ∧ H a = none) → Heap.SameBut a s.heap h' → HOk X.prog X.w H h' := fun {a h'} ha hs b ob e => by
    obtain ⟨_, _, hfree⟩ := ha
    refine (I.hok b ob e).stay (fun c w' hc q => (hs.2 c ?_).trans q) (fun _ q => q) fun _ _ q => q
    rintro rfl
    rcases hc with rfl | hc
    · rw [hfree] at e; cases e
    · rw [hfree] at hc; cases hc
  rcases hx with hk | hk
  · refine wpAny_storeName_local hk hn (fun h' hn' hs => ?_) hcls
    obtain ⟨oL, _, _, hoL, _⟩ := id hn
    refine h _ ⟨I.ok, I.os, I.bare, ⟨fun b o e n hb hx => ?_, fun b o e n hb hx => ?_, I.base.free, fun b o e hx => ?_, I.base.tups, I.base.frzs, I.base.tbls⟩, ⟨_, hn', fun j y v' e1 e2 e3 => ?_⟩, fun y c e => ?_, I.free, I.freeC, fun p hp => ?_, tracked ⟨oL, hoL, I.free⟩ hs, by simpa using I.len⟩ ⟨_, hs, .inl rfl⟩
    · exact (hs.2 b (Nat.ne_of_lt (Nat.lt_of_lt_of_le (Heap.lt_size e) I.ok.above))).trans (I.base.keep b o e n hb hx)
    · obtain ⟨sl, e1⟩ := I.base.slot b o e n hb hx
      exact ⟨sl, (hs.2 b (Nat.ne_of_lt (Nat.lt_of_lt_of_le (Heap.lt_size e) I.ok.above))).trans e1⟩
    · obtain ⟨o', e1⟩ := I.base.there b o e hx
      exact ⟨o', (hs.2 b (Nat.ne_of_lt (Nat.lt_of_lt_of_le (Heap.lt_size e) I.ok.above))).trans e1⟩
    · by_cases hj : j = i
      · subst hj
        rw [hi] at e1; cases e1
        rw [List.getElem?_set_self hiσ] at e2
        cases e2
        exact ⟨u, r, .inl ⟨hk, by simp⟩⟩
      · rw [List.getElem?_set_ne (Ne.symm hj)] at e2
        obtain ⟨u', r', q⟩ := hl j y v' e1 e2 e3
        refine ⟨u', r', ?_⟩
        rcases q with ⟨k, e⟩ | ⟨k, c, e, z⟩
        · refine .inl ⟨k, ?_⟩
          have : y ≠ x := fun e => hj (nodup_ix hN e1 (e ▸ hi))
          simp [this, e]
        · exact .inr ⟨k, c, e, z.sameBut hs (cne y c e)⟩
    · obtain ⟨w', z⟩ := I.cell y c e
      exact ⟨w', z.sameBut hs (cne y c e)⟩
    · obtain ⟨e, n, ne, nf, d⟩ := I.pin p hp
      exact ⟨(hs.2 p.1 ne).trans e, n, ne, nf, d⟩
  · have hfn : X.fn x = true := by
      rcases hf with z | z
      · exact z
      · rw [z] at hk; cases hk
    obtain ⟨c, hc⟩ := I.ok.has x (.inl hk)
    obtain ⟨w', z⟩ := I.cell x c hc
    refine wpAny_storeName_cell I.ok.kind hk hc z (fun h' hc' hs => ?_)
    obtain ⟨oc, hoc, hocd⟩ := id z
    refine h { s with heap := h' } ⟨I.ok, I.os, I.bare, ⟨fun b o e n hb hx => ?_, fun b o e n hb hx => ?_, I.base.free, fun b o e hx => ?_, I.base.tups, I.base.frzs, I.base.tbls⟩, ⟨m, hn.sameBut hs (Ne.symm (cne x c hc)), fun j y v' e1 e2 e3 => ?_⟩, fun y c' e => ?_, I.free, I.freeC, fun p hp => ?_, tracked ⟨oc, hoc, I.freeC x c hc⟩ hs, by simpa using I.len⟩ ⟨c, hs, .inr hc⟩
    · exact (hs.2 b (Nat.ne_of_lt (Nat.lt_of_lt_of_le (Heap.lt_size e) (I.ok.cab x c hfn hc)))).trans (I.base.keep b o e n hb hx)
    · obtain ⟨sl, e1⟩ := I.base.slot b o e n hb hx
      exact ⟨sl, (hs.2 b (Nat.ne_of_lt (Nat.lt_of_lt_of_le (Heap.lt_size e) (I.ok.cab x c hfn hc)))).trans e1⟩
    · obtain ⟨o', e1⟩ := I.base.there b o e hx
      exact ⟨o', (hs.2 b (Nat.ne_of_lt (Nat.lt_of_lt_of_le (Heap.lt_size e) (I.ok.cab x c hfn hc)))).trans e1⟩
    · by_cases hj : j = i
      · subst hj
        rw [hi] at e1; cases e1
        rw [List.getElem?_set_self hiσ] at e2
        cases e2
        exact ⟨u, r, .inr ⟨.inl hk, c, hc, hc'⟩⟩
      · rw [List.getElem?_set_ne (Ne.symm hj)] at e2
        obtain ⟨u', r', q⟩ := hl j y v' e1 e2 e3
        refine ⟨u', r', ?_⟩
        rcases q with q | ⟨k, c', e, z'⟩
        · exact .inl q
        · refine .inr ⟨k, c', e, z'.sameBut hs ?_⟩
          rintro rfl
          exact hj (nodup_ix hN e1 (I.ok.inj _ _ _ e hc ▸ hi))
    · by_cases hcc : c' = c
      · subst hcc; exact ⟨_, hc'⟩
      · obtain ⟨w2, z2⟩ := I.cell y c' e
        exact ⟨w2, z2.sameBut hs hcc⟩
    · obtain ⟨e, n, ne, nf, d⟩ := I.pin p hp
      refine ⟨(hs.2 p.1 ?_).trans e, n, ne, nf, d⟩
      intro q
      rw [q, hoc] at e
      have q' : oc = p.2 := Option.some.inj e
      exact d w' (by rw [← q']; exact hocd)
theorem store_ok {M : Model} {A : Around} {E : Value → Shared → Prop} {i : Nat} {x : Str} {v : V} {u : Value} {Q : Unit → Shared → Prop} (I : Inv X pins σ H s) (hN : X.N.Nodup) (hi : X.N[i]? = some x) (hx : Loc X.env.scope x) (r : RelV v u)
    (h : ∀ s', Inv X pins (σ.set i (some v)) H s' → Q () s') (hf : X.fn x = true ∨ X.env.scope.names.lookup x = some .local := by first | exact .inl rfl | exact .inr rfl | assumption) : wpAny M A (storeName X.env x u) Q E s :=
  store_ok2 I hN hi hx r (fun s' I' _ => h s' I') hf
/-- behind a call or a block, the state as it is -/
theorem Inv.call' {s' : Shared} {ch : List Addr} (I : Inv X pins σ H s) (ho : s'.os = s.os) (u : Un (frs X.stack) ch H H' s.heap s'.heap) (hok : HOk X.prog X.w H' s'.heap) (hg : AllBare s'.gens)
    (hch : ∀ b ∈ ch, (b ∈ X.ex ∨ X.s₀.heap.objs.size ≤ b) ∧ b ≠ X.env.locals ∧ (∀ x c, X.env.cells.lookup x = some c → c ≠ b) ∧ ∀ p ∈ X.pn ++ pins, p.1 ≠ b) : Inv X pins σ H' s' := by
  obtain ⟨h', g', d', t', o'⟩ := s'
  have e : o' = s.os := ho
  subst e
  exact I.call (g' := g') (t' := t') (d' := d') u hok hg hch
end

/-! ### the judgements -/
/-- an exception: its class, its own dict's address (where it has one), the abstract heap behind it -/
abbrev XK := Value → Option Addr → Hp → Prop
abbrev St := List (Option V)
abbrev VK := V → Hp → Prop
/-- an expression's reading; a test's; an argument list's -/
abbrev TE := St → Hp → VK → Prop
abbrev TT := St → Hp → (Bool → Hp → Prop) → Prop
abbrev TA := St → Hp → (List V → Hp → Prop) → Prop
/-- what is wanted behind a statement -/
structure Ends where
  nx : St → Hp → Prop
  rt : VK
  bk : St → Hp → Prop := fun _ _ => False
  ct : St → Hp → Prop := fun _ _ => False
abbrev TS := Ends → St → Hp → Prop

def EP (X : Cx) (pins : List (Addr × Obj)) (σ : St) (Q : VK) (u : Value) (s' : Shared) : Prop := ∃ v H', Inv X pins σ H' s' ∧ RelV v u ∧ Q v H'
def TP (X : Cx) (pins : List (Addr × Obj)) (σ : St) (Q : Bool → Hp → Prop) (b : Bool) (s' : Shared) : Prop := ∃ H', Inv X pins σ H' s' ∧ Q b H'
def AP (X : Cx) (pins : List (Addr × Obj)) (σ : St) (Q : List V → Hp → Prop) (us : List Value) (s' : Shared) : Prop := ∃ vs H', Inv X pins σ H' s' ∧ Vals vs us ∧ Q vs H'
def SP (X : Cx) (pins : List (Addr × Obj)) (D : Ends) (f : Flow) (s' : Shared) : Prop :=
  match f with
  | .next => ∃ σ' H', Inv X pins σ' H' s' ∧ D.nx σ' H'
  | .brk => ∃ σ' H', Inv X pins σ' H' s' ∧ D.bk σ' H'
  | .cont => ∃ σ' H', Inv X pins σ' H' s' ∧ D.ct σ' H'
  | .ret u => ∃ v σ' H', Inv X pins σ' H' s' ∧ RelV v u ∧ D.rt v H'

def PE (X : Cx) (e : Expr) (t : TE) : Prop :=
  ∀ (pins : List (Addr × Obj)) (s : Shared) (σ : St) (H : Hp) (Q : VK), Inv X pins σ H s → t σ H Q → wpAny (model X.prog X.w) X.A (eval e X.env) (EP X pins σ Q) X.xe s
def PT (X : Cx) (e : Expr) (t : TT) : Prop :=
  ∀ (pins : List (Addr × Obj)) (s : Shared) (σ : St) (H : Hp) (Q : Bool → Hp → Prop), Inv X pins σ H s → t σ H Q → wpAny (model X.prog X.w) X.A (isTrue e X.env (eval e X.env)) (TP X pins σ Q) X.xe s
/-- a test whatever its 'whole' is (and, or) -/
def PW (X : Cx) (e : Expr) (t : TT) : Prop :=
  ∀ (whole : Sem Value) (pins : List (Addr × Obj)) (s : Shared) (σ : St) (H : Hp) (Q : Bool → Hp → Prop), Inv X pins σ H s → t σ H Q → wpAny (model X.prog X.w) X.A (isTrue e X.env whole) (TP X pins σ Q) X.xe s
theorem PW.pt {X : Cx} {e : Expr} {t : TT} (h : PW X e t) : PT X e t := h _
/-- an argument list (no star), from the left -/
def PA (X : Cx) (es : List Expr) (t : TA) : Prop :=
  ∀ (pos : Pos) (pins : List (Addr × Obj)) (s : Shared) (σ : St) (H : Hp) (Q : List V → Hp → Prop), Inv X pins σ H s → t σ H Q → wpAny (model X.prog X.w) X.A (spliced (backTo pos (starEach es X.env))) (AP X pins σ Q) X.xe s
def PS (X : Cx) (st : Stmt) (t : TS) : Prop :=
  ∀ (pins : List (Addr × Obj)) (s : Shared) (σ : St) (H : Hp) (D : Ends), Inv X pins σ H s → t D σ H → wpAny (model X.prog X.w) X.A (exec st X.env) (SP X pins D) X.xe s
def PSs (X : Cx) (st : List Stmt) (t : TS) : Prop :=
  ∀ (pins : List (Addr × Obj)) (s : Shared) (σ : St) (H : Hp) (D : Ends), Inv X pins σ H s → t D σ H → wpAny (model X.prog X.w) X.A (execs st X.env) (SP X pins D) X.xe s
/-- weaken the end -/
theorem thn {α : Type} {t : Sem α} {Q Q' : α → Shared → Prop} {M : Model} {A : Around} {E : Value → Shared → Prop} {s : Shared} (h : wpAny M A t Q E s) (hQ : ∀ a s, Q a s → Q' a s) : wpAny M A t Q' E s := wpAny_mono h hQ fun _ _ x => x
end L2

namespace L2
open PySem PySem.Spec PyProof.Rows
section
variable {X : Cx}


/-! ### names and constants -/
def tVar (i : Nat) : TE := fun σ H Q => ∃ v, σ[i]? = some (some v) ∧ Q v H
def tC (v : V) : TE := fun _ H Q => Q v H
theorem pe_var {i : Nat} {x : Str} {pos : Pos} (hN : X.N[i]? = some x) (hv : Vis X.env.scope x) (hd : (x == ("__debug__" : Str)) = false := by decide) (hcd : (x == ("__classdict__" : Str)) = false := by decide) : PE X (.Name x pos) (tVar i) := by
  intro pins s σ H Q I h
  obtain ⟨v, e, h⟩ := h
  obtain ⟨m, hn, hl⟩ := I.loc
  obtain ⟨u, r, l⟩ := hl i x v hN e hv
  have fin : EP X pins σ Q u s := ⟨v, H, I, r, h⟩
  rcases l with ⟨hk, hm⟩ | ⟨hk, c, hc, hcell⟩
  · exact wpAny_Name (wpAny_loadName_local I.ok.kind hk hn hm fin) hd
  · rcases hk with hk | hk
    · exact wpAny_Name (wpAny_loadName_cell I.ok.kind hk hc hcell fin) hd
    · exact wpAny_Name (wpAny_loadName_free I.ok.kind hk hc hcell fin hcd) hd
theorem pe_int {i j pos} : PE X (.Constant (.int i) j pos) (tC (.int i)) := fun _ _ _ H _ I h => wpAny_Constant_int ⟨.int i, H, I.tok _, ⟨_, rfl⟩, h⟩
theorem pe_bl {b j pos} : PE X (.Constant (.bool b) j pos) (tC (.bl b)) := fun _ _ _ H _ I h => Constant_bool ⟨.bl b, H, I, rfl, h⟩
theorem pe_non {j pos} : PE X (.Constant .none j pos) (tC .non) := fun _ _ _ H _ I h => Constant_none ⟨.non, H, I, rfl, h⟩
theorem pe_str {x j pos} : PE X (.Constant (.str x) j pos) (tC (.str x)) := fun _ _ _ H _ I h => Calls.Constant_str ⟨.str x, H, I.tok _, ⟨_, rfl⟩, h⟩

/-- a global name of the def -/
def Gl (X : Cx) (x : Str) : Prop := X.env.kindOf x = some .globalImplicit
theorem ld_glob {E : Value → Shared → Prop} {pins : List (Addr × Obj)} {s : Shared} {σ : St} {H : Hp} {x : Str} {u : Value} {pos : Pos} {Q : Value → Shared → Prop} (I : Inv X pins σ H s) (hg : Gl X x) (hm : X.mg x = some u) (h : Q u s)
    (hd : (x == ("__debug__" : Str)) = false := by decide) : wpAny (model X.prog X.w) X.A (eval (.Name x pos) X.env) Q E s :=
  Calls.Name_function_global I.ok.kind hg (Calls.loadGlobal_global (by rw [I.ok.glob]; exact I.mod.glob.keeps I.bk) hm h) hd
theorem ld_blt {E : Value → Shared → Prop} {pins : List (Addr × Obj)} {s : Shared} {σ : St} {H : Hp} {x : Str} {u : Value} {pos : Pos} {Q : Value → Shared → Prop} (I : Inv X pins σ H s) (hg : Gl X x) (hm : X.mg x = none) (hv : bootBuiltins x = some u) (h : Q u s)
    (hn : x ≠ "__name__" := by decide) (hd : (x == ("__debug__" : Str)) = false := by decide) : wpAny (model X.prog X.w) X.A (eval (.Name x pos) X.env) Q E s := by
  obtain ⟨mb, h1, h2⟩ := I.mod.blt
  exact Calls.Name_function_global I.ok.kind hg (Calls.loadGlobal_builtin (by rw [I.ok.glob]; exact I.mod.glob.keeps I.bk) hm (by rw [I.ok.blt]; exact h1.keeps I.bk) ((h2 x hn).trans hv) h) hd
theorem pe_bltn {x : Str} {v : V} {u : Value} {pos : Pos} (hg : Gl X x) (hm : X.mg x = none) (hv : bootBuiltins x = some u) (r : RelV v u) (hn : x ≠ "__name__" := by decide) (hd : (x == ("__debug__" : Str)) = false := by decide) : PE X (.Name x pos) (tC v) :=
  fun _ _ _ H _ I h => ld_blt I hg hm hv ⟨v, H, I, r, h⟩ hn hd

/-! ### arithmetic -/
variable {a b : Expr} {ta tb : TE} {pos : Pos}

/-! ### comparisons -/

/-! ### and, or, not -/
variable {tA tB' : TT} {rest : List Expr}
def tOr (t u : TT) : TT := fun σ H Q => t σ H fun c H1 => if c = true then Q true H1 else u σ H1 Q
def tNot (t : TT) : TT := fun σ H Q => t σ H fun c H1 => Q (!c) H1
theorem pw_or1 (ha : PT X a tA) : PW X (.BoolOp .Or [a] pos) tA := by
  intro wh pins s σ H Q I h
  refine isTrue_or (thn (ha pins s σ H Q I h) fun c s1 e => ?_)
  cases c with
  | false => exact isTrue_or_nil e
  | true => exact e
theorem pw_or (ha : PT X a tA) (hb : PW X (.BoolOp .Or (b :: rest) pos) tB') : PW X (.BoolOp .Or (a :: b :: rest) pos) (tOr tA tB') := by
  intro wh pins s σ H Q I h
  refine isTrue_or (thn (ha pins s σ H _ I h) fun c s1 ⟨H1, I1, q1⟩ => ?_)
  cases c with
  | true => exact ⟨H1, I1, q1⟩
  | false => exact hb wh pins s1 σ H1 Q I1 q1
theorem pt_not (ha : PT X a tA) : PT X (.UnaryOp .Not a pos) (tNot tA) := by
  intro pins s σ H Q I h
  exact isTrue_not (ha pins s σ H (fun c H1 => Q (!c) H1) I h)
/-- .. as values (bools) -/
def tAndV (ta tb : TE) : TE := fun σ H Q => ta σ H fun x H1 => ∃ c, x = .bl c ∧ if c = true then tb σ H1 Q else Q (.bl false) H1
def tNotV (ta : TE) : TE := fun σ H Q => ta σ H fun x H1 => ∃ c, x = .bl c ∧ Q (.bl (!c)) H1
theorem pe_one {op} {t : TE} (h : PE X a t) : PE X (.BoolOp op [a] pos) t := fun pins s σ H Q I hw => BoolOp_one (h pins s σ H Q I hw)
theorem pe_and (ha : PE X a ta) (hb : PE X (.BoolOp .And (b :: rest) pos) tb) : PE X (.BoolOp .And (a :: b :: rest) pos) (tAndV ta tb) := by
  intro pins s σ H Q I h
  refine BoolOp_and (thn (ha pins s σ H _ I h) fun v s1 ⟨x, H1, I1, r1, q1⟩ => ?_)
  obtain ⟨c, rfl, q1⟩ := q1
  cases r1
  refine wpAny_truthy_bool ?_
  cases c with
  | true => exact hb pins s1 σ H1 Q I1 q1
  | false => exact ⟨.bl false, H1, I1, rfl, q1⟩
theorem pe_not (ha : PE X a ta) : PE X (.UnaryOp .Not a pos) (tNotV ta) := by
  intro pins s σ H Q I h
  refine UnaryOp_ (thn (ha pins s σ H _ I h) fun v s1 ⟨x, H1, I1, r1, q1⟩ => ?_)
  obtain ⟨c, rfl, q1⟩ := q1
  cases r1
  exact not_of (wpAny_truthy_bool ⟨.bl (!c), H1, I1, rfl, q1⟩)
end
end L2

namespace L2
open PySem PySem.Spec PyProof.Rows

/-! ### a list, a tuple that is read: tracked, frozen, or an object of the module -/
def SqL (K : PySem.W.Frag) (H : Hp) (a : Addr) (xs : List V) : Prop :=
  Rd H a (.lst xs) ∨
    ∃ (o : Obj) (its : Array Value) (n : Nat), K.lookup a = some o ∧ o.cls = .type "list" ∧ o.dict = none ∧ o.data = .seq its n ∧ its.size ≤ sizeLine ∧ Vals xs its.toList
def SqT (K : PySem.W.Frag) (H : Hp) (a : Addr) (xs : List V) : Prop :=
  Rd H a (.tup xs) ∨
    ∃ (o : Obj) (its : Array Value) (n : Nat), K.lookup a = some o ∧ o.cls = .type "tuple" ∧ o.data = .seq its n ∧ its.size ≤ sizeLine ∧ Vals xs its.toList
def absV : Value → Option V
  | .none => some .non
  | .bool b => some (.bl b)
  | .int i _ => some (.int i)
  | .str x _ => some (.str x)
  | .bytes b _ => some (.byt b)
  | .float b _ => some (.flt b)
  | .ref a => some (.ref a)
  | .type n => some (.ty n)
  | _ => none
theorem RelV.abs {x : V} {u : Value} (r : RelV x u) : absV u = some x := by
  cases x with
  | non => cases r; rfl
  | bl _ => cases r; rfl
  | int _ => obtain ⟨t, rfl⟩ := r; rfl
  | str _ => obtain ⟨t, rfl⟩ := r; rfl
  | byt _ => obtain ⟨t, rfl⟩ := r; rfl
  | flt _ => obtain ⟨t, rfl⟩ := r; rfl
  | ref _ => cases r; rfl
  | ty _ => cases r; rfl
theorem RelV.inj {x y : V} {u : Value} (r : RelV x u) (q : RelV y u) : x = y := Option.some.inj (r.abs.symm.trans q.abs)
theorem Vals.inj : ∀ {xs ys : List V} {us : List Value}, Vals xs us → Vals ys us → xs = ys
  | _, _, _, .nil, .nil => rfl
  | _, _, _, .cons r t, .cons r' t' => by rw [r.inj r', Vals.inj t t']
section
variable {X : Cx} {pins : List (Addr × Obj)} {σ : St} {H : Hp} {s : Shared} {a : Addr} {xs ys : List V}
theorem SqL.of {K : PySem.W.Frag} (h : H a = some (.lst xs)) : SqL K H a xs := .inl (.inl h)
theorem SqT.of {K : PySem.W.Frag} (h : H a = some (.tup xs)) : SqT K H a xs := .inl (.inl h)
theorem Inv.list (I : Inv X pins σ H s) (h : SqL X.K H a xs) : ∃ its : List Value, Vals xs its ∧ PlainL s.heap a its.toArray ∧ xs.length ≤ sizeLine := by
  rcases h with h | ⟨o, its, n, hk, hc, hd, hs, hz, r⟩
  · obtain ⟨z, its, n, r, e⟩ := h.ok I.hok
    exact ⟨its, r, ⟨_, n, e, rfl, rfl, rfl⟩, z⟩
  · refine ⟨its.toList, r, ⟨o, n, I.kIn a o hk, hc, hd, by simpa using hs⟩, ?_⟩
    have e := r.length
    simp only [Array.length_toList] at e
    omega
theorem Inv.tuple (I : Inv X pins σ H s) (h : SqT X.K H a xs) : ∃ its : List Value, Vals xs its ∧ IsTup s.heap a its.toArray ∧ xs.length ≤ sizeLine := by
  rcases h with h | ⟨o, its, n, hk, hc, hs, hz, r⟩
  · obtain ⟨z, its, r, p⟩ := h.ok I.hok
    exact ⟨its, r, p, z⟩
  · refine ⟨its.toList, r, ⟨o, I.kIn a o hk, hc, n, by simpa using hs⟩, ?_⟩
    have e := r.length
    simp only [Array.length_toList] at e
    omega
theorem Inv.list_inj (I : Inv X pins σ H s) (h : SqL X.K H a xs) (h' : SqL X.K H a ys) : xs = ys := by
  obtain ⟨its, r, ⟨o, n, e, _, _, d⟩, _⟩ := I.list h
  obtain ⟨its', r', ⟨o', n', e', _, _, d'⟩, _⟩ := I.list h'
  rw [e] at e'; cases e'
  rw [d] at d'
  injection d' with d1 _
  have : its = its' := by simpa using congrArg Array.toList d1
  subst this
  exact r.inj r'
end

/-! ### another wish about exceptions -/
abbrev Cx.wish (X : Cx) (E : Value → Shared → Prop) : Cx := { X with xe := E }
/-- no exception leaves -/
abbrev Cx.nox (X : Cx) : Cx := X.wish fun _ _ => False
theorem Cx.Ok.wish {X : Cx} (ok : X.Ok) (E : Value → Shared → Prop) : (X.wish E).Ok :=
  ⟨ok.mod, ok.kind, ok.glob, ok.blt, ok.above, ok.inj, ok.has, ok.cab, ok.hd, ok.frames, ok.stk, ok.exf, ok.bs, ok.bsz, ok.noex, ok.exfs, ok.funs, ok.frf⟩
theorem Cx.Ok.unwish {X : Cx} {E : Value → Shared → Prop} (ok : (X.wish E).Ok) : X.Ok :=
  ⟨ok.mod, ok.kind, ok.glob, ok.blt, ok.above, ok.inj, ok.has, ok.cab, ok.hd, ok.frames, ok.stk, ok.exf, ok.bs, ok.bsz, ok.noex, ok.exfs, ok.funs, ok.frf⟩
section
variable {X : Cx} {pins : List (Addr × Obj)} {σ : St} {H : Hp} {s : Shared} {E : Value → Shared → Prop}
theorem Inv.wish (I : Inv X pins σ H s) (E : Value → Shared → Prop) : Inv (X.wish E) pins σ H s := ⟨I.ok.wish E, I.os, I.bare, I.base, I.loc, I.cell, I.free, I.freeC, I.pin, I.hok, I.len⟩
theorem Inv.unwish (I : Inv (X.wish E) pins σ H s) : Inv X pins σ H s := ⟨I.ok.unwish, I.os, I.bare, I.base, I.loc, I.cell, I.free, I.freeC, I.pin, I.hok, I.len⟩
theorem SP.unwish {D : Ends} {f : Flow} {s' : Shared} (h : SP (X.wish E) pins D f s') : SP X pins D f s' := by
  cases f with
  | next => obtain ⟨σ', H', I, q⟩ := h; exact ⟨σ', H', I.unwish, q⟩
  | brk => obtain ⟨σ', H', I, q⟩ := h; exact ⟨σ', H', I.unwish, q⟩
  | cont => obtain ⟨σ', H', I, q⟩ := h; exact ⟨σ', H', I.unwish, q⟩
  | ret u => obtain ⟨v, σ', H', I, r, q⟩ := h; exact ⟨v, σ', H', I.unwish, r, q⟩
theorem PSs.nox {st : List Stmt} {t : TS} (h : PSs X.nox st t) : PSs X st t := fun pins s σ H D I hw =>
  wpAny_mono (h pins s σ H D (I.wish _) hw) (fun _ _ q => q.unwish) fun _ _ z => False.elim z
end

/-! ### blocks and small statements -/
section
variable {X : Cx} {st : Stmt} {rest : List Stmt} {t u : TS} {e : Expr} {te : TE} {pos : Pos}
def tNext : TS := fun D σ H => D.nx σ H
def tSeq (t u : TS) : TS := fun D σ H => t { D with nx := u D } σ H
theorem pss_nil : PSs X [] tNext := fun _ _ σ H _ I h => wpAny_execs_nil ⟨σ, H, I, h⟩
theorem pss_cons (h1 : PS X st t) (h2 : PSs X rest u) : PSs X (st :: rest) (tSeq t u) := by
  intro pins s σ H D I h
  refine wpAny_execs_cons (thn (h1 pins s σ H { D with nx := u D } I h) fun f s1 q => ?_)
  cases f with
  | next =>
    obtain ⟨σ', H', I', q⟩ := q
    exact h2 pins s1 σ' H' D I' q
  | ret v => exact q
  | brk => exact q
  | cont => exact q
theorem pss_one (h1 : PS X st t) : PSs X [st] t := by
  intro pins s σ H D I h
  refine wpAny_execs_cons (thn (h1 pins s σ H D I h) fun f s1 q => ?_)
  cases f with
  | next => exact wpAny_execs_nil q
  | ret v => exact q
  | brk => exact q
  | cont => exact q
/-- in a def's body nothing is shown -/
theorem Inv.quiet {pins : List (Addr × Obj)} {σ : St} {H : Hp} {s : Shared} (I : Inv X pins σ H s) : interactive X.env = false := by simp [interactive, I.ok.kind]
/-- an expression whose value is dropped -/
def tDrop (te : TE) : TS := fun D σ H => te σ H fun _ H1 => D.nx σ H1
theorem ps_expr (he : PE X e te) (hs : swapsWith e none pos.line X.env = pure false := by rfl) : PS X (.Expr e pos) (tDrop te) := by
  intro pins s σ H D I h
  exact wpAny_Expr_any (thn (he pins s σ H _ I h) fun v s1 ⟨x, H1, I1, r1, q1⟩ => ⟨σ, H1, I1, q1⟩) I.quiet hs
def tRet (te : TE) : TS := fun D σ H => te σ H D.rt
theorem ps_ret (he : PE X e te) : PS X (.Return (some e) pos) (tRet te) := by
  intro pins s σ H D I h
  exact wpAny_Return_some (thn (he pins s σ H _ I h) fun v s1 ⟨x, H1, I1, r1, q1⟩ => ⟨x, σ, H1, I1, r1, q1⟩)
def tIfS (c : TT) (t u : TS) : TS := fun D σ H => c σ H fun b H1 => if b = true then t D σ H1 else u D σ H1
theorem ps_if {c : Expr} {a b : List Stmt} {tc : TT} (hc : PT X c tc) (ha : PSs X a t) (hb : PSs X b u) : PS X (.If c a b pos) (tIfS tc t u) := by
  intro pins s σ H D I h
  refine wpAny_If (thn (hc pins s σ H _ I h) fun d s1 ⟨H1, I1, q1⟩ => ?_)
  cases d with
  | true => exact ha pins s1 σ H1 D I1 q1
  | false => exact hb pins s1 σ H1 D I1 q1
/-- code that the proof never comes to -/
def tNever : TS := fun _ _ _ => False
theorem ps_never : PS X st tNever := fun _ _ _ _ _ _ h => h.elim
end

/-! ### targets -/
abbrev TG := V → St → Hp → (St → Hp → Prop) → Prop
abbrev TGs := List V → St → Hp → (St → Hp → Prop) → Prop
def PG (X : Cx) (target : Expr) (t : TG) : Prop :=
  ∀ (pins : List (Addr × Obj)) (s : Shared) (σ : St) (H : Hp) (v : V) (u : Value) (Q : St → Hp → Prop), Inv X pins σ H s → RelV v u → t v σ H Q →
    wpAny (model X.prog X.w) X.A (assign target X.env u) (fun _ s' => ∃ σ' H', Inv X pins σ' H' s' ∧ Q σ' H') X.xe s
/-- several targets, one after another -/
def PGs (X : Cx) (ts : List Expr) (t : TGs) : Prop :=
  ∀ (pins : List (Addr × Obj)) (s : Shared) (σ : St) (H : Hp) (vs : List V) (us : List Value) (Q : St → Hp → Prop), Inv X pins σ H s → Vals vs us → t vs σ H Q →
    wpAny (model X.prog X.w) X.A (assignInOrder ((assignEach ts X.env).map (·.2)) us) (fun _ s' => ∃ σ' H', Inv X pins σ' H' s' ∧ Q σ' H') X.xe s
/-- o[i] = v, by values -/
abbrev TSet := V → V → V → Hp → (Hp → Prop) → Prop
def PSet (X : Cx) (t : TSet) : Prop :=
  ∀ (pins : List (Addr × Obj)) (s : Shared) (σ : St) (H : Hp) (o i v : V) (ov iv u : Value) (Q : Hp → Prop), Inv X pins σ H s → RelV o ov → RelV i iv → RelV v u → t o i v H Q →
    wpAny (model X.prog X.w) X.A (setItem ov iv u) (fun _ s' => ∃ H', Inv X pins σ H' s' ∧ Q H') X.xe s
section
variable {X : Cx} {pos : Pos}
def gName (i : Nat) : TG := fun v σ H Q => Q (σ.set i (some v)) H
theorem pg_name {i : Nat} {x : Str} (hN : X.N.Nodup) (hi : X.N[i]? = some x) (hx : Loc X.env.scope x) (hf : X.fn x = true ∨ X.env.scope.names.lookup x = some .local := by first | exact .inl rfl | exact .inr rfl | assumption) : PG X (.Name x pos) (gName i) := by
  intro pins s σ H v u Q I r h
  exact wpAny_assign_Name (store_ok I hN hi hx r (fun s' I' => ⟨_, H, I', h⟩) hf)
def gNil : TGs := fun vs σ H Q => vs = [] ∧ Q σ H
def gCons (t : TG) (u : TGs) : TGs := fun vs σ H Q => ∃ v r, vs = v :: r ∧ t v σ H fun σ' H' => u r σ' H' Q
theorem pgs_nil : PGs X [] gNil := by
  intro pins s σ H vs us Q I r h
  obtain ⟨e, h⟩ := h
  subst e
  cases r
  exact assignInOrder_nil ⟨σ, H, I, h⟩
theorem pgs_cons {e : Expr} {es : List Expr} {t : TG} {u : TGs} (h1 : PG X e t) (h2 : PGs X es u)
    (hs : (assignEach (e :: es) X.env).map (·.2) = assign e X.env :: (assignEach es X.env).map (·.2) := by rfl) : PGs X (e :: es) (gCons t u) := by
  intro pins s σ H vs us Q I r h
  obtain ⟨v, vr, e1, h⟩ := h
  subst e1
  cases r with
  | cons r rr =>
    rw [hs]
    refine assignInOrder_cons (thn (h1 pins s σ H _ _ _ I r h) fun _ s1 ⟨σ1, H1, I1, q1⟩ => ?_)
    exact h2 pins s1 σ1 H1 _ _ Q I1 rr q1
/-- (a, b, ..) = a tuple of that length -/
def gTup (K : PySem.W.Frag) (n : Nat) (t : TGs) : TG := fun v σ H Q => ∃ a xs, v = .ref a ∧ SqT K H a xs ∧ xs.length = n ∧ t xs σ H Q
theorem pg_tup {es : List Expr} {k : Nat} {t : TGs} {n : Nat} (hc : X.calm = true) (h : PGs X es t)
    (hn : (assignEach es X.env).length = n := by rfl) (hst : (assignEach es X.env).findIdx? (·.1) = none := by rfl) : PG X (.Tuple es k pos) (gTup X.K n t) := by
  intro pins s σ H v u Q I r hw
  obtain ⟨a, xs, e1, hq, hl, hw⟩ := hw
  subst e1
  cases r
  obtain ⟨its, rv, ht, hz⟩ := I.tuple hq
  refine assign_Tuple_tuple (I.ok.hd hc) ht (by simp [hn, ← hl, rv.length]) hst fun h' hx => ?_
  have I1 : Inv X pins σ H { s with heap := h' } := I.kept (t' := s.toks) fun b o e => hx b o (Nat.ne_of_lt (Heap.lt_size e)) e
  exact h pins _ σ H xs _ Q I1 (by simpa using rv) hw
/-- o[i] = .. -/
def gSub (to ti : TE) (t : TSet) : TG := fun v σ H Q => to σ H fun o H1 => ti σ H1 fun i H2 => t o i v H2 fun H3 => Q σ H3
theorem pg_sub {o i : Expr} {to ti : TE} {t : TSet} (ho : PE X o to) (hi : PE X i ti) (hs : PSet X t)
    (ha : ∀ v, assign (.Subscript o i pos) X.env v = (do
      let ov ← holding [v] (eval o X.env)
      let iv ← holding [v, ov] (eval i X.env)
      standAt pos
      holding [v, ov, iv] (setItem ov iv v)
      release [v, ov, iv] []) := by intro _; rfl) : PG X (.Subscript o i pos) (gSub to ti t) := by
  intro pins s σ H v u Q I r h
  rw [ha]
  refine wpAny_bind (wpAny_holding (thn (ho pins s σ H _ I h) fun ov s1 ⟨x, H1, I1, r1, q1⟩ => ?_))
  refine wpAny_bind (wpAny_holding (thn (hi pins s1 σ H1 _ I1 q1) fun iv s2 ⟨y, H2, I2, r2, q2⟩ => ?_))
  refine wpAny_bind (wpAny_standAt (wpAny_bind (wpAny_holding (thn (hs pins s2 σ H2 x y v ov iv u _ I2 r1 r2 r q2) fun _ s3 ⟨H3, I3, q3⟩ => ?_))))
  exact wpAny_release ⟨σ, H3, I3, q3⟩
/-- target = value -/
def tAsg (te : TE) (g : TG) : TS := fun D σ H => te σ H fun x H1 => g x σ H1 D.nx
theorem ps_asg {tg e : Expr} {te : TE} {g : TG} (he : PE X e te) (hg : PG X tg g) (hs : swapsWithSole [tg] e pos.line X.env = pure false := by rfl) (hw : swappedStores [tg] e X.env = pure none := by rfl)
    (h1 : (assignEach [tg] X.env).map (·.2) = [assign tg X.env] := by rfl) : PS X (.Assign [tg] e pos) (tAsg te g) := by
  intro pins s σ H D I h
  refine wpAny_Assign_stores (thn (he pins s σ H _ I h) fun v s1 ⟨x, H1, I1, r1, q1⟩ => ?_) hs hw
  rw [h1]
  exact thn (hg pins s1 σ H1 x v _ I1 r1 q1) fun _ s2 q => q
/-- name = value -/
theorem ps_set {i : Nat} {x : Str} {e : Expr} {te : TE} {pos' : Pos} (hN : X.N.Nodup) (hi : X.N[i]? = some x) (hx : Loc X.env.scope x) (he : PE X e te) (hs : swapsWith e (some (.Name x pos')) pos.line X.env = pure false := by rfl) (hf : X.fn x = true ∨ X.env.scope.names.lookup x = some .local := by first | exact .inl rfl | exact .inr rfl | assumption) :
    PS X (.Assign [.Name x pos'] e pos) (tAsg te (gName i)) := by
  intro pins s σ H D I h
  refine wpAny_Assign_Name (thn (he pins s σ H _ I h) fun v s1 ⟨y, H1, I1, r1, q1⟩ => ?_) hs
  exact store_ok I1 hN hi hx r1 (fun s2 I2 => ⟨_, H1, I2, q1⟩) hf
end

/-! ### while -/
section
variable {X : Cx} {pos : Pos}
/-- the invariant W with its measure -/
def tWhile (c : TT) (tb : TS) : TS := fun D σ H => ∃ W : Nat → St → Hp → Prop, (∃ m, W m σ H) ∧ ∀ m σ H, W m σ H →
  c σ H fun b H1 => if b = true then ∃ N : St → Hp → Prop, (∀ σ' H', N σ' H' → ∃ m', m' < m ∧ W m' σ' H') ∧ tb { D with nx := N, ct := N, bk := D.nx } σ H1 else D.nx σ H1
theorem ps_while {c : Expr} {body : List Stmt} {tc : TT} {tb : TS} (hp : PassesOwn (model X.prog X.w) X.A X.env X.xe) (hc : PT X c tc) (hb : PSs X body tb) : PS X (.While c body [] pos) (tWhile tc tb) := by
  intro pins s σ H D I h
  obtain ⟨W, ⟨m0, w0⟩, turn⟩ := h
  refine wpAny_While (codeAny_whileLoop (fun n s' => ∃ σ' H', Inv X pins σ' H' s' ∧ W n σ' H') ?_ m0 ⟨σ, H, I, w0⟩)
  rintro n s1 ⟨σ1, H1, I1, w1⟩
  refine wpAny_passesOwn hp (thn (hc pins s1 σ1 H1 _ I1 (turn n σ1 H1 w1)) fun b s2 ⟨H2, I2, q2⟩ => ?_)
  cases b with
  | true =>
    obtain ⟨N, hN, q2⟩ := q2
    rw [if_pos rfl]
    refine wpAny_passesOwn hp (thn (hb pins s2 σ1 H2 _ I2 q2) fun f s3 q3 => ?_)
    cases f with
    | next =>
      obtain ⟨σ3, H3, I3, n3⟩ := q3
      obtain ⟨m', hm, w3⟩ := hN σ3 H3 n3
      exact ⟨m', hm, σ3, H3, I3, w3⟩
    | cont =>
      obtain ⟨σ3, H3, I3, n3⟩ := q3
      obtain ⟨m', hm, w3⟩ := hN σ3 H3 n3
      exact ⟨m', hm, σ3, H3, I3, w3⟩
    | brk => exact q3
    | ret v => exact q3
  | false =>
    rw [if_neg Bool.false_ne_true]
    exact wpAny_execs_nil ⟨σ1, H2, I2, q2⟩
end

/-! ### what a loop or a comprehension walks -/
/-- at turn i: it yields x (the heap may grow), or it stops -/
structure It where
  go : Nat → Hp → Prop
  yld : Nat → Hp → V → Hp → Prop
  stop : Nat → Hp → Prop
/-- the iterator's own objects may turn: they are not the frame's, not pinned, younger than the entry (or a comprehension's own) -/
def FpOk (X : Cx) (pins : List (Addr × Obj)) (H : Hp) (b : Addr) : Prop :=
  H b = none ∧ b ≠ X.env.locals ∧ b ∉ X.fs ∧ (b ∈ X.ex ∨ X.s₀.heap.objs.size ≤ b) ∧ (∀ x c, X.env.cells.lookup x = some c → c ≠ b) ∧ ∀ p ∈ X.pn ++ pins, p.1 ≠ b
theorem Inv.fpOk {X : Cx} {pins : List (Addr × Obj)} {σ : St} {H H' : Hp} {s : Shared} {b : Addr} (I : Inv X pins σ H s) (hb : s.heap.objs.size ≤ b) (hn : H' b = none) : FpOk X pins H' b := by
  refine ⟨hn, Nat.ne_of_gt (Nat.lt_of_lt_of_le I.lt hb), I.nofs hb, .inr (Nat.le_trans I.sz hb), fun x c e z => ?_, fun p hp z => ?_⟩
  · obtain ⟨v, q⟩ := I.cell x c e
    exact absurd (Nat.lt_of_lt_of_le q.lt (by rw [z]; exact hb)) (Nat.lt_irrefl _)
  · exact absurd (Nat.lt_of_lt_of_le (Heap.lt_size (I.pin p hp).1) (by rw [z]; exact hb)) (Nat.lt_irrefl _)
structure Turn (P : Program) (w : World) (K : PySem.W.Frag) (tg : Expr) (J : It) (fp : List Addr) (it : Addr) (tn : Nat → Heap → Prop) : Prop where
  mem : it ∈ fp
  obj : ∀ i h, tn i h → ∀ b ∈ fp, ∃ o, h.get? b = some o ∧ ∀ v, o.data ≠ .cell v
  keep : ∀ i h h', tn i h → (∀ b ∈ fp, ∀ o, h.get? b = some o → h'.get? b = some o) → tn i h'
  item : ∀ (X : Cx), X.prog = P → X.w = w → X.K = K → X.calm = true → ∀ (i : Nat) (pins : List (Addr × Obj)) (s : Shared) (σ : St) (H : Hp) (E : Value → Shared → Prop), Inv X pins σ H s → (∀ b ∈ fp, FpOk X pins H b) → tn i s.heap → J.go i H →
    wpAny (model P w) X.A (pyNext (.ref it)) (fun r s1 => ∃ u, r = some u ∧
      wpAny (model P w) X.A (letOwnedTupleGo tg (.ref it) u) (fun _ s2 => ∃ x H', Inv X pins σ H' s2 ∧ RelV x u ∧ J.yld i H x H' ∧ tn (i + 1) s2.heap ∧ ∀ b ∈ fp, H' b = none) E s1) E s
  done : ∀ (X : Cx), X.prog = P → X.w = w → X.K = K → X.calm = true → ∀ (i : Nat) (pins : List (Addr × Obj)) (s : Shared) (σ : St) (H : Hp) (E : Value → Shared → Prop), Inv X pins σ H s → (∀ b ∈ fp, FpOk X pins H b) → tn i s.heap → J.stop i H →
    wpAny (model P w) X.A (pyNext (.ref it)) (fun r s1 => r = none ∧ Inv X pins σ H s1) E s
  self : ∀ (A : Around) (i : Nat) (s : Shared) (Q : Value → Shared → Prop) (E : Value → Shared → Prop), tn i s.heap → Q (.ref it) s → wpAny (model P w) A (pyIter (.ref it)) Q E s
abbrev TI := St → Hp → (It → Hp → Prop) → Prop
/-- an iterator has come -/
def PIE (X : Cx) (pins : List (Addr × Obj)) (σ : St) (tg : Expr) (R : It → Hp → Prop) (itv : Value) (s2 : Shared) : Prop :=
  ∃ (it : Addr) (fp : List Addr) (tn : Nat → Heap → Prop) (J : It) (H' : Hp), itv = .ref it ∧ Inv X pins σ H' s2 ∧ Turn X.prog X.w X.K tg J fp it tn ∧ tn 0 s2.heap ∧ (∀ b ∈ fp, FpOk X pins H' b) ∧ R J H'
def PI (X : Cx) (tg iter : Expr) (wi : TI) : Prop :=
  ∀ (pins : List (Addr × Obj)) (s : Shared) (σ : St) (H : Hp) (R : It → Hp → Prop), Inv X pins σ H s → wi σ H R →
    wpAny (model X.prog X.w) X.A (eval iter X.env) (fun v s1 => wpAny (model X.prog X.w) X.A (pyIter v) (PIE X pins σ tg R) X.xe s1) X.xe s

/-- the step ahead of the store is nothing for an iterator that keeps no tuple -/
theorem go_of {M : Model} {A : Around} {E : Value → Shared → Prop} {s : Shared} {tg : Expr} {it : Addr} {u : Value} {o : Obj} {n : String} {vs : Array Value} {Q : Unit → Shared → Prop} (ho : s.heap.get? it = some o) (hc : o.cls = .type n) (hd : o.data = .fields vs)
    (hn : ["enumerate", "zip", "dict_itemiterator", "dict_reverseitemiterator", "odict_iterator", "itertools.zip_longest", "itertools.pairwise"].contains n = false) (hQ : Q () s) : wpAny M A (letOwnedTupleGo tg (.ref it) u) Q E s := by
  unfold letOwnedTupleGo
  cases tg <;> first
    | exact wpAny_pure hQ
    | (cases u <;> first
        | exact wpAny_pure hQ
        | (refine wpAny_bind (wpAny_load ho ?_)
           rw [hc, hd]
           show wpAny M A (if (["enumerate", "zip", "dict_itemiterator", "dict_reverseitemiterator", "odict_iterator", "itertools.zip_longest", "itertools.pairwise"].contains n && vs[0]? == some (rawInt _)) = true then _ else _) Q E s
           rw [if_neg (by intro h; rw [hn, Bool.false_and] at h; cases h)]
           exact wpAny_pure hQ))

/-- the list at a, as it stands at each turn (a loop may append to it) -/
def Itl (K : PySem.W.Frag) (a : Addr) : It :=
  ⟨fun i H => ∃ xs x, SqL K H a xs ∧ xs[i]? = some x, fun i H x H' => H' = H ∧ ∀ xs, SqL K H a xs → xs[i]? = some x, fun i H => ∃ xs, SqL K H a xs ∧ xs.length ≤ i⟩
/-- lo, lo + 1, .. (n of them) -/
def Itr (lo : Int) (n : Nat) : It := ⟨fun i _ => i < n, fun i H x H' => H' = H ∧ x = .int (lo + i), fun i _ => n ≤ i⟩
theorem turn_list {P : Program} {w : World} {K : PySem.W.Frag} {tg : Expr} (a it : Addr) : Turn P w K tg (Itl K a) [it] it (fun i h => h.IsListIter it a i) where
  mem := by simp
  obj := fun i h st b hb => by
    have e : b = it := by simpa using hb
    subst e
    obtain ⟨o, e, c, d⟩ := st
    exact ⟨o, e, fun v z => by rw [d] at z; cases z⟩
  keep := fun i h h' st k => st.at fun o e => k it (by simp) o e
  item := by
    intro X hP hw hK hc i pins s σ H E I hf st hg
    subst hP hw hK
    obtain ⟨xs, x, hq, hx⟩ := hg
    obtain ⟨its, rv, p, hz⟩ := I.list hq
    obtain ⟨u, hu, ru⟩ := rv.get hx
    obtain ⟨f0, f1, f2, f3, f4, f5⟩ := hf it (by simp)
    refine wpAny_pyNext_list_item st p.isList (x := u) (by simpa using hu) fun h' st' sb => ?_
    have I1 : Inv X pins σ H { s with heap := h' } := I.turned (t' := s.toks) (fun b o hb e => (sb.2 b hb).trans e) f0 f1 f3 f4 f5
    obtain ⟨o, e, c, d⟩ := id st'
    exact ⟨u, rfl, go_of (s := { s with heap := h' }) e c d (by decide) ⟨x, H, I1, ru, ⟨rfl, fun ys hy => by rw [I.list_inj hy hq]; exact hx⟩, st', fun b hb => (hf b hb).1⟩⟩
  done := by
    intro X hP hw hK hc i pins s σ H E I hf st hg
    subst hP hw hK
    obtain ⟨xs, hq, hx⟩ := hg
    obtain ⟨its, rv, p, hz⟩ := I.list hq
    obtain ⟨f0, f1, f2, f3, f4, f5⟩ := hf it (by simp)
    have hl := rv.length
    exact wpAny_pyNext_list_end (I.ok.hd hc) st p.isList (by simp; omega) fun h' eb => ⟨rfl, I.turned (t' := s.toks) (fun b o hb e => eb b o hb e) f0 f1 f3 f4 f5⟩
  self := fun _ _ _ _ _ st h => wpAny_pyIter_listiter st h
theorem turn_range {P : Program} {w : World} {K : PySem.W.Frag} {tg : Expr} (it : Addr) (lo : Int) (n : Nat) : Turn P w K tg (Itr lo n) [it] it (fun i h => IsRangeIter h it (lo + (i : Nat) * 1) ((n : Int) - (i : Nat)) 1) where
  mem := by simp
  obj := fun i h st b hb => by
    have e : b = it := by simpa using hb
    subst e
    exact ⟨_, st, fun v z => by
      have z' : Data.fields _ = Data.cell v := z
      cases z'⟩
  keep := fun i h h' st k => k it (by simp) _ st
  item := by
    intro X hP hw hK hc i pins s σ H E I hf st hg
    subst hP hw hK
    obtain ⟨f0, f1, f2, f3, f4, f5⟩ := hf it (by simp)
    have W := Walks.range (prog := X.prog) (w := X.w) (I.ok.hd hc) it lo 1 n
    refine W.item i s _ _ hg st fun v h' tk hv st' kk => ?_
    obtain ⟨t, rfl⟩ := hv
    have I1 : Inv X pins σ H { s with heap := h', toks := tk } := I.turned (fun b o hb e => kk b o (by simpa using hb) e) f0 f1 f3 f4 f5
    refine ⟨_, rfl, go_of (s := { s with heap := h', toks := tk }) (n := "range_iterator") st' rfl rfl (by decide) ⟨.int (lo + i), H, I1, ⟨t, ?_⟩, ⟨rfl, rfl⟩, st', fun b hb => (hf b hb).1⟩⟩
    rw [Int.mul_one]
  done := by
    intro X hP hw hK hc i pins s σ H E I hf st hg
    subst hP hw hK
    obtain ⟨f0, f1, f2, f3, f4, f5⟩ := hf it (by simp)
    exact wpAny_pyNext_range_end (I.ok.hd hc) st (by have : n ≤ i := hg; omega) fun h' eb => ⟨rfl, I.turned (t' := s.toks) (fun b o hb e => eb b o hb e) f0 f1 f3 f4 f5⟩
  self := fun _ _ _ _ _ st h => wpAny_pyIter_rangeiter st h
end L2

namespace L2
open PySem PySem.Spec PyProof.Rows
section
variable {X : Cx} {tg : Expr}
def iList (K : PySem.W.Frag) (tl : TE) : TI := fun σ H R => tl σ H fun x H1 => ∃ a, x = .ref a ∧ (∃ xs, SqL K H1 a xs) ∧ R (Itl K a) H1
theorem pi_list {l : Expr} {tl : TE} (hl : PE X l tl) : PI X tg l (iList X.K tl) := by
  intro pins s σ H R I h
  refine thn (hl pins s σ H _ I h) fun v s1 ⟨x, H1, I1, r1, q1⟩ => ?_
  obtain ⟨a, e, ⟨xs, hq⟩, q⟩ := q1
  subst e
  cases r1
  obtain ⟨its, rv, p, hz⟩ := I1.list hq
  refine wpAny_pyIter_list p.isList ?_
  refine ⟨s1.heap.objs.size, [s1.heap.objs.size], _, _, H1, rfl, I1.kept (t' := s1.toks) fun b o e => Heap.get?_push_of_some _ e, turn_list a _, ⟨_, Heap.get?_push_size _ rfl, rfl, rfl⟩, fun b hb => ?_, q⟩
  have e : b = s1.heap.objs.size := by simpa using hb
  subst e
  exact I1.fpOk (Nat.le_refl _) (I1.hok.fresh (Nat.le_refl _))
/-- a range object just made, walked -/
theorem range_it {pins : List (Addr × Obj)} {σ : St} {H : Hp} {s : Shared} {R : It → Hp → Prop} {E : Value → Shared → Prop} {lo hi : Int} {t u v : Tok} {tk : Nat} (I : Inv X pins σ H s) (h1 : -(2 ^ 62) ≤ lo) (h2 : lo < 2 ^ 62) (h3 : -(2 ^ 62) ≤ hi) (h4 : hi < 2 ^ 62)
    (q : R (Itr lo (hi - lo).toNat) H) : wpAny (model X.prog X.w) X.A (pyIter (.ref s.heap.objs.size)) (PIE X pins σ tg R) E { s with heap := s.heap.push { cls := .type "range", data := .fields #[.int lo t, .int hi u, .int 1 v] }, toks := tk } := by
  refine wpAny_pyIter_range (IsRange.new ..) (small_one h1 h2 h3 h4) ?_
  have I1 : Inv X pins σ H { s with heap := s.heap.push { cls := .type "range", data := .fields #[.int lo t, .int hi u, .int 1 v] }, toks := tk } := I.kept fun b o e => Heap.get?_push_of_some _ e
  refine ⟨(s.heap.push { cls := .type "range", data := .fields #[.int lo t, .int hi u, .int 1 v] }).objs.size, [(s.heap.push { cls := .type "range", data := .fields #[.int lo t, .int hi u, .int 1 v] }).objs.size], _, _, H, rfl,
    I1.kept (t' := tk) fun b o e => Heap.get?_push_of_some _ e, turn_range _ lo (hi - lo).toNat, ?_, fun b hb => ?_, q⟩
  · have e1 : lo + ((0 : Nat) : Int) * 1 = lo := by simp
    have e2 : (((hi - lo).toNat : Nat) : Int) - ((0 : Nat) : Int) = Builtin.Range.rangeSize lo hi 1 := by rw [rangeSize_one]; split <;> omega
    show IsRangeIter _ _ (lo + ((0 : Nat) : Int) * 1) ((((hi - lo).toNat : Nat) : Int) - ((0 : Nat) : Int)) 1
    rw [e1, e2]
    exact Heap.get?_push_size _ rfl
  · have e : b = (s.heap.push { cls := .type "range", data := .fields #[.int lo t, .int hi u, .int 1 v] }).objs.size := by simpa using hb
    subst e
    exact I1.fpOk (Nat.le_refl _) (I1.hok.fresh (Nat.le_refl _))
def iRng1 (ta : TA) : TI := fun σ H R => ta σ H fun vs H1 => ∃ j : Int, vs = [.int j] ∧ -(2 ^ 62) ≤ j ∧ j < 2 ^ 62 ∧ R (Itr 0 j.toNat) H1
def iRng2 (ta : TA) : TI := fun σ H R => ta σ H fun vs H1 => ∃ i j : Int, vs = [.int i, .int j] ∧ (-(2 ^ 62) ≤ i ∧ i < 2 ^ 62 ∧ -(2 ^ 62) ≤ j ∧ j < 2 ^ 62) ∧ R (Itr i (j - i).toNat) H1
theorem pi_range1 {a : Expr} {ta : TA} {p pos : Pos} (hg : Gl X "range") (hm : X.mg "range" = none) (ha : PA X [a] ta) (hs : starEach [a] X.env = [(false, eval a X.env)] := by rfl) : PI X tg (.Call (.Name "range" p) [a] [] pos) (iRng1 ta) := by
  intro pins s σ H R I h
  refine Call_ (ld_blt I hg hm boot_range (PyProof.Rows.callWith_type1 (thn (ha pos pins s σ H _ I h) fun us s1 ⟨vs, H1, I1, r1, q1⟩ => ?_) hs rfl))
  obtain ⟨j, e, q1, q2, q⟩ := q1
  subst e
  cases r1 with
  | cons r rr =>
    cases rr
    obtain ⟨t, rfl⟩ := r
    exact call_range_1 (range_it I1 (by omega) (by omega) q1 q2 (by simpa using q))
theorem pi_range2 {a b : Expr} {ta : TA} {p pos : Pos} (hg : Gl X "range") (hm : X.mg "range" = none) (ha : PA X [a, b] ta) (hs : starEach [a, b] X.env = [(false, eval a X.env), (false, eval b X.env)] := by rfl) (hs2 : starEach [b] X.env = [(false, eval b X.env)] := by rfl) :
    PI X tg (.Call (.Name "range" p) [a, b] [] pos) (iRng2 ta) := by
  intro pins s σ H R I h
  refine Call_ (ld_blt I hg hm boot_range (PyProof.Rows.callWith_type1 (thn (ha pos pins s σ H _ I h) fun us s1 ⟨vs, H1, I1, r1, q1⟩ => ?_) (by rw [hs, hs2]) (by rw [hs2]; rfl)))
  obtain ⟨i, j, e, ⟨q1, q2, q3, q4⟩, q⟩ := q1
  subst e
  cases r1 with
  | cons r rr =>
    cases rr with
    | cons r' rr =>
      cases rr
      obtain ⟨t, rfl⟩ := r
      obtain ⟨t', rfl⟩ := r'
      exact call_range_2 (range_it I1 q1 q2 q3 q4 q)

/-! ### for -/
/-- W: the invariant by the turn and a measure; N: what the body is to reach -/
def tFor (wi : TI) (g : TG) (tb : TS) : TS := fun D σ H => wi σ H fun J H1 => ∃ W : Nat → Nat → St → Hp → Prop, (∃ m, W 0 m σ H1) ∧ ∀ i m σ H, W i m σ H →
  (J.stop i H ∧ D.nx σ H) ∨ (J.go i H ∧ ∃ N : St → Hp → Prop, (∀ σ' H', N σ' H' → ∃ m', m' < m ∧ W (i + 1) m' σ' H') ∧ ∀ x H', J.yld i H x H' → g x σ H' fun σ2 H2 => tb { D with nx := N, ct := N, bk := D.nx } σ2 H2)
/-- the records at fp as they stand -/
def pinsAt (fp : List Addr) (h : Heap) : List (Addr × Obj) := fp.filterMap fun b => (h.get? b).map fun o => (b, o)
theorem mem_pinsAt {fp : List Addr} {h : Heap} {b : Addr} {o : Obj} (hb : b ∈ fp) (e : h.get? b = some o) : (b, o) ∈ pinsAt fp h := List.mem_filterMap.mpr ⟨b, hb, by rw [e]; rfl⟩
theorem of_pinsAt {fp : List Addr} {h : Heap} {p : Addr × Obj} (hp : p ∈ pinsAt fp h) : p.1 ∈ fp ∧ h.get? p.1 = some p.2 := by
  obtain ⟨b, hb, e⟩ := List.mem_filterMap.mp hp
  cases q : h.get? b with
  | none => rw [q] at e; cases e
  | some o =>
    rw [q] at e
    have e' : (b, o) = p := Option.some.inj e
    subst e'
    exact ⟨hb, q⟩
theorem Inv.pinned {pins : List (Addr × Obj)} {σ : St} {H : Hp} {s : Shared} {fp : List Addr} (I : Inv X pins σ H s) (hf : ∀ b ∈ fp, FpOk X pins H b) (ho : ∀ b ∈ fp, ∃ o, s.heap.get? b = some o ∧ ∀ v, o.data ≠ .cell v) : Inv X (pins ++ pinsAt fp s.heap) σ H s :=
  I.pins_of fun p hp => (List.mem_append.mp hp).elim (fun z => I.pin p (List.mem_append_right _ z)) fun z => by
    obtain ⟨hb, e⟩ := of_pinsAt z
    obtain ⟨f0, f1, f2, _⟩ := hf p.1 hb
    obtain ⟨o, e', d⟩ := ho p.1 hb
    rw [e] at e'; cases e'
    exact ⟨e, f0, f1, f2, d⟩
theorem Inv.unpinned {pins pl : List (Addr × Obj)} {σ : St} {H : Hp} {s : Shared} (I : Inv X (pins ++ pl) σ H s) : Inv X pins σ H s := I.pins_of fun p hp => I.pin p (List.mem_append_right _ (List.mem_append_left _ hp))
theorem ps_for {iter : Expr} {body : List Stmt} {wi : TI} {g : TG} {tb : TS} {pos : Pos} (hp : PassesOwn (model X.prog X.w) X.A X.env X.xe) (hc : X.calm = true) (hi : PI X tg iter wi) (hg : PG X tg g) (hb : PSs X body tb)
    (hs : ∀ x, foldedSetIterable iter X.env x = pure x := by intro _; rfl) : PS X (.For tg iter body [] pos) (tFor wi g tb) := by
  intro pins s σ H D I h
  refine wpAny_For (thn (hi pins s σ H _ I h) fun v s1 h1 => thn h1 fun itv s2 h2 => ?_) hs
  obtain ⟨it, fp, tn, J, H2, e, I2, T, st2, f2, W, ⟨m0, w0⟩, turn⟩ := h2
  subst e
  have stat : ∀ {H' : Hp}, (∀ b ∈ fp, H' b = none) → ∀ b ∈ fp, FpOk X pins H' b := fun hn b hb => ⟨hn b hb, (f2 b hb).2⟩
  refine codeAny_forLoop_any (fun n s' => ∃ i σ' H', Inv X pins σ' H' s' ∧ tn i s'.heap ∧ (∀ b ∈ fp, H' b = none) ∧ W i n σ' H') ?_ m0 ⟨0, σ, H2, I2, st2, fun b hb => (f2 b hb).1, w0⟩
  rintro n s3 ⟨i, σ3, H3, I3, st3, fr3, w3⟩
  rcases turn i n σ3 H3 w3 with ⟨stop, qn⟩ | ⟨go, N, hN, step⟩
  · refine wpAny_passesOwn hp (thn (T.done X rfl rfl rfl hc i pins s3 σ3 H3 X.xe I3 (stat fr3) st3 stop) fun r s4 ⟨hr, I4⟩ => ?_)
    subst hr
    exact wpAny_execs_nil ⟨σ3, H3, I4, qn⟩
  · refine wpAny_passesOwn hp (thn (T.item X rfl rfl rfl hc i pins s3 σ3 H3 X.xe I3 (stat fr3) st3 go) fun r s4 ⟨u, hr, h4⟩ => ?_)
    subst hr
    refine wpAny_passesOwn hp (thn h4 fun _ s5 ⟨x, H5, I5, r5, y5, st5, fr5⟩ => ?_)
    have I5' := I5.pinned (stat fr5) (T.obj _ _ st5)
    refine wpAny_passesOwn hp (thn (hg _ s5 σ3 H5 x u _ I5' r5 (step x H5 y5)) fun _ s6 ⟨σ6, H6, I6, q6⟩ => ?_)
    refine wpAny_passesOwn hp (thn (hb _ s6 σ6 H6 _ I6 q6) fun f s7 q7 => ?_)
    have again : ∀ {σ7 : St} {H7 : Hp}, Inv X (pins ++ pinsAt fp s5.heap) σ7 H7 s7 → N σ7 H7 → ∃ m, m < n ∧ ∃ i σ' H', Inv X pins σ' H' s7 ∧ tn i s7.heap ∧ (∀ b ∈ fp, H' b = none) ∧ W i m σ' H' := fun {σ7 H7} I7 n7 => by
      obtain ⟨m', hm, w7⟩ := hN σ7 H7 n7
      refine ⟨m', hm, i + 1, σ7, H7, I7.unpinned, T.keep _ _ _ st5 fun b hb o e => (I7.pin (b, o) (List.mem_append_right _ (List.mem_append_right _ (mem_pinsAt hb e)))).1, fun b hb => ?_, w7⟩
      obtain ⟨o, e, d⟩ := T.obj _ _ st5 b hb
      exact (I7.pin (b, o) (List.mem_append_right _ (List.mem_append_right _ (mem_pinsAt hb e)))).2.1
    cases f with
    | next => obtain ⟨σ7, H7, I7, n7⟩ := q7; exact again I7 n7
    | cont => obtain ⟨σ7, H7, I7, n7⟩ := q7; exact again I7 n7
    | brk => obtain ⟨σ7, H7, I7, q7⟩ := q7; exact ⟨σ7, H7, I7.unpinned, q7⟩
    | ret v => obtain ⟨x7, σ7, H7, I7, r7, q7⟩ := q7; exact ⟨x7, σ7, H7, I7.unpinned, r7, q7⟩
end

/-! ### the forms one uses -/
theorem for_range {lo : Int} {n : Nat} {g : TG} {tb : TS} {D : Ends} {σ : St} {H : Hp} (Pv : Nat → St → Hp → Prop) (h0 : Pv 0 σ H)
    (hs : ∀ i σ H, i < n → Pv i σ H → g (.int (lo + i)) σ H fun σ2 H2 => tb { D with nx := Pv (i + 1), ct := Pv (i + 1), bk := D.nx } σ2 H2) (hd : ∀ σ H, Pv n σ H → D.nx σ H) :
    ∃ W : Nat → Nat → St → Hp → Prop, (∃ m, W 0 m σ H) ∧ ∀ i m σ H, W i m σ H →
      ((Itr lo n).stop i H ∧ D.nx σ H) ∨ ((Itr lo n).go i H ∧ ∃ N : St → Hp → Prop, (∀ σ' H', N σ' H' → ∃ m', m' < m ∧ W (i + 1) m' σ' H') ∧ ∀ x H', (Itr lo n).yld i H x H' → g x σ H' fun σ2 H2 => tb { D with nx := N, ct := N, bk := D.nx } σ2 H2) := by
  refine ⟨fun i m σ H => m = n - i ∧ i ≤ n ∧ Pv i σ H, ⟨n, by simp, Nat.zero_le _, h0⟩, ?_⟩
  rintro i m σ H ⟨rfl, hi, p⟩
  by_cases hlt : i < n
  · refine .inr ⟨hlt, Pv (i + 1), fun σ' H' p' => ⟨n - (i + 1), by omega, rfl, hlt, p'⟩, fun x H' y => ?_⟩
    obtain ⟨e, y⟩ := y
    subst e y
    exact hs i σ _ hlt p
  · have e : i = n := by omega
    subst e
    exact .inl ⟨Nat.le_refl _, hd σ H p⟩
end L2

namespace L2
open PySem PySem.Spec PyProof.Rows

abbrev R2 := V → V → Hp → VK → Prop
/-- a two-place operation on values: f is binaryOp op, inplaceOp op or compareOp op -/
def OpR (X : Cx) (f : Value → Value → Sem Value) (r : R2) : Prop :=
  ∀ (pins : List (Addr × Obj)) (s : Shared) (σ : St) (H : Hp) (x y : V) (v u : Value) (Q : VK), Inv X pins σ H s → RelV x v → RelV y u → r x y H Q →
    wpAny (model X.prog X.w) X.A (f v u) (EP X pins σ Q) X.xe s
/-- a one-place operation -/
def UnR (X : Cx) (f : Value → Sem Value) (r : V → Hp → VK → Prop) : Prop :=
  ∀ (pins : List (Addr × Obj)) (s : Shared) (σ : St) (H : Hp) (x : V) (v : Value) (Q : VK), Inv X pins σ H s → RelV x v → r x H Q →
    wpAny (model X.prog X.w) X.A (f v) (EP X pins σ Q) X.xe s
/-- a call of a value that is known (a builtin, a type) with values -/
def CallR (X : Cx) (f : Value) (r : List V → Hp → VK → Prop) : Prop :=
  ∀ (pins : List (Addr × Obj)) (s : Shared) (σ : St) (H : Hp) (xs : List V) (us : List Value) (Q : VK), Inv X pins σ H s → Vals xs us → r xs H Q →
    wpAny (model X.prog X.w) X.A (call f us) (EP X pins σ Q) X.xe s
/-- a value's truth -/
def TruR (X : Cx) (r : V → Hp → (Bool → Hp → Prop) → Prop) : Prop :=
  ∀ (pins : List (Addr × Obj)) (s : Shared) (σ : St) (H : Hp) (x : V) (v : Value) (Q : Bool → Hp → Prop), Inv X pins σ H s → RelV x v → r x H Q →
    wpAny (model X.prog X.w) X.A (truthy v) (TP X pins σ Q) X.xe s

def tOp (r : R2) (ta tb : TE) : TE := fun σ H Q => ta σ H fun x H1 => tb σ H1 fun y H2 => r x y H2 Q
def tUn (r : V → Hp → VK → Prop) (ta : TE) : TE := fun σ H Q => ta σ H fun x H1 => r x H1 Q
/-- ints in, under C, and a value out -/
def rI (C : Int → Int → Prop) (g : Int → Int → V) : R2 := fun x y H Q => ∃ i j, x = .int i ∧ y = .int j ∧ C i j ∧ Q (g i j) H
def rI0 (g : Int → Int → V) : R2 := fun x y H Q => ∃ i j, x = .int i ∧ y = .int j ∧ Q (g i j) H
def rU (g : Int → V) : V → Hp → VK → Prop := fun x H Q => ∃ i, x = .int i ∧ Q (g i) H

section
variable {X : Cx} {a b c : Expr} {ta tb tc : TE} {pos : Pos}

theorem binT (ha : PE X a ta) (hb : PE X b tb) {pins : List (Addr × Obj)} {s : Shared} {σ : St} {H : Hp} {R : V → V → Hp → Prop} (I : Inv X pins σ H s)
    (h : ta σ H fun x H1 => tb σ H1 fun y H2 => R x y H2) {Q : Value → Shared → Prop} {f : Value → Value → Sem Value}
    (hf : ∀ v u s2 x y H2, Inv X pins σ H2 s2 → RelV x v → RelV y u → R x y H2 → wpAny (model X.prog X.w) X.A (f v u) Q X.xe s2) :
    wpAny (model X.prog X.w) X.A (eval a X.env) (fun v s₁ => wpAny (model X.prog X.w) X.A (eval b X.env) (fun u s₂ => wpAny (model X.prog X.w) X.A (f v u) Q X.xe s₂) X.xe s₁) X.xe s := by
  refine thn (ha pins s σ H _ I h) fun v s1 ⟨x, H1, I1, r1, q1⟩ => ?_
  refine thn (hb pins s1 σ H1 _ I1 q1) fun u s2 ⟨y, H2, I2, r2, q2⟩ => ?_
  exact hf v u s2 x y H2 I2 r1 r2 q2

theorem pe_op {op : Operator} {r : R2} (ho : OpR X (binaryOp op) r) (ha : PE X a ta) (hb : PE X b tb) : PE X (.BinOp a op b pos) (tOp r ta tb) := by
  intro pins s σ H Q I h
  exact wpAny_BinOp (binT ha hb I h fun v u s2 x y H2 I2 rx ry q => ho pins s2 σ H2 x y v u Q I2 rx ry q)
theorem pe_un {op : UnaryOp} {r : V → Hp → VK → Prop} (ho : UnR X (unaryOp op) r) (ha : PE X a ta) : PE X (.UnaryOp op a pos) (tUn r ta) := by
  intro pins s σ H Q I h
  exact UnaryOp_ (thn (ha pins s σ H _ I h) fun v s1 ⟨x, H1, I1, r1, q1⟩ => ho pins s1 σ H1 x v Q I1 r1 q1)

/-! ### ints -/
theorem opI {f : Value → Value → Sem Value} {C : Int → Int → Prop} {g : Int → Int → Int}
    (rule : ∀ (i j : Int) (t u : Tok) (s : Shared) (Q : Value → Shared → Prop) (E : Value → Shared → Prop), C i j → Q (.int (g i j) s.toks) { s with toks := s.toks + 1 } → wpAny (model X.prog X.w) X.A (f (.int i t) (.int j u)) Q E s) :
    OpR X f (rI C fun i j => .int (g i j)) := by
  intro pins s σ H x y v u Q I rx ry h
  obtain ⟨i, j, rfl, rfl, hc, q⟩ := h
  obtain ⟨t, rfl⟩ := rx
  obtain ⟨t', rfl⟩ := ry
  exact rule i j t t' s _ _ hc ⟨.int (g i j), H, I.tok _, ⟨_, rfl⟩, q⟩
theorem opI0 {f : Value → Value → Sem Value} {g : Int → Int → Int}
    (rule : ∀ (i j : Int) (t u : Tok) (s : Shared) (Q : Value → Shared → Prop) (E : Value → Shared → Prop), Q (.int (g i j) s.toks) { s with toks := s.toks + 1 } → wpAny (model X.prog X.w) X.A (f (.int i t) (.int j u)) Q E s) :
    OpR X f (rI0 fun i j => .int (g i j)) := by
  intro pins s σ H x y v u Q I rx ry h
  obtain ⟨i, j, rfl, rfl, q⟩ := h
  obtain ⟨t, rfl⟩ := rx
  obtain ⟨t', rfl⟩ := ry
  exact rule i j t t' s _ _ ⟨.int (g i j), H, I.tok _, ⟨_, rfl⟩, q⟩
theorem opB0 {f : Value → Value → Sem Value} {g : Int → Int → Bool}
    (rule : ∀ (i j : Int) (t u : Tok) (s : Shared) (Q : Value → Shared → Prop) (E : Value → Shared → Prop), Q (.bool (g i j)) s → wpAny (model X.prog X.w) X.A (f (.int i t) (.int j u)) Q E s) :
    OpR X f (rI0 fun i j => .bl (g i j)) := by
  intro pins s σ H x y v u Q I rx ry h
  obtain ⟨i, j, rfl, rfl, q⟩ := h
  obtain ⟨t, rfl⟩ := rx
  obtain ⟨t', rfl⟩ := ry
  exact rule i j t t' s _ _ ⟨.bl (g i j), H, I, rfl, q⟩

def CDiv (i j : Int) : Prop := 0 < j ∧ j < 1073741824
def CMul (i j : Int) : Prop := (-(2 ^ 64) < i ∧ i < 2 ^ 64) ∨ (-(2 ^ 64) < j ∧ j < 2 ^ 64)
theorem CMul.ok {i j : Int} (h : CMul i j) : IntMulOk i j := by
  rcases h with ⟨h1, h2⟩ | ⟨h1, h2⟩
  · exact .of_left (intBits_le_64 h1 h2)
  · exact .of_right (intBits_le_64 h1 h2)

theorem op_add : OpR X (binaryOp .Add) (rI0 fun i j => .int (i + j)) := opI0 fun _ _ _ _ _ _ _ q => add_int q
theorem op_sub : OpR X (binaryOp .Sub) (rI0 fun i j => .int (i - j)) := opI0 fun _ _ _ _ _ _ _ q => sub_int q
theorem op_mul : OpR X (binaryOp .Mult) (rI CMul fun i j => .int (i * j)) := opI fun _ _ _ _ _ _ _ hc q => mul_int q hc.ok
/-- // by a positive divisor -/
theorem op_fdiv : OpR X (binaryOp .FloorDiv) (rI CDiv fun i j => .int (i / j)) := opI fun i j _ _ _ _ _ hc q => by
  have h1 : (0 : Int) < j := hc.1
  have h2 : j < 1073741824 := hc.2
  exact floordiv_int (by omega) (by rw [Int.fdiv_eq_ediv_of_nonneg i (by omega)]; exact q) (.inl (PyProof.noPylong_small (by omega)))
/-- % by a positive divisor of any size -/
theorem op_mod : OpR X (binaryOp .Mod) (rI (fun _ j => 0 < j) fun i j => .int (i % j)) := opI fun i j _ _ _ _ _ hc q => by
  have h1 : (0 : Int) < j := hc
  exact mod_int' (by omega) (by rw [Int.fmod_eq_emod_of_nonneg i (by omega)]; exact q)


theorem unI {f : Value → Sem Value} {g : Int → Int}
    (rule : ∀ (i : Int) (t : Tok) (s : Shared) (Q : Value → Shared → Prop) (E : Value → Shared → Prop), Q (.int (g i) s.toks) { s with toks := s.toks + 1 } → wpAny (model X.prog X.w) X.A (f (.int i t)) Q E s) :
    UnR X f (rU fun i => .int (g i)) := by
  intro pins s σ H x v Q I rx h
  obtain ⟨i, rfl, q⟩ := h
  obtain ⟨t, rfl⟩ := rx
  exact rule i t s _ _ ⟨.int (g i), H, I.tok _, ⟨_, rfl⟩, q⟩
theorem un_neg : UnR X (unaryOp .USub) (rU fun i => .int (-i)) := unI fun _ _ _ _ _ q => neg_int q

/-! ### bools among ints: n += (a < b) -/
end

/-! ### comparisons -/
/-- the scalars that == tells apart as data does -/
def scal : V → V → Bool
  | .non, .non => true | .non, .int _ => true | .int _, .non => true | .non, .bl _ => true | .bl _, .non => true | .non, .str _ => true | .str _, .non => true
  | .int _, .int _ => true | .bl _, .bl _ => true | .str _, .str _ => true | .byt _, .byt _ => true
  | .int _, .str _ => true | .str _, .int _ => true | .bl _, .str _ => true | .str _, .bl _ => true
  | _, _ => false
def rEq : R2 := fun x y H Q => scal x y = true ∧ Q (.bl (decide (x = y))) H
def rNe : R2 := fun x y H Q => scal x y = true ∧ Q (.bl (!decide (x = y))) H

theorem dec_int {i j : Int} : decide (V.int i = V.int j) = (i == j) := by
  rw [Bool.eq_iff_iff]
  simp
theorem dec_bl {i j : Bool} : decide (V.bl i = V.bl j) = (i == j) := by
  rw [Bool.eq_iff_iff]
  simp
theorem dec_str {i j : Str} : decide (V.str i = V.str j) = (i == j) := by
  rw [Bool.eq_iff_iff]
  simp
theorem dec_byt {i j : Array UInt8} : decide (V.byt i = V.byt j) = (i.toList == j.toList) := by
  rw [Bool.eq_iff_iff]
  cases i
  cases j
  simp

section
variable {X : Cx} {a b c : Expr} {ta tb tc : TE} {pos : Pos}
theorem fin_bl {pins : List (Addr × Obj)} {σ : St} {H : Hp} {s : Shared} {Q : VK} {k k' : Bool} (I : Inv X pins σ H s) (q : Q (.bl k) H) (e : k = k') : EP X pins σ Q (.bool k') s := by
  subst e
  exact ⟨.bl k, H, I, rfl, q⟩
theorem op_eq : OpR X (compareOp .Eq) rEq := by
  intro pins s σ H x y v u Q I rx ry h
  obtain ⟨hs, q⟩ := h
  cases x with
  | non =>
    cases rx
    cases y with
    | non => cases ry; exact PySem.EqNone.eq_none_none (fin_bl I q (by simp))
    | bl j => cases ry; exact PySem.EqNone.eq_none_bool (fin_bl I q (by simp))
    | int j => obtain ⟨t', rfl⟩ := ry; exact PySem.EqNone.eq_none_int (fin_bl I q (by simp))
    | str j => obtain ⟨t', rfl⟩ := ry; exact PySem.EqNone.eq_none_str (fin_bl I q (by simp))
    | _ => exact absurd (show false = true from hs) Bool.false_ne_true
  | bl i =>
    cases rx
    cases y with
    | non => cases ry; exact PySem.EqNone.eq_bool_none (fin_bl I q (by simp))
    | bl j => cases ry; exact eq_bool (fin_bl I q dec_bl)
    | str j => obtain ⟨t', rfl⟩ := ry; exact PySem.EqMixed.eq_bool_str (fin_bl I q (by simp))
    | _ => exact absurd (show false = true from hs) Bool.false_ne_true
  | int i =>
    obtain ⟨t, rfl⟩ := rx
    cases y with
    | non => cases ry; exact PySem.EqNone.eq_int_none (fin_bl I q (by simp))
    | int j => obtain ⟨t', rfl⟩ := ry; exact eq_int (fin_bl I q dec_int)
    | str j => obtain ⟨t', rfl⟩ := ry; exact PySem.EqMixed.eq_int_str (fin_bl I q (by simp))
    | _ => exact absurd (show false = true from hs) Bool.false_ne_true
  | str i =>
    obtain ⟨t, rfl⟩ := rx
    cases y with
    | non => cases ry; exact PySem.EqNone.eq_str_none (fin_bl I q (by simp))
    | bl j => cases ry; exact PySem.EqMixed.eq_str_bool (fin_bl I q (by simp))
    | int j => obtain ⟨t', rfl⟩ := ry; exact PySem.EqMixed.eq_str_int (fin_bl I q (by simp))
    | str j => obtain ⟨t', rfl⟩ := ry; exact eq_str (fin_bl I q dec_str)
    | _ => exact absurd (show false = true from hs) Bool.false_ne_true
  | byt i =>
    obtain ⟨t, rfl⟩ := rx
    cases y with
    | byt j => obtain ⟨t', rfl⟩ := ry; exact PySem.W.eq_bytes (fin_bl I q dec_byt)
    | _ => exact absurd (show false = true from hs) Bool.false_ne_true
  | _ => cases y <;> exact absurd (show false = true from hs) Bool.false_ne_true
theorem op_ne : OpR X (compareOp .NotEq) rNe := by
  intro pins s σ H x y v u Q I rx ry h
  obtain ⟨hs, q⟩ := h
  cases x with
  | non =>
    cases rx
    cases y with
    | non => cases ry; exact PySem.EqNone.ne_none_none (fin_bl I q (by simp))
    | bl j => cases ry; exact PySem.EqNone.ne_none_bool (fin_bl I q (by simp))
    | int j => obtain ⟨t', rfl⟩ := ry; exact PySem.EqNone.ne_none_int (fin_bl I q (by simp))
    | str j => obtain ⟨t', rfl⟩ := ry; exact PySem.EqNone.ne_none_str (fin_bl I q (by simp))
    | _ => exact absurd (show false = true from hs) Bool.false_ne_true
  | bl i =>
    cases rx
    cases y with
    | non => cases ry; exact PySem.EqNone.ne_bool_none (fin_bl I q (by simp))
    | bl j => cases ry; exact ne_bool (fin_bl I q (congrArg not dec_bl))
    | str j => obtain ⟨t', rfl⟩ := ry; exact PySem.EqMixed.ne_bool_str (fin_bl I q (by simp))
    | _ => exact absurd (show false = true from hs) Bool.false_ne_true
  | int i =>
    obtain ⟨t, rfl⟩ := rx
    cases y with
    | non => cases ry; exact PySem.EqNone.ne_int_none (fin_bl I q (by simp))
    | int j => obtain ⟨t', rfl⟩ := ry; exact ne_int (fin_bl I q (congrArg not dec_int))
    | str j => obtain ⟨t', rfl⟩ := ry; exact PySem.EqMixed.ne_int_str (fin_bl I q (by simp))
    | _ => exact absurd (show false = true from hs) Bool.false_ne_true
  | str i =>
    obtain ⟨t, rfl⟩ := rx
    cases y with
    | non => cases ry; exact PySem.EqNone.ne_str_none (fin_bl I q (by simp))
    | bl j => cases ry; exact PySem.EqMixed.ne_str_bool (fin_bl I q (by simp))
    | int j => obtain ⟨t', rfl⟩ := ry; exact PySem.EqMixed.ne_str_int (fin_bl I q (by simp))
    | str j => obtain ⟨t', rfl⟩ := ry; exact ne_str (fin_bl I q (congrArg not dec_str))
    | _ => exact absurd (show false = true from hs) Bool.false_ne_true
  | byt i =>
    obtain ⟨t, rfl⟩ := rx
    cases y with
    | byt j => obtain ⟨t', rfl⟩ := ry; exact PySem.W.ne_bytes (fin_bl I q (congrArg not dec_byt))
    | _ => exact absurd (show false = true from hs) Bool.false_ne_true
  | _ => cases y <;> exact absurd (show false = true from hs) Bool.false_ne_true

theorem op_lt : OpR X (compareOp .Lt) (rI0 fun i j => .bl (decide (i < j))) := opB0 fun _ _ _ _ _ _ _ q => lt_int q
theorem op_le : OpR X (compareOp .LtE) (rI0 fun i j => .bl (decide (i ≤ j))) := opB0 fun _ _ _ _ _ _ _ q => le_int q
theorem op_gt : OpR X (compareOp .Gt) (rI0 fun i j => .bl (decide (j < i))) := opB0 fun _ _ _ _ _ _ _ q => gt_int q




theorem nomark (b : Expr) {op : CmpOp} (h : op ≠ .In := by decide) (h2 : op ≠ .NotIn := by decide) : behindInMarks op b = false := by
  have e1 : (op == CmpOp.In) = false := by cases op <;> first | rfl | exact absurd rfl h
  have e2 : (op == CmpOp.NotIn) = false := by cases op <;> first | rfl | exact absurd rfl h2
  cases b <;> simp [behindInMarks, e1, e2]
/-- a reading of a value as a test -/
def tTest (t : TE) : TT := fun σ H Q => t σ H fun x H' => ∃ k, x = .bl k ∧ Q k H'
theorem pt_cmpR {op : CmpOp} {r : R2} (ho : OpR X (compareOp op) r) (ha : PE X a ta) (hb : PE X b tb) (hm : behindInMarks op b = false) : PT X (.Compare a [op] [b] pos) (tTest (tOp r ta tb)) := by
  intro pins s σ H Q I h
  refine wpAny_isTrue_Compare1 (thn (ha pins s σ H _ I h) fun v s1 ⟨x, H1, I1, r1, q1⟩ => thn (hb pins s1 σ H1 _ I1 q1) fun u s2 ⟨y, H2, I2, r2, q2⟩ =>
    thn (ho pins s2 σ H2 x y v u _ I2 r1 r2 q2) fun c s3 ⟨z, H3, I3, r3, k, e, q3⟩ => ?_) hm
  subst e
  cases r3
  exact wpAny_truthy_bool ⟨H3, I3, q3⟩
/-- a op1 b op2 c -/
def tChain (r r' : R2) (ta tb tc : TE) : TE := fun σ H Q => ta σ H fun x H1 => tb σ H1 fun y H2 => r x y H2 fun z H3 => ∃ k, z = .bl k ∧
  (if k = true then tc σ H3 fun w' H4 => r' y w' H4 Q else Q (.bl false) H3)
theorem pe_chain {op op' : CmpOp} {r r' : R2} (ho : OpR X (compareOp op) r) (ho' : OpR X (compareOp op') r') (ha : PE X a ta) (hb : PE X b tb) (hc : PE X c tc)
    (hm : lastMarks [op, op'] [b, c] = false := by with_unfolding_all rfl) : PE X (.Compare a [op, op'] [b, c] pos) (tChain r r' ta tb tc) := by
  intro pins s σ H Q I h
  refine Compare_chain (thn (ha pins s σ H _ I h) fun v s1 ⟨x, H1, I1, r1, q1⟩ => chain_link (thn (hb pins s1 σ H1 _ I1 q1) fun u s2 ⟨y, H2, I2, r2, q2⟩ =>
    thn (ho pins s2 σ H2 x y v u _ I2 r1 r2 q2) fun d s3 ⟨z, H3, I3, r3, k, e, q3⟩ => ?_)) hm
  subst e
  cases r3
  refine wpAny_truthy_bool ?_
  cases k with
  | false => exact ite_ff ⟨.bl false, H3, I3, rfl, q3⟩
  | true => exact ite_tt (chain_last (thn (hc pins s3 σ H3 _ I3 q3) fun w' s4 ⟨z', H4, I4, r4, q4⟩ => ho' pins s4 σ H4 y z' u w' Q I4 r2 r4 q4))

/-! ### truth -/
/-- a value's truth by the abstract heap -/
def TruV (K : PySem.W.Frag) (x : V) (H : Hp) (k : Bool) : Prop :=
  match x with
  | .non => k = false
  | .bl b => k = b
  | .int i => k = (i != 0)
  | .str y => y.length ≤ sizeLine ∧ k = ((y.length : Int) != 0)
  | .byt y => y.size ≤ sizeLine ∧ k = ((y.size : Int) != 0)
  | .ref p => (∃ xs, SqL K H p xs ∧ k = !xs.isEmpty) ∨ (∃ xs, SqT K H p xs ∧ k = !xs.isEmpty) ∨ ∃ kvs, H p = some (.dK kvs) ∧ k = !kvs.isEmpty
  | _ => False
theorem isEmpty_kv {κ : Type} {kvs : List (κ × V)} {vs : List (κ × Value)} (r : KV kvs vs) : (!vs.isEmpty) = !kvs.isEmpty := by
  cases r <;> rfl
theorem isEmpty_of {xs : List V} {its : List Value} (r : Vals xs its) : (!its.toArray.isEmpty) = !xs.isEmpty := by
  cases r <;> simp
theorem line63 : (sizeLine : Nat) < 2 ^ 63 := by rw [sizeLine_eq]; decide
theorem tru_ok : TruR X (fun x H Q => ∃ k, TruV X.K x H k ∧ Q k H) := by
  intro pins s σ H x v Q I rx h
  obtain ⟨k, e, q⟩ := h
  have hl := line63
  have hs : sizeLine = 16777216 := sizeLine_eq
  cases x with
  | non =>
    cases rx
    have e' : k = false := e
    subst e'
    exact truthy_none ⟨H, I, q⟩
  | bl b =>
    cases rx
    have e' : k = b := e
    subst e'
    exact wpAny_truthy_bool ⟨H, I, q⟩
  | int i =>
    obtain ⟨t, rfl⟩ := rx
    have e' : k = (i != 0) := e
    subst e'
    exact PySem.P.truthy_int ⟨H, I, q⟩
  | str y =>
    obtain ⟨t, rfl⟩ := rx
    obtain ⟨hy, e'⟩ : y.length ≤ sizeLine ∧ k = ((y.length : Int) != 0) := e
    subst e'
    exact PySem.P.truthy_str (by omega) ⟨H, I.tok _, q⟩
  | byt y =>
    obtain ⟨t, rfl⟩ := rx
    obtain ⟨hy, e'⟩ : y.size ≤ sizeLine ∧ k = ((y.size : Int) != 0) := e
    subst e'
    exact PySem.W.truthy_bytes (by omega) ⟨H, I.tok _, q⟩
  | ref p =>
    cases rx
    have e' : (∃ xs, SqL X.K H p xs ∧ k = !xs.isEmpty) ∨ (∃ xs, SqT X.K H p xs ∧ k = !xs.isEmpty) ∨ ∃ kvs, H p = some (.dK kvs) ∧ k = !kvs.isEmpty := e
    rcases e' with ⟨xs, hx, e'⟩ | ⟨xs, hx, e'⟩ | ⟨kvs, hx, e'⟩
    · subst e'
      obtain ⟨its, r, pl, hz⟩ := I.list hx
      have hlen := r.length
      exact wpAny_truthy_list pl.isList (by simp only [List.size_toArray]; omega) ⟨H, I.tok _, by rw [isEmpty_of r]; exact q⟩
    · subst e'
      obtain ⟨its, r, pl, hz⟩ := I.tuple hx
      have hlen := r.length
      exact truthy_tuple pl (by simp only [List.size_toArray]; omega) ⟨H, I.tok _, by rw [isEmpty_of r]; exact q⟩
    · subst e'
      obtain ⟨hz, hS, vs, r, m⟩ : kvs.length ≤ sizeLine ∧ (p == sysModules) = false ∧ ∃ vs, KV kvs vs ∧ s.heap.DictOf (mixKind X.prog X.w) p vs := I.hok p _ hx
      have hlen : kvs.length = vs.length := Paired.length r
      exact wpAny_truthy_dict hS m (by omega) ⟨H, I.tok _, by rw [isEmpty_kv r]; exact q⟩
  | _ => exact (show False from e).elim
/-- any expression whose test is its value's truth (a name, a call, a subscript, a field ..: he by fun _ => rfl) -/
theorem pt_truth (ha : PE X a ta) (he : ∀ whole, isTrue a X.env whole = (do let v ← whole; standAt a.pos; holding [v] (truthy v))) :
    PT X a (fun σ H Q => ta σ H fun x H' => ∃ k, TruV X.K x H' k ∧ Q k H') := by
  intro pins s σ H Q I h
  exact isTrue_plain (thn (ha pins s σ H _ I h) fun v s1 ⟨x, H1, I1, r1, q1⟩ => tru_ok pins s1 σ H1 x v Q I1 r1 q1) (he _)

/-! ### strs and bytes -/


/-! ### scalar builtins, by CallR -/
theorem vals1 {x : V} {us : List Value} (r : Vals [x] us) : ∃ u, us = [u] ∧ RelV x u := by
  cases r with
  | cons r1 r2 => cases r2; exact ⟨_, rfl, r1⟩
theorem vals2 {x y : V} {us : List Value} (r : Vals [x, y] us) : ∃ u w', us = [u, w'] ∧ RelV x u ∧ RelV y w' := by
  cases r with
  | cons r1 r2 =>
    cases r2 with
    | cons r3 r4 => cases r4; exact ⟨_, _, rfl, r1, r3⟩
theorem call_max2 (hc : X.calm = true) : CallR X (.builtin "max") (fun xs H Q => ∃ i j, xs = [.int i, .int j] ∧ Q (.int (if j > i then j else i)) H) := by
  intro pins s σ H xs us Q I r h
  obtain ⟨i, j, rfl, q⟩ := h
  obtain ⟨u, w', rfl, ⟨t, rfl⟩, ⟨t', rfl⟩⟩ := vals2 r
  refine max_two_ints (I.ok.hd hc) fun h' tk k => ⟨_, H, I.kept k, ?_, q⟩
  by_cases hj : j > i
  · rw [if_pos hj, if_pos hj]; exact ⟨_, rfl⟩
  · rw [if_neg hj, if_neg hj]; exact ⟨_, rfl⟩
theorem call_min2 (hc : X.calm = true) : CallR X (.builtin "min") (fun xs H Q => ∃ i j, xs = [.int i, .int j] ∧ Q (.int (if j < i then j else i)) H) := by
  intro pins s σ H xs us Q I r h
  obtain ⟨i, j, rfl, q⟩ := h
  obtain ⟨u, w', rfl, ⟨t, rfl⟩, ⟨t', rfl⟩⟩ := vals2 r
  refine min_two_ints (I.ok.hd hc) fun h' tk k => ⟨_, H, I.kept k, ?_, q⟩
  by_cases hj : j < i
  · rw [if_pos hj, if_pos hj]; exact ⟨_, rfl⟩
  · rw [if_neg hj, if_neg hj]; exact ⟨_, rfl⟩
end
end L2

namespace L2
open PySem PySem.Spec PyProof.Rows

/-! ### an instance, its attributes a map -/
structure ObjM (h : Heap) (x dx C : Addr) (mA : Str → Option Value) : Prop where
  obj : h.get? x = some (PySem.W.instObj C dx)
  ns : h.Ns1 dx mA
  ne : dx ≠ x

theorem lookIn_ns {h : Heap} {dx : Addr} {mA : Str → Option Value} (n : h.Ns1 dx mA) : ∃ od, h.get? dx = some od ∧ ∀ name, PySem.W.lookIn name od = some (mA name) := by
  obtain ⟨o, es, ep, ho, hd, hk, _, hm⟩ := n
  refine ⟨o, ho, fun name => ?_⟩
  have e := hm name
  unfold nsFind findBy at e
  rw [← Array.find?_toList] at e
  unfold PySem.W.lookIn
  rw [hd]
  dsimp only
  split
  · rename_i y q
    rw [q] at e
    exact congrArg some e
  · rename_i q
    rw [q] at e
    have a : es.toList.any (·.refKey) = false := by
      rw [List.any_eq_false]
      intro y hy
      obtain ⟨z, t, hkey⟩ := hk y (Array.mem_toList_iff.mp hy)
      simp [DictEntry.refKey, hkey]
    have a' : ¬ es.toList.any (·.refKey) = true := by rw [a]; exact Bool.false_ne_true
    rw [if_neg a']
    exact congrArg some e

theorem ObjM.look {h : Heap} {x dx C : Addr} {mA : Str → Option Value} (I : ObjM h x dx C mA) : ∃ od, PySem.W.InstAt h x (PySem.W.instObj C dx) C (some od) ∧ ∀ name, PySem.W.lookIn name od = some (mA name) :=
  let ⟨od, ho, hl⟩ := lookIn_ns I.ns
  ⟨od, ⟨I.obj, rfl, rfl, ho⟩, hl⟩

section
variable {prog : Program} {w : World} {A : Around} {E : Value → Shared → Prop} {s : Shared} {K : PySem.W.Frag} {x dx C f : Addr} {mA : Str → Option Value} {name : Str} {v : Value}





end

/-! ### the attributes as a list of pairs -/


section
variable {P : Program} {w : World} {H H' : Hp} {h h' : Heap} {a C dx : Addr} {fs fs' : List (Str × V)}
theorem ins_get (hok : HOk P w H h) (e : H a = some (.ins C dx fs)) : ∃ mA, ObjM h a dx C mA ∧ (∀ f, RelO (fs.lookup f) (mA f)) ∧ PySem.Within mA (fs.map (·.1)) ∧ fs.length ≤ 1000 ∧ H dx = some (.own a) := by
  obtain ⟨d, z, ne, ob, mA, n, r, q⟩ := (show ObjOk P w H h a (.ins C dx fs) from hok a _ e)
  exact ⟨mA, ⟨ob, n, ne⟩, r, q, z, d⟩
end

/-! ### what of the text a class must have -/
structure Cls (K : PySem.W.Frag) (C : Addr) : Prop where
  pg : PySem.W.plainGet K C Str.empty = true
  hd : PySem.W.hasDictIn K C = true
  po : PySem.W.plainOver K C = true
  sa : PySem.W.findIn K (.ref C) "__setattr__" = some (some (.builtin "object.__setattr__"))
theorem Cls.get {K : PySem.W.Frag} {C : Addr} (c : Cls K C) (f : Str) : PySem.W.plainGet K C f = true := c.pg

section
variable {X : Cx} {pins : List (Addr × Obj)} {σ : St} {H : Hp} {s : Shared} {a C dx : Addr} {fs : List (Str × V)} {f : Str} {v : V} {A : Around} {E : Value → Shared → Prop}






end

/-! ### readings and rules -/

section
variable {X : Cx} {o e value : Expr} {f : Str} {pos pos' tpos : Pos} {ta tv : TE}

end

/-! ### isinstance -/
section
variable {X : Cx} {pins : List (Addr × Obj)} {σ : St} {H : Hp} {s : Shared} {A : Around} {E : Value → Shared → Prop} {Q : Value → Shared → Prop} {c : Value} {b : Bool}
/-- the type of a value, as the fragment's deciders take it; for an instance its class -/
inductive TyOf (K : PySem.W.Frag) (H : Hp) : V → Value → Prop where
  | non : TyOf K H .non (.type "NoneType")
  | bl (x : Bool) : TyOf K H (.bl x) (.type "bool")
  | int (i : Int) : TyOf K H (.int i) (.type "int")
  | str (x : Str) : TyOf K H (.str x) (.type "str")
  | flt (x : UInt64) : TyOf K H (.flt x) (.type "float")
  | lst {a : Addr} {xs : List V} (e : H a = some (.lst xs)) : TyOf K H (.ref a) (.type "list")
  | frz {a : Addr} {o : Obj} {xs : List V} (e : H a = some (.frz o (.lst xs))) : TyOf K H (.ref a) (.type "list")
  | tup {a : Addr} {xs : List V} (e : H a = some (.tup xs)) : TyOf K H (.ref a) (.type "tuple")
  | dK {a : Addr} {kvs : List (Key × V)} (e : H a = some (.dK kvs)) : TyOf K H (.ref a) (.type "dict")
  | dT {a : Addr} {kvs : List (List Key × V)} (e : H a = some (.dT kvs)) : TyOf K H (.ref a) (.type "dict")
  | ins {a C dx : Addr} {fs : List (Str × V)} (e : H a = some (.ins C dx fs)) (cl : Cls K C) (ha : PySem.W.findIn K (.ref C) "__class__" = some (some (.builtin "object.__class__")))
      (hn : PySem.W.specialIn K (.builtin "object.__class__") "__get__" = some (some (.builtin "getset_descriptor.__get__"))) (htk : PySem.W.takesIn K (.builtin "object.__class__") = some true)
      (hm : PySem.W.mroIn K C (.type "object") = some true) : TyOf K H (.ref a) (.ref C)
/-- isinstance(x, c) for one class c, a built-in or an own one: kitOne's answer -/
theorem isinst_ok {x : V} {u t : Value} (I : Inv X pins σ H s) (rx : RelV x u) (ty : TyOf X.K H x t) (e : PySem.W.kitOne X.K t c = some b) (h : ∀ tk, Q (.bool b) { s with toks := tk }) :
    wpAny (model X.prog X.w) A (call (.builtin "isinstance") [u, c]) Q E s := by
  cases ty with
  | non => cases (show u = Value.none from rx); exact PySem.W.kia_one PySem.W.kitx_none I.kIn True.intro e (fun z => nomatch z) h
  | bl y => cases (show u = Value.bool y from rx); exact PySem.W.kia_one PySem.W.kitx_bool I.kIn True.intro e (fun z => nomatch z) h
  | int i => obtain ⟨t, q⟩ := (show ∃ t, u = Value.int i t from rx); cases q; exact PySem.W.kia_one PySem.W.kitx_int I.kIn True.intro e (fun z => nomatch z) h
  | str y => obtain ⟨t, q⟩ := (show ∃ t, u = Value.str y t from rx); cases q; exact PySem.W.kia_one PySem.W.kitx_str I.kIn True.intro e (fun z => nomatch z) h
  | flt y => obtain ⟨t, q⟩ := (show ∃ t, u = Value.float y t from rx); cases q; exact PySem.W.kia_one PySem.W.kitx_float I.kIn True.intro e (fun z => nomatch z) h
  | @lst a xs ea =>
    cases (show u = Value.ref a from rx)
    obtain ⟨_, _, n, _, h1⟩ := (show ObjOk X.prog X.w H s.heap a (.lst xs) from I.hok a _ ea)
    exact PySem.W.kia_one PySem.W.kitx_list I.kIn ⟨_, h1, rfl⟩ e (fun z => nomatch z) h
  | @frz a ob xs ea =>
    cases (show u = Value.ref a from rx)
    obtain ⟨_, _, _, n, _, h1⟩ := (show ObjOk X.prog X.w H s.heap a (.frz ob (.lst xs)) from I.hok a _ ea)
    exact PySem.W.kia_one PySem.W.kitx_list I.kIn ⟨_, h1, rfl⟩ e (fun z => nomatch z) h
  | @tup a xs ea =>
    cases (show u = Value.ref a from rx)
    obtain ⟨_, _, _, p⟩ := (show ObjOk X.prog X.w H s.heap a (.tup xs) from I.hok a _ ea)
    obtain ⟨o, h1, h2, _⟩ := p
    exact PySem.W.kia_one PySem.W.kitx_tuple I.kIn ⟨o, h1, h2⟩ e (fun z => nomatch z) h
  | @dK a kvs ea =>
    cases (show u = Value.ref a from rx)
    obtain ⟨_, _, vs, _, p⟩ := (show ObjOk X.prog X.w H s.heap a (.dK kvs) from I.hok a _ ea)
    obtain ⟨o, es, ep, h1, h2, _⟩ := p
    exact PySem.W.kia_one PySem.W.kitx_dict I.kIn ⟨o, h1, h2.1⟩ e (fun z => nomatch z) h
  | @dT a kvs ea =>
    cases (show u = Value.ref a from rx)
    obtain ⟨_, _, xs, _, o, es, ep, h1, h2, _⟩ := (show ObjOk X.prog X.w H s.heap a (.dT kvs) from I.hok a _ ea)
    exact PySem.W.kia_one PySem.W.kitx_dict I.kIn ⟨o, h1, h2.1⟩ e (fun z => nomatch z) h
  | @ins a C dx fs ea cl ha hn htk hm =>
    cases (show u = Value.ref a from rx)
    obtain ⟨mA, O, _⟩ := ins_get I.hok ea
    obtain ⟨od, J, _⟩ := O.look
    exact PySem.W.kia_one (PySem.W.kitx_own (cl.get _) cl.hd ha hn htk hm) I.kIn J e (fun z => nomatch z) h
end
end L2

namespace L2
open PySem PySem.Spec PyProof.Rows

/-! ### room -/
structure Room (k : Nat) (A : Around) : Prop where
  hd : A.handled = none
  dp : A.depth + 3 * k + 5 < recursionLimit
  un : A.units + 16 * k + 200 < cLine
theorem Room.mono {j k : Nat} {A : Around} (r : Room k A) (h : j ≤ k) : Room j A := ⟨r.hd, by have := r.dp; omega, by have := r.un; omega⟩
theorem Room.deeper {k : Nat} {A : Around} (r : Room (k + 1) A) (env : Env) : Room k (A.deeper env) :=
  ⟨r.hd, by have := r.dp; show A.depth + 1 + 3 * k + 5 < _; omega, by have := r.un; show A.units + 3 + 16 * k + 200 < _; omega⟩
theorem Room.depth {k : Nat} {A : Around} (r : Room k A) : A.depth < recursionLimit := by have := r.dp; omega

/-! ### argument lists and displays -/
def tNil : TA := fun _ H Q => Q [] H
def tCons (ta : TE) (tr : TA) : TA := fun σ H Q => ta σ H fun x H1 => tr σ H1 fun xs H2 => Q (x :: xs) H2
section
variable {X : Cx} {e : Expr} {es : List Expr} {te : TE} {t : TA} {pos : Pos}
theorem pa_nil : PA X [] tNil := fun _ _ _ _ H Q I h => Calls.spliced_nil ⟨[], H, I, .nil, h⟩
theorem pa_cons (ha : PE X e te) (hr : PA X es t) (hs : starEach (e :: es) X.env = (false, eval e X.env) :: starEach es X.env := by rfl) : PA X (e :: es) (tCons te t) := by
  intro pos pins s σ H Q I h
  rw [hs]
  show wpAny _ _ (spliced ((false, eval e X.env) :: backTo pos (starEach es X.env))) _ _ s
  refine Calls.spliced_cons (thn (ha pins s σ H _ I h) fun u s1 ⟨x, H1, I1, r1, q1⟩ => ?_)
  exact thn (hr pos pins s1 σ H1 _ I1 q1) fun us s2 ⟨xs, H2, I2, r2, q2⟩ => ⟨x :: xs, H2, I2, .cons r1 r2, q2⟩

end

/-! ### what a def promises -/
/-- a def's promise: the bound arguments in the parameters' order, the heap, the wanted end, the wanted exception -/
abbrev Sp := List V → Hp → VK → XK → Prop
/-- how an exception lies behind a call (file 08 gives it): the callers' frames, abstract heap and state ahead of the call, the wish, the exception, the state -/
abbrev CXT := List Env → Hp → Shared → XK → Value → Shared → Prop

/-- the state at a call -/
structure Env0 (P : Program) (w : World) (K : PySem.W.Frag) (mg : Str → Option Value) (base : Heap) (A : Around) (outer : List Env) (s : Shared) (H : Hp) : Prop where
  frames : A.frames = some outer
  mod : Mod K mg base
  bs : ∀ b o, base.get? b = some o → s.heap.get? b = some o ∧ H b = none
  bsz : base.objs.size ≤ s.heap.objs.size
  funs : s.heap.FunFrames base outer
  frf : ∀ b ∈ frs outer, H b = none
  hok : HOk P w H s.heap
  bare : AllBare s.gens
/-- a call's end -/
def CE (outer : List Env) (P : Program) (w : World) (H : Hp) (s : Shared) (Q : VK) (u : Value) (s' : Shared) : Prop :=
  ∃ v H', s'.os = s.os ∧ AllBare s'.gens ∧ Un (frs outer) [] H H' s.heap s'.heap ∧ HOk P w H' s'.heap ∧ RelV v u ∧ Q v H'
def CR (CX : CXT) (outer : List Env) (P : Program) (w : World) (H : Hp) (s : Shared) (Q : VK) (E : XK) (r : Result) (s' : Shared) : Prop :=
  match r with
  | .ok (.ret u) => CE outer P w H s Q u s'
  | .ok _ => False
  | .error e => CX outer H s E e s'
structure FnOk (P : Program) (w : World) (K : PySem.W.Frag) (mg : Str → Option Value) (base : Heap) (CX : CXT) (k : Nat) (f : Addr) (fd : FuncData) (ps : List Str) (sp : Sp) : Prop where
  len : ∀ vs H Q E, sp vs H Q E → vs.length = ps.length
  run : ∀ (A : Around) (outer : List Env) (s : Shared) (H : Hp) (args : Args) (us : List Value) (vs : List V) (Q : VK) (E : XK), Room k A → Env0 P w K mg base A outer s H → BindsTo s fd args (ps.zip us) → Vals vs us → sp vs H Q E →
    codeAny (model P w) A (.call (.ref f) args) (CR CX outer P w H s Q E) s
theorem FnOk.mono {P : Program} {w : World} {K : PySem.W.Frag} {mg : Str → Option Value} {base : Heap} {CX : CXT} {j k : Nat} {f : Addr} {fd : FuncData} {ps : List Str} {sp : Sp} (F : FnOk P w K mg base CX j f fd ps sp) (h : j ≤ k) :
    FnOk P w K mg base CX k f fd ps sp := ⟨F.len, fun A outer s H args us vs Q E hr => F.run A outer s H args us vs Q E (hr.mono h)⟩


section
variable {X : Cx} {pins : List (Addr × Obj)} {σ : St} {H : Hp} {s s' : Shared}
/-- from a body: what a callee wants -/
theorem Inv.env0 (I : Inv X pins σ H s) : Env0 X.prog X.w X.K X.mg X.base X.A X.stack s H :=
  ⟨I.ok.frames, I.ok.mod, I.bs, Nat.le_trans I.ok.bsz I.sz, I.stack, I.stkFree, I.hok, I.bare⟩
/-- behind a call -/
theorem Inv.after {Q : VK} {u : Value} (I : Inv X pins σ H s) (h : CE X.stack X.prog X.w H s Q u s') : EP X pins σ Q u s' := by
  obtain ⟨v, H', os, bare, un, hok, r, q⟩ := h
  obtain ⟨hh, g, d, t, os'⟩ := s'
  obtain rfl : os' = s.os := os
  exact ⟨v, H', I.call (h' := hh) (g' := g) (d' := d) (t' := t) (ch := []) un hok bare (fun b z => absurd z (by simp)), r, q⟩
end

/-! ### calls -/
/-- f(..): the written arguments, then the defaults dvs; E: what is wanted of an exception -/
def tCall (sp : Sp) (dvs : List V) (E : XK) (t : TA) : TE := fun σ H Q => t σ H fun vs H1 => sp (vs ++ dvs) H1 Q E

/-- how the parameters are bound: us the positional arguments, kw the keywords' values by name, ds the defaults that fill up -/
def Binds (K : PySem.W.Frag) (fd : FuncData) (ps : List Str) (ds : List Value) : Prop :=
  ∀ (s : Shared) (us : List Value), K.In s.heap → (us ++ ds).length = ps.length → BindsTo s fd ⟨us, []⟩ (ps.zip (us ++ ds))
/-- every parameter is given -/
theorem Binds.all {K : PySem.W.Frag} {fd : FuncData} {ps : List Str} (h : ∀ us : List Value, us.length = ps.length → bindArgs fd ⟨us, []⟩ = pure (ps.zip us)) : Binds K fd ps [] := fun s us _ hl => by
  rw [List.append_nil] at hl ⊢
  exact .of_eq (h us hl)

/-- an exception of a callee reaches what this body wants of exceptions -/
def Passes (CX : CXT) (X : Cx) (E : XK) : Prop := ∀ (pins : List (Addr × Obj)) (σ : St) (H : Hp) (s : Shared) (e : Value) (s' : Shared), Inv X pins σ H s → CX X.stack H s E e s' → X.xe e s'

section
variable {X : Cx} {CX : CXT} {k : Nat} {f C : Addr} {fd : FuncData} {ps : List Str} {sp : Sp} {dvs : List V} {ds : List Value} {E : XK} {x m : Str} {p pos apos : Pos} {e o : Expr} {es : List Expr} {ta : TE} {t : TA}

/-- the callee runs -/
theorem run_fn {pins : List (Addr × Obj)} {σ : St} {H : Hp} {s : Shared} {Q : VK} {us : List Value} {vs : List V} (F : FnOk X.prog X.w X.K X.mg X.base CX k f fd ps sp) (hr : Room k X.A) (hb : Binds X.K fd ps ds) (hd : Vals dvs ds) (hx : Passes CX X E)
    (I : Inv X pins σ H s) (r : Vals vs us) (h : sp (vs ++ dvs) H Q E) : wpAny (model X.prog X.w) X.A (call (.ref f) us) (EP X pins σ Q) X.xe s := by
  have r2 : Vals (vs ++ dvs) (us ++ ds) := r.append hd
  have hl : (us ++ ds).length = ps.length := by rw [← r2.length]; exact F.len _ _ _ _ h
  refine wpAny_call (codeAny_mono (F.run X.A X.stack s H ⟨us, []⟩ (us ++ ds) (vs ++ dvs) Q E hr I.env0 (hb s us I.kIn hl) r2 h) fun r s' hq => ?_)
  cases r with
  | error e => exact hx pins σ H s e s' I hq
  | ok fl =>
    cases fl with
    | ret u => exact I.after hq
    | next => exact False.elim hq
    | brk => exact False.elim hq
    | cont => exact False.elim hq

theorem pe_call (F : FnOk X.prog X.w X.K X.mg X.base CX k f fd ps sp) (hr : Room k X.A) (hg : Gl X x) (hm : X.mg x = some (.ref f)) (hk : PySem.W.keepIn X.K (.ref f) = true) (hb : Binds X.K fd ps ds) (hd : Vals dvs ds) (hx : Passes CX X E)
    (ha : PA X (e :: es) t) (hdb : (x == ("__debug__" : Str)) = false := by decide) (he : starEach (e :: es) X.env = (false, eval e X.env) :: starEach es X.env := by rfl) (hpl : (backTo pos (starEach es X.env)).any (·.1) = false := by rfl) :
    PE X (.Call (.Name x p) (e :: es) [] pos) (tCall sp dvs E t) := by
  intro pins s σ H Q I h
  refine wpAny_Call_Name_kw (ld_glob I hg hm ?_ hdb)
  refine PySem.W.callWith_K (h₀ := X.base) I.ok.mod.kin hk (thn (ha pos pins s σ H _ I h) fun us s1 ⟨vs, H1, I1, r, q⟩ => ⟨I1.kIn, ?_⟩) he hpl
  exact run_fn F hr hb hd hx I1 r q



end

/-! ### keywords -/
section
variable {X : Cx} {CX : CXT} {k : Nat} {f C : Addr} {fd : FuncData} {ps ks : List Str} {sp : Sp} {E : XK} {x m : Str} {p pos apos kpos : Pos} {e o : Expr} {es : List Expr} {kws : List Keyword} {te ta : TE} {t tk : TA} {nm : Option Str}

variable {g : List Value → List Value → List Value} {gV : List V → List V → List V}
end

/-! ### a def's body keeps its promise -/
/-- names: the parameters first -/
structure FnScope (N P : List Str) (sc : Scope) : Prop where
  kind : sc.kind = .function
  co : sc.isCoroutine = false
  gen : sc.isGenerator = false
  nd : N.Nodup
  pre : N.take P.length = P
  par : ∀ x ∈ P, sc.names.lookup x = some .local ∨ sc.names.lookup x = some .cell
  nofree : ∀ y ∈ sc.names, y.2 ≠ .free

theorem bindL_out {kindOf : Str → Option NameKind} {x : Str} : ∀ {binds : List (Str × Value)} {m : Str → Option Value}, (∀ v, (x, v) ∉ binds) → bindL kindOf binds m x = m x
  | [], _, _ => rfl
  | (n, v) :: r, m, h => by
    unfold bindL
    rw [bindL_out fun w hw => h w (List.mem_cons_of_mem _ hw)]
    split
    · have : x ≠ n := by rintro rfl; exact h v List.mem_cons_self
      simp [this]
    · rfl
theorem bindC_out {kindOf : Str → Option NameKind} {x : Str} : ∀ {binds : List (Str × Value)} {m : Str → Option Value}, (∀ v, (x, v) ∉ binds) → bindC kindOf binds m x = m x
  | [], _, _ => rfl
  | (n, v) :: r, m, h => by
    unfold bindC
    rw [bindC_out fun w hw => h w (List.mem_cons_of_mem _ hw)]
    split
    · rfl
    · have : x ≠ n := by rintro rfl; exact h v List.mem_cons_self
      simp [this]
theorem bindL_get {kindOf : Str → Option NameKind} {x : Str} {v : Value} : ∀ {P : List Str} {vs : List Value} {i : Nat} {m : Str → Option Value}, P.Nodup → P[i]? = some x → vs[i]? = some v → kindOf x = some .local →
    bindL kindOf (P.zip vs) m x = some v
  | [], _, _, _, _, h, _, _ => by simp at h
  | _ :: _, [], _, _, _, _, h, _ => by simp at h
  | p :: P, w :: vs, 0, m, nd, h1, h2, hk => by
    simp at h1 h2; subst h1; subst h2
    show bindL kindOf ((p, w) :: P.zip vs) m p = _
    unfold bindL
    rw [bindL_out fun v hv => (List.nodup_cons.mp nd).1 (List.of_mem_zip hv).1, if_pos hk]
    simp
  | p :: P, w :: vs, i + 1, m, nd, h1, h2, hk => by
    show bindL kindOf ((p, w) :: P.zip vs) m x = _
    unfold bindL
    exact bindL_get (i := i) (List.nodup_cons.mp nd).2 (by simpa using h1) (by simpa using h2) hk
theorem bindC_get {kindOf : Str → Option NameKind} {x : Str} {v : Value} : ∀ {P : List Str} {vs : List Value} {i : Nat} {m : Str → Option Value}, P.Nodup → P[i]? = some x → vs[i]? = some v → kindOf x ≠ some .local →
    bindC kindOf (P.zip vs) m x = some v
  | [], _, _, _, _, h, _, _ => by simp at h
  | _ :: _, [], _, _, _, _, h, _ => by simp at h
  | p :: P, w :: vs, 0, m, nd, h1, h2, hk => by
    simp at h1 h2; subst h1; subst h2
    show bindC kindOf ((p, w) :: P.zip vs) m p = _
    unfold bindC
    rw [bindC_out fun v hv => (List.nodup_cons.mp nd).1 (List.of_mem_zip hv).1, if_neg hk]
    simp
  | p :: P, w :: vs, i + 1, m, nd, h1, h2, hk => by
    show bindC kindOf ((p, w) :: P.zip vs) m x = _
    unfold bindC
    exact bindC_get (i := i) (List.nodup_cons.mp nd).2 (by simpa using h1) (by simpa using h2) hk

/-- the names' values at the entry -/
def start (N : List Str) (vs : List V) : St := vs.map some ++ List.replicate (N.length - vs.length) none

/-- the context of a def's body, at its entry; an exception leaves the frame, then lies as CX says -/
def cxOf (CX : CXT) (P : Program) (w : World) (K : PySem.W.Frag) (mg : Str → Option Value) (base : Heap) (N : List Str) (qual : Str) (scope : Scope) (f : Addr) (cd : Value) (A : Around) (outer : List Env) (s : Shared) (H : Hp) (E : XK) : Cx where
  prog := P
  w := w
  K := K
  mg := mg
  base := base
  A := A.deeper (envOfC qual scope s.heap.objs.size f cd)
  N := N
  s₀ := s
  H₀ := H
  env := envOfC qual scope s.heap.objs.size f cd
  outer := outer
  stack := envOfC qual scope s.heap.objs.size f cd :: outer
  ex := []
  calm := true
  fn := fun _ => true
  pn := []
  xe := fun e s' => wpAny (model P w) (A.deeper (envOfC qual scope s.heap.objs.size f cd)) (leaving (envOfC qual scope s.heap.objs.size f cd) e) (fun _ s'' => CX outer H s E e s'') (fun e' s'' => CX outer H s E e' s'') s'

theorem cell_has {sc : Scope} {n : Nat} {x : Str} (h : sc.names.lookup x = some .cell) : ∃ c, (cellsFrom n sc.names []).lookup x = some c := by
  have q := PySem.W.cellsFrom_some sc.names n [] (.inl h)
  exact Option.isSome_iff_exists.mp q

theorem inv_start {CX : CXT} {P : Program} {w : World} {K : PySem.W.Frag} {mg : Str → Option Value} {base : Heap} {N ps : List Str} {qual : Str} {scope : Scope} {f : Addr} {cd : Value} {A : Around} {outer : List Env} {s s1 : Shared} {H : Hp} {E : XK} {us : List Value} {vs : List V}
    (S : FnScope N ps scope) (hd : A.handled = none) (e0 : Env0 P w K mg base A outer s H) (hl : vs.length = ps.length) (r : Vals vs us)
    (x : InCallC s s.heap.objs.size (bindL (envOfC qual scope s.heap.objs.size f cd).kindOf (ps.zip us) fun _ => none) (cellsFrom (s.heap.objs.size + 1) scope.names []) (bindC (envOfC qual scope s.heap.objs.size f cd).kindOf (ps.zip us) fun _ => none) s1) :
    Inv (cxOf CX P w K mg base N qual scope f cd A outer s H E) [] (start N vs) H s1 := by
  have hpl : ps.length ≤ N.length := by have := congrArg List.length S.pre; rw [List.length_take] at this; omega
  obtain ⟨h1, tk, rfl, hk⟩ := x.done
  have noA : ∀ b : Addr, b ∉ (cxOf CX P w K mg base N qual scope f cd A outer s H E).ex := fun b z => absurd (show b ∈ ([] : List Addr) from z) (by simp)
  refine ⟨⟨e0.mod, S.kind, rfl, rfl, Nat.le_refl _, fun y z c h1 h2 => ?_, fun y hy => ?_, fun y c _ h => ?_, fun _ => hd, Around.frames_deeper e0.frames, .inr ⟨rfl, rfl⟩, fun b z => absurd z (noA b), e0.bs, e0.bsz, fun b _ _ => noA b, fun b z => absurd z (noA b), e0.funs, e0.frf⟩,
    rfl, e0.bare, Un.kept hk, ⟨_, x.toInCall.ns, fun i y v h1 h2 h3 => ?_⟩, fun y c h => ⟨_, x.cell y c h⟩, e0.hok.fresh (Nat.le_refl _), fun y c h => ?_, fun p hp => absurd (show p ∈ ([] : List (Addr × Obj)) from hp) (by simp), e0.hok.kept hk, ?_⟩
  · exact name_of_addr x.apart (PySem.mem_of_lookup h1) (PySem.mem_of_lookup h2)
  · have hy : scope.names.lookup y = some .cell ∨ scope.names.lookup y = some .free := hy
    rcases hy with hy | hy
    · exact cell_has hy
    · exact absurd rfl (S.nofree _ (PySem.mem_of_lookup hy))
  · exact Nat.le_of_lt (x.above y c (PySem.mem_of_lookup h))
  · have hi : i < vs.length := by
      unfold start at h2
      by_cases hi : i < vs.length
      · exact hi
      · rw [List.getElem?_append_right (by simpa using hi)] at h2
        rw [List.getElem?_replicate] at h2
        split at h2 <;> cases h2
    have ha : vs[i]? = some v := by
      unfold start at h2
      rw [List.getElem?_append_left (by simpa using hi), List.getElem?_map] at h2
      cases e : vs[i]? with
      | none => rw [e] at h2; cases h2
      | some a => rw [e] at h2; cases h2; rfl
    obtain ⟨u, hu, rv⟩ := r.get ha
    have hp : ps[i]? = some y := by
      rw [← S.pre, List.getElem?_take_of_lt (by omega)]; exact h1
    have ndP : ps.Nodup := by rw [← S.pre]; exact S.nd.sublist (List.take_sublist _ _)
    refine ⟨u, rv, ?_⟩
    rcases S.par y (List.mem_of_getElem? hp) with k | k
    · exact .inl ⟨k, bindL_get ndP hp hu k⟩
    · obtain ⟨c, e⟩ := cell_has (n := s.heap.objs.size + 1) k
      refine .inr ⟨.inl k, c, e, ?_⟩
      have q := x.cell y c e
      rw [bindC_get ndP hp hu (by show scope.names.lookup y ≠ _; rw [k]; decide)] at q
      exact q
  · exact e0.hok.fresh (Nat.le_of_lt (x.above y c (PySem.mem_of_lookup h)))
  · unfold start
    show _ = N.length
    rw [List.length_append, List.length_map, List.length_replicate]
    omega

/-- THE RULE: a def (or a method) of the text, by its body. The body's reading t is chosen for each entry; it is run at the parameters' values -/
theorem fn_of {CX : CXT} {P : Program} {w : World} {K : PySem.W.Frag} {mg : Str → Option Value} {base : Heap} {k : Nat} {f : Addr} {name qual : Str} {params : Arguments} {body : List Stmt} {scope : Scope} {dV kV doc pm cdv ct oc : Value} {an od : Option Addr}
    {osl : Array (Option Value)} {N ps : List Str} {sp : Sp} (lk : K.lookup f = some ⟨oc, od, .func (PySem.W.fnOf name qual params body scope dV kV doc pm an cdv ct), osl⟩) (hcd : PySem.W.codeIn K cdv qual = true) (S : FnScope N ps scope)
    (len : ∀ vs H Q E, sp vs H Q E → vs.length = ps.length)
    (hbody : ∀ (A : Around) (outer : List Env) (s : Shared) (H : Hp) (vs : List V) (Q : VK) (E : XK), Room k (A.deeper (envOfC qual scope s.heap.objs.size f cdv)) → sp vs H Q E →
      ∃ t, PSs (cxOf CX P w K mg base N qual scope f cdv A outer s H E) body t ∧ t { nx := fun _ H' => Q .non H', rt := Q } (start N vs) H) :
    FnOk P w K mg base CX (k + 1) f (PySem.W.fnOf name qual params body scope dV kV doc pm an cdv ct) ps sp := by
  refine ⟨len, fun A outer s H args us vs Q E hr e0 hb r hsp => ?_⟩
  have hl := len _ _ _ _ hsp
  have KX : K.In s.heap := e0.mod.kin.keeps fun b o e => (e0.bs b o e).1
  have lim : s.heap.NoLimit := e0.mod.nolimit.keeps fun b o e => (e0.bs b o e).1
  have hkind : ∀ y ∈ ps.zip us, scope.names.lookup y.1 = some .local ∨ (scope.names.lookup y.1 = some .cell ∧ ((cellsFrom (s.heap.objs.size + 1) scope.names []).lookup y.1).isSome = true) := fun ⟨n, v⟩ hy => by
    rcases S.par n (List.of_mem_zip hy).1 with q | q
    · exact .inl q
    · exact .inr ⟨q, PySem.W.cellsFrom_some _ _ _ (.inl q)⟩
  refine codeAny_call_function hr.depth (KX _ _ lk) rfl S.co S.gen rfl (PySem.W.codeRec_of KX hcd) (hb _ _ _ _ ?_)
  refine wpAny_newFunctionEnv_cells S.kind hkind fun env he s1 x => ?_
  subst he
  refine ⟨lim.keeps x.toInCall.keep, codeAny_func ?_⟩
  obtain ⟨t, ht, hq⟩ := hbody A outer s H vs Q E (hr.deeper _) hsp
  have I : Inv (cxOf CX P w K mg base N qual scope f cdv A outer s H E) [] (start N vs) H s1 := inv_start S hr.hd e0 hl r x
  refine wpAny_mono (ht [] s1 (start N vs) H _ I hq) (fun fl s' hs => ?_) fun e s' hs => hs
  have fin : ∀ {σ' : St} {H' : Hp} {v : V} {u : Value}, Inv (cxOf CX P w K mg base N qual scope f cdv A outer s H E) [] σ' H' s' → RelV v u → Q v H' → CE outer P w H s Q u s' :=
    fun {σ' H' v u} J rv q => ⟨v, H', J.os, J.bare, J.base, J.hok, rv, q⟩
  cases fl with
  | ret u =>
    obtain ⟨v, σ', H', J, rv, q⟩ := hs
    exact fin J rv q
  | next =>
    obtain ⟨σ', H', J, q⟩ := hs
    exact fin (v := V.non) (u := Value.none) J rfl q
  | brk =>
    obtain ⟨_, _, _, q⟩ := hs
    exact False.elim q
  | cont =>
    obtain ⟨_, _, _, q⟩ := hs
    exact False.elim q
end L2

namespace L2
open PySem PySem.Spec PyProof.Rows
section
variable {X : Cx} {x : Str} {p pos : Pos} {e : Expr} {es : List Expr} {t : TA} {id T : String} {r : List V → Hp → VK → Prop}

def tCB (r : List V → Hp → VK → Prop) (t : TA) : TE := fun σ H Q => t σ H fun vs H1 => r vs H1 Q
/-- f(e, ..), f a built-in function -/
theorem pe_callB (hc : CallR X (.builtin id) r) (hg : Gl X x) (hm : X.mg x = none) (hv : bootBuiltins x = some (.builtin id)) (ha : PA X (e :: es) t) (hn : x ≠ "__name__" := by decide) (hdb : (x == ("__debug__" : Str)) = false := by decide)
    (he : starEach (e :: es) X.env = (false, eval e X.env) :: starEach es X.env := by rfl) (hpl : (backTo pos (starEach es X.env)).any (·.1) = false := by rfl) : PE X (.Call (.Name x p) (e :: es) [] pos) (tCB r t) := by
  intro pins s σ H Q I h
  refine wpAny_Call_Name_kw (ld_blt I hg hm hv ?_ hn hdb)
  exact PyProof.Rows.callWith_builtin1 (thn (ha pos pins s σ H _ I h) fun us s1 ⟨vs, H1, I1, r1, q1⟩ => hc pins s1 σ H1 vs us Q I1 r1 q1) he hpl
/-- T(e, ..), T a built-in type -/
theorem pe_callTy (hc : CallR X (.type T) r) (hg : Gl X x) (hm : X.mg x = none) (hv : bootBuiltins x = some (.type T)) (ha : PA X (e :: es) t) (hn : x ≠ "__name__" := by decide) (hdb : (x == ("__debug__" : Str)) = false := by decide)
    (he : starEach (e :: es) X.env = (false, eval e X.env) :: starEach es X.env := by rfl) (hpl : (backTo pos (starEach es X.env)).any (·.1) = false := by rfl) : PE X (.Call (.Name x p) (e :: es) [] pos) (tCB r t) := by
  intro pins s σ H Q I h
  refine wpAny_Call_Name_kw (ld_blt I hg hm hv ?_ hn hdb)
  exact PyProof.Rows.callWith_type1 (thn (ha pos pins s σ H _ I h) fun us s1 ⟨vs, H1, I1, r1, q1⟩ => hc pins s1 σ H1 vs us Q I1 r1 q1) he hpl
end
end L2

namespace HT
open PySem PyProof.Rows



section
open PySem.SeqAt
open PySem.AutoSeq1 (wpAny_loadPart')
open PySem.MeetsSeq PySem.MeetsSeq2 PySem.MeetsSeq3

end

section
variable {prog : Program} {w : World} {A : Around} {E : Value → Shared → Prop} {s : Shared}



/-! ### t[a:b], not the whole -/
/-- a slice's bound as a place among n (d where it is left out) -/
def sIx (n d : Nat) : Option Int → Nat
  | none => d
  | some v => if v < 0 then (v + (n : Int)).toNat else min v.toNat n
theorem sIx_nat (n d k : Nat) : sIx n d (some (k : Int)) = min k n := by
  show (if (k : Int) < 0 then ((k : Int) + (n : Int)).toNat else min (k : Int).toNat n) = min k n
  rw [if_neg (by omega), Int.toNat_natCast]

end
end HT

namespace L2
open PySem PySem.Spec PyProof.Rows

/-! ### the parts of a slice -/
abbrev TO := St → Hp → (Option Int → Hp → Prop) → Prop
/-- a slice's part (left out, or an int) -/
def PO (X : Cx) (e : Option Expr) (t : TO) : Prop :=
  ∀ (pins : List (Addr × Obj)) (s : Shared) (σ : St) (H : Hp) (Q : Option Int → Hp → Prop), Inv X pins σ H s → t σ H Q →
    wpAny (model X.prog X.w) X.A (evalPart e X.env) (fun u s' => ∃ o H', Inv X pins σ H' s' ∧ IsPart u o ∧ Q o H') X.xe s
def tNoPart : TO := fun _ H Q => Q none H
def tPart (t : TE) : TO := fun σ H Q => t σ H fun x H1 => ∃ i, x = .int i ∧ Q (some i) H1


section
variable {X : Cx} {e : Expr} {te : TE} {lo hi : Option Expr} {tl th : TO} {pos p2 : Pos}

theorem po_none : PO X none tNoPart := by
  intro pins s σ H Q I h
  rw [evalPart_none]
  exact wpAny_pure ⟨none, H, I, .none, h⟩
theorem po_some (h : PE X e te) : PO X (some e) (tPart te) := by
  intro pins s σ H Q I hw
  rw [evalPart_some]
  refine thn (h pins s σ H _ I hw) fun u s1 ⟨x, H1, I1, r1, q1⟩ => ?_
  obtain ⟨i, rfl, q⟩ := q1
  obtain ⟨t, rfl⟩ := r1
  exact ⟨some i, H1, I1, .int i t, q⟩

/-- what a slice of a value is, by values: the slice object stands at sl -/
def SlR (X : Cx) (r : V → Option Int → Option Int → Hp → VK → Prop) : Prop :=
  ∀ (pins : List (Addr × Obj)) (s : Shared) (σ : St) (H : Hp) (x : V) (v vl vu : Value) (lo hi : Option Int) (sl : Addr) (Q : VK), Inv X pins σ H s → RelV x v → s.heap.IsSliceOf sl vl vu .none → IsPart vl lo → IsPart vu hi → r x lo hi H Q →
    ∃ T id, typeLookup (.type T) "__getitem__" = pure (some (.builtin id)) ∧ s.TypeIs v T ∧ wpAny (model X.prog X.w) X.A (getItem v (.ref sl)) (EP X pins σ Q) X.xe s
def tSl (r : V → Option Int → Option Int → Hp → VK → Prop) (te : TE) (tl th : TO) : TE := fun σ H Q => te σ H fun x H1 => tl σ H1 fun l H2 => th σ H2 fun u H3 => r x l u H3 Q
/-- a[lo:hi], any a -/
theorem pe_slice {r : V → Option Int → Option Int → Hp → VK → Prop} (hr : SlR X r) (he : PE X e te) (hl : PO X lo tl) (hu : PO X hi th) : PE X (.Subscript e (.Slice lo hi none p2) pos) (tSl r te tl th) := by
  intro pins s σ H Q I h
  refine Subscript_ (thn (he pins s σ H _ I h) fun v s1 ⟨x, H1, I1, r1, q1⟩ => ?_)
  refine wpAny_Slice (thn (hl pins s1 σ H1 _ I1 q1) fun vl s2 ⟨l, H2, I2, pl, q2⟩ => thn (hu pins s2 σ H2 _ I2 q2) fun vu s3 ⟨u, H3, I3, pu, q3⟩ => ?_)
  rw [evalPart_none]
  refine wpAny_pure ?_
  have I4 : Inv X pins σ H3 { s3 with heap := s3.heap.push { cls := .type "slice", data := .fields #[vl, vu, .none] } } := I3.kept (t' := s3.toks) fun b ob q => Heap.get?_push_of_some _ q
  obtain ⟨T, id, hT, ht, hg⟩ := hr pins { s3 with heap := s3.heap.push { cls := .type "slice", data := .fields #[vl, vu, .none] } } σ H3 x v vl vu l u s3.heap.objs.size Q I4 r1 (Heap.IsSliceOf.new ..) pl pu q3
  show wpAny (model X.prog X.w) X.A (subscriptTail e (.Slice lo hi none p2) v (.ref s3.heap.objs.size)) (EP X pins σ Q) X.xe { s3 with heap := s3.heap.push { cls := .type "slice", data := .fields #[vl, vu, .none] } }
  exact tail_any (ops := [.ref s3.heap.objs.size, v]) ht hT hg (by with_unfolding_all rfl)

/-- the items of xs[lo:hi] -/
def cutV (xs : List V) (lo hi : Option Int) : List V := (xs.drop (HT.sIx xs.length 0 lo)).take (HT.sIx xs.length xs.length hi - HT.sIx xs.length 0 lo)
theorem cutV_length (xs : List V) (lo hi : Option Int) : (cutV xs lo hi).length ≤ xs.length := by
  unfold cutV
  rw [List.length_take, List.length_drop]
  omega

/-! ### t < u, t + u -/
end
end L2

namespace L2
open PySem PySem.Spec PyProof.Rows

/-! ### places -/
/-- the place that an index of any sign means -/
def ixN (n : Nat) (i : Int) : Option Nat := if 0 ≤ i then (if i < n then some i.toNat else none) else if -(n : Int) ≤ i then some (i + n).toNat else none
def atI {α : Type} (xs : List α) (i : Int) : Option α := (ixN xs.length i).bind fun j => xs[j]?
theorem ixN_seq {n : Nat} {i : Int} {j : Nat} (h : ixN n i = some j) : seqIndex? i n = some j ∧ j < n ∧ -(n : Int) ≤ i ∧ i < n := by
  unfold ixN at h
  by_cases h0 : 0 ≤ i
  · rw [if_pos h0] at h
    by_cases h1 : i < n
    · rw [if_pos h1] at h
      have e : i.toNat = j := Option.some.inj h
      exact ⟨by rw [seqIndex_of h0 h1, e], by omega, by omega, h1⟩
    · rw [if_neg h1] at h; cases h
  · rw [if_neg h0] at h
    by_cases h1 : -(n : Int) ≤ i
    · rw [if_pos h1] at h
      have e : (i + n).toNat = j := Option.some.inj h
      exact ⟨by rw [seqIndex_neg (by omega) h1, e], by omega, h1, by omega⟩
    · rw [if_neg h1] at h; cases h
theorem atI_get {α : Type} {xs : List α} {i : Int} {v : α} (h : atI xs i = some v) : ∃ j, seqIndex? i xs.length = some j ∧ xs[j]? = some v ∧ j < xs.length ∧ -(xs.length : Int) ≤ i ∧ i < xs.length := by
  unfold atI at h
  cases e : ixN xs.length i with
  | none => rw [e] at h; cases h
  | some j =>
    rw [e] at h
    obtain ⟨h1, h2, h3, h4⟩ := ixN_seq e
    exact ⟨j, h1, h, h2, h3, h4⟩
theorem atI_nat {α : Type} {xs : List α} {j : Nat} {v : α} (h : xs[j]? = some v) : atI xs (j : Int) = some v := by
  have hj : j < xs.length := (List.getElem?_eq_some_iff.mp h).1
  have e : ixN xs.length (j : Int) = some j := by
    unfold ixN
    rw [if_pos (by omega), if_pos (by omega)]; simp
  unfold atI; rw [e]; exact h

/-! ### what may be subscripted -/
/-- what stands as an index of a plain subscript -/
def PlainIx (b : Expr) : Prop := ∀ o i, subscripted b false o i = operate [o, i] (getItem o i)
/-- a subscript by values -/
def IxR (X : Cx) (r : R2) : Prop :=
  ∀ (value slice : Expr) (pins : List (Addr × Obj)) (s : Shared) (σ : St) (H : Hp) (x y : V) (v u : Value) (Q : VK), Inv X pins σ H s → RelV x v → RelV y u → r x y H Q →
    subscripted slice false v u = operate [v, u] (getItem v u) → wpAny (model X.prog X.w) X.A (subscriptTail value slice v u) (EP X pins σ Q) X.xe s
/-- a call of a builtin's method by values: the receiver, the arguments -/
def MtR (X : Cx) (id : String) (r : V → List V → Hp → VK → Prop) : Prop :=
  ∀ (pins : List (Addr × Obj)) (s : Shared) (σ : St) (H : Hp) (x : V) (xs : List V) (v : Value) (us : List Value) (Q : VK), Inv X pins σ H s → RelV x v → Vals xs us → r x xs H Q →
    wpAny (model X.prog X.w) X.A (call (.builtin id) (v :: us)) (EP X pins σ Q) X.xe s
section
variable {X : Cx} {a b : Expr} {ta tb : TE} {pos : Pos}
/-- a[b] -/
theorem pe_ix {r : R2} (hr : IxR X r) (ha : PE X a ta) (hb : PE X b tb) (hs : PlainIx b) : PE X (.Subscript a b pos) (tOp r ta tb) := by
  intro pins s σ H Q I h
  exact Subscript_ (binT ha hb I h fun v u s2 x y H2 I2 rx ry q => hr a b pins s2 σ H2 x y v u Q I2 rx ry q (hs _ _))

def rIxL (K : PySem.W.Frag) : R2 := fun x y H Q => ∃ p xs i v, x = .ref p ∧ y = .int i ∧ SqL K H p xs ∧ atI xs i = some v ∧ Q v H
def rIxT (K : PySem.W.Frag) : R2 := fun x y H Q => ∃ p xs i v, x = .ref p ∧ y = .int i ∧ SqT K H p xs ∧ atI xs i = some v ∧ Q v H
theorem ix_list : IxR X (rIxL X.K) := by
  intro value slice pins s σ H x y v u Q I rx ry h hs
  obtain ⟨p, xs, i, z, rfl, rfl, hq, he, q⟩ := h
  cases rx
  obtain ⟨t, rfl⟩ := ry
  obtain ⟨its, r, pl, hz⟩ := I.list hq
  obtain ⟨j, h1, h2, h3, h4, h5⟩ := atI_get he
  obtain ⟨w, ew, rw'⟩ := r.get h2
  have hl := r.length
  have hn := line63
  have fin : EP X pins σ Q w s := ⟨z, H, I, rw', q⟩
  by_cases h0 : 0 ≤ i
  · have hj : i.toNat = j := by
      rw [seqIndex_of h0 h5] at h1
      exact Option.some.inj h1
    exact item_listR pl.isList h0 (by omega) (by rw [hj]; simpa using ew) fin hs
  · have hj : (i + (its.toArray.size : Int)).toNat = j := by
      rw [seqIndex_neg (by omega) h4] at h1
      rw [List.size_toArray, ← hl]
      exact Option.some.inj h1
    exact subscriptTail_builtinR (x := w) pl.isList.typeIs slot_list_getitem.lookup
      (wpAny_getItem_list_neg (Q := fun r s' => r = w ∧ EP X pins σ Q r s') pl.isList (by omega) (by rw [List.size_toArray] <;> omega) (by omega) (by rw [hj]; simpa using ew) ⟨rfl, fin⟩) hs
theorem ix_tup : IxR X (rIxT X.K) := by
  intro value slice pins s σ H x y v u Q I rx ry h hs
  obtain ⟨p, xs, i, z, rfl, rfl, hq, he, q⟩ := h
  cases rx
  obtain ⟨t, rfl⟩ := ry
  obtain ⟨its, r, pl, hz⟩ := I.tuple hq
  obtain ⟨j, h1, h2, h3, h4, h5⟩ := atI_get he
  obtain ⟨w, ew, rw'⟩ := r.get h2
  have hl := r.length
  have hn := line63
  have fin : EP X pins σ Q w s := ⟨z, H, I, rw', q⟩
  exact subscriptTail_builtinR (x := w) pl.typeIs slot_tuple_getitem.lookup
    (getItem_tuple (j := j) (Q := fun r s' => r = w ∧ EP X pins σ Q r s') pl (by omega) (by omega) (by rw [List.size_toArray, ← hl]; exact h1) (by simpa using ew) ⟨rfl, fin⟩) hs

/-! ### xs[i] = v, any sign -/
/-- the list's object behind a store -/
theorem mapSeq_set (its : List Value) (n j : Nat) (u : Value) : Obj.mapSeq (·.setIfInBounds j u) { cls := .type "list", data := .seq its.toArray n } = { cls := .type "list", data := .seq (its.set j u).toArray n } := by
  simp [Obj.mapSeq]
theorem Inv.lst {pins : List (Addr × Obj)} {σ : St} {H : Hp} {s : Shared} {p : Addr} {xs : List V} (I : Inv X pins σ H s) (h : H p = some (.lst xs)) :
    ∃ (its : List Value) (n : Nat), Vals xs its ∧ s.heap.get? p = some { cls := .type "list", data := .seq its.toArray n } ∧ xs.length ≤ sizeLine := by
  obtain ⟨z, its, n, r, e⟩ := I.hok p _ h
  exact ⟨its, n, r, e, z⟩
/-- the list at p is written by an update of its object -/
theorem Inv.lstUpd {pins : List (Addr × Obj)} {σ : St} {H : Hp} {s : Shared} {p : Addr} {xs ys : List V} {its its' : List Value} {n n' : Nat} {f : Obj → Obj} (I : Inv X pins σ H s) (h : H p = some (.lst xs))
    (ho : s.heap.get? p = some { cls := .type "list", data := .seq its.toArray n }) (hf : f { cls := .type "list", data := .seq its.toArray n } = { cls := .type "list", data := .seq its'.toArray n' }) (r : Vals ys its') (hz : ys.length ≤ sizeLine) (t : Nat) :
    Inv X pins σ (upd H p (.lst ys)) { s with heap := s.heap.update p f, toks := t } := by
  have e : (s.heap.update p f).get? p = some { cls := .type "list", data := .seq its'.toArray n' } := by
    rw [Heap.get?_update_self f ho (by rw [hf] <;> rfl), hf]
  refine I.write (x := p) (e := p) (by rw [h]; trivial) (.inl rfl) (fun b u hb q => (Heap.get?_update_other _ _ (Ne.symm hb)).trans q) ⟨_, e⟩ ?_
  exact ⟨hz, its', n', r, e⟩
def rSetL : V → V → V → Hp → (Hp → Prop) → Prop := fun o i v H Q => ∃ p xs k j, o = .ref p ∧ i = .int k ∧ H p = some (.lst xs) ∧ ixN xs.length k = some j ∧ Q (upd H p (.lst (xs.set j v)))
theorem set_list : PSet X rSetL := by
  intro pins s σ H o i v ov iv u Q I ro ri rv h
  obtain ⟨p, xs, k, j, rfl, rfl, hp, hj, q⟩ := h
  cases ro
  obtain ⟨t, rfl⟩ := ri
  obtain ⟨its, n, r, ho, hz⟩ := I.lst hp
  obtain ⟨h1, h2, h3, h4⟩ := ixN_seq hj
  have hl := r.length
  have hn := line63
  have I' : Inv X pins σ (upd H p (.lst (xs.set j v))) { s with heap := s.heap.update p (Obj.mapSeq (·.setIfInBounds j u)) } :=
    I.lstUpd hp ho (mapSeq_set its n j u) (r.set rv j) (by rw [List.length_set]; exact hz) s.toks
  by_cases h0 : 0 ≤ k
  · have hk : k.toNat = j := by
      rw [seqIndex_of h0 h4] at h1
      exact Option.some.inj h1
    exact PySem.W.ki_setAt ho h0 (by omega) (by rw [List.size_toArray, ← hl]; exact h4) (by rw [hk]; exact ⟨_, I', q⟩)
  · have hk : (k + (its.toArray.size : Int)).toNat = j := by
      rw [seqIndex_neg (by omega) h3] at h1
      rw [List.size_toArray, ← hl]
      exact Option.some.inj h1
    exact PySem.W.ki_setBack ho (by omega) (by rw [List.size_toArray, ← hl]; exact h3) (by omega) (by rw [hk]; exact ⟨_, I', q⟩)

/-! ### slices -/
theorem slice_bounds (lo hi : Option Int) (n : Nat) : (sliceBounds lo hi none n).1 = ((HT.sIx n 0 lo : Nat) : Int) ∧ (sliceBounds lo hi none n).2.1 = ((HT.sIx n n hi : Nat) : Int) ∧ (sliceBounds lo hi none n).2.2 = 1 := by
  refine ⟨?_, ?_, rfl⟩
  · cases lo with
    | none => simp [sliceBounds, HT.sIx]
    | some i =>
      simp only [sliceBounds, HT.sIx, Option.getD_none, show (1 : Int) > 0 by decide, if_true]
      by_cases h : i < 0
      · simp only [h, if_true] <;> omega
      · simp only [h, if_false] <;> omega
  · cases hi with
    | none => simp [sliceBounds, HT.sIx]
    | some i =>
      simp only [sliceBounds, HT.sIx, Option.getD_none, show (1 : Int) > 0 by decide, if_true]
      by_cases h : i < 0
      · simp only [h, if_true] <;> omega
      · simp only [h, if_false] <;> omega
theorem slicePick_cut (its : List Value) (lo hi : Option Int) : slicePick its.toArray lo hi none = ((its.drop (HT.sIx its.length 0 lo)).take (HT.sIx its.length its.length hi - HT.sIx its.length 0 lo)).toArray := by
  obtain ⟨h1, h2, h3⟩ := slice_bounds lo hi its.toArray.size
  unfold slicePick
  rw [h1, h2, h3]
  simp only [sliceRange_one, pick_run, List.size_toArray] <;> rfl
/-- xs[lo:hi] of a list: a new list -/
def rSlL (K : PySem.W.Frag) : V → Option Int → Option Int → Hp → VK → Prop := fun x lo hi H Q => ∃ a xs, x = .ref a ∧ SqL K H a xs ∧ ∀ p, H p = none → Q (.ref p) (upd H p (.lst (cutV xs lo hi)))
theorem sl_list : SlR X (rSlL X.K) := by
  intro pins s σ H x v vl vu lo hi sl Q I rx hs pl pu h
  obtain ⟨a, xs, rfl, hx, q⟩ := h
  cases rx
  obtain ⟨its, r, ht, hz⟩ := I.list hx
  have hlen := r.length
  refine ⟨"list", _, slot_list_getitem.lookup, ht.isList.typeIs, ?_⟩
  refine wpAny_getItem_list_slice ht.isList hs pl pu .none (by simp) ?_ (by rw [List.size_toArray] <;> omega)
  rw [slicePick_cut, ← hlen]
  refine ⟨.ref s.heap.objs.size, _, I.laid (t' := s.toks) (o := .lst (cutV xs lo hi)) (fun b ob q => Heap.get?_push_of_some _ q) (Nat.le_refl _) ?_, rfl, q _ (I.hok.fresh (Nat.le_refl _))⟩
  exact ⟨Nat.le_trans (cutV_length xs lo hi) hz, _, 0, (r.drop (HT.sIx xs.length 0 lo)).take (HT.sIx xs.length xs.length hi - HT.sIx xs.length 0 lo), Heap.get?_push_size _ rfl⟩

/-! ### in, not in: flat items -/

/-! ### len, list(x), tuple(x) of any list or tuple that is read -/
theorem call_len_seq : CallR X (.builtin "len") (fun xs H Q => ∃ p ys, xs = [.ref p] ∧ (SqL X.K H p ys ∨ SqT X.K H p ys) ∧ Q (.int ys.length) H) := by
  intro pins s σ H xs us Q I r h
  obtain ⟨p, ys, rfl, hq, q⟩ := h
  obtain ⟨u, rfl, rx⟩ := vals1 r
  cases rx
  have hn := line63
  rcases hq with hq | hq
  · obtain ⟨its, r', pl, hz⟩ := I.list hq
    have hlen := r'.length
    exact Calls.call_len_list pl.isList (by simp only [List.size_toArray] <;> omega) ⟨.int ys.length, H, I.tok _, ⟨s.toks + 1, by rw [List.size_toArray, hlen]⟩, q⟩
  · obtain ⟨its, r', pl, hz⟩ := I.tuple hq
    have hlen := r'.length
    exact len_tuple pl (by simp only [List.size_toArray] <;> omega) ⟨.int ys.length, H, I.tok _, ⟨s.toks + 1, by rw [List.size_toArray, hlen]⟩, q⟩
theorem call_list_of : CallR X (.type "list") (fun xs H Q => ∃ p ys, xs = [.ref p] ∧ (SqL X.K H p ys ∨ SqT X.K H p ys) ∧ ∀ l, H l = none → Q (.ref l) (upd H l (.lst ys))) := by
  intro pins s σ H xs us Q I r h
  obtain ⟨p, ys, rfl, hq, q⟩ := h
  obtain ⟨u, rfl, rx⟩ := vals1 r
  cases rx
  have fin : ∀ (its : List Value), Vals ys its → ys.length ≤ sizeLine → ∀ (h' : Heap) (c' : Nat), (∀ b o', s.heap.get? b = some o' → h'.get? b = some o') →
      h'.get? s.heap.objs.size = some { cls := .type "list", dict := none, data := .seq its.toArray c', slots := #[] } → EP X pins σ Q (.ref s.heap.objs.size) { s with heap := h' } := fun its r' hz h' c' kp e =>
    ⟨.ref s.heap.objs.size, _, I.laid (t' := s.toks) kp (Nat.le_refl _) (show ObjOk X.prog X.w _ h' _ (.lst ys) from ⟨hz, its, c', r', e⟩), rfl, q _ (I.hok.fresh (Nat.le_refl _))⟩
  rcases hq with hq | hq
  · obtain ⟨its, r', pl, hz⟩ := I.list hq
    have hlen := r'.length
    obtain ⟨o, ho, hc, n, hd⟩ := pl.isList
    exact call_list_seq p (.inl rfl) ho hc hd (fun h' c' kp e => fin its r' hz h' c' kp e) (by simp only [List.size_toArray] <;> omega)
  · obtain ⟨its, r', pl, hz⟩ := I.tuple hq
    have hlen := r'.length
    obtain ⟨o, ho, hc, n, hd⟩ := pl
    exact call_list_seq p (.inr rfl) ho hc hd (fun h' c' kp e => fin its r' hz h' c' kp e) (by simp only [List.size_toArray] <;> omega)

/-! ### the call of a builtin's method: o.m(..) -/
/-- the value is of that builtin type -/
def tyV (K : PySem.W.Frag) (T : String) (x : V) (H : Hp) : Prop := match x with
  | .str _ => T = "str"
  | .int _ => T = "int"
  | .ref p => (T = "list" ∧ ∃ xs, SqL K H p xs) ∨ (T = "tuple" ∧ ∃ o, K.lookup p = some o ∧ o.cls = .type "tuple" ∧ o.dict = none) ∨
      (T = "dict" ∧ ((∃ kvs, H p = some (.dK kvs)) ∨ ∃ kvs, H p = some (.dT kvs))) ∨ (T = "set" ∧ ∃ S n, H p = some (.set S n))
  | _ => False
theorem tyV_is {pins : List (Addr × Obj)} {σ : St} {H : Hp} {s : Shared} {T : String} {x : V} {v : Value} (I : Inv X pins σ H s) (r : RelV x v) (ty : tyV X.K T x H) :
    s.TypeIs v T ∧ ∀ a, v = .ref a → ∃ ob, s.heap.get? a = some ob ∧ ob.dict = none := by
  cases x with
  | str z =>
    obtain ⟨t, rfl⟩ := r
    cases (show T = "str" from ty)
    exact ⟨typeIs_str s z t, fun _ e => nomatch e⟩
  | int i =>
    obtain ⟨t, rfl⟩ := r
    cases (show T = "int" from ty)
    exact ⟨typeIs_int s i t, fun _ e => nomatch e⟩
  | ref p =>
    cases r
    rcases ty with ⟨rfl, xs, hq⟩ | ⟨rfl, o, hk, hc, hd⟩ | ⟨rfl, hk⟩ | ⟨rfl, S, n, hk⟩
    · obtain ⟨its, _, pl, _⟩ := I.list hq
      refine ⟨pl.isList.typeIs, fun a e => ?_⟩
      cases e
      obtain ⟨o, n, e, c, hd, _⟩ := pl
      exact ⟨o, e, hd⟩
    · refine ⟨⟨o, I.kIn p o hk, hc⟩, fun a e => ?_⟩
      cases e
      exact ⟨o, I.kIn _ o hk, hd⟩
    · have z : ∃ o, s.heap.get? p = some o ∧ o.ExactDict := by
        rcases hk with ⟨kvs, hk⟩ | ⟨kvs, hk⟩
        · obtain ⟨_, _, _, _, o, _, _, e, ex, _⟩ := I.hok p _ hk
          exact ⟨o, e, ex⟩
        · obtain ⟨_, _, _, _, o, _, _, e, ex, _⟩ := I.hok p _ hk
          exact ⟨o, e, ex⟩
      obtain ⟨o, e, ex⟩ := z
      refine ⟨⟨o, e, ex.1⟩, fun a e2 => ?_⟩
      cases e2
      exact ⟨o, e, ex.2.1⟩
    · obtain ⟨o, _, _, _, e, ex, _⟩ := I.hok p _ hk
      refine ⟨⟨o, e, ex.1⟩, fun a e2 => ?_⟩
      cases e2
      exact ⟨o, e, ex.2.1⟩
  | _ => exact False.elim ty
def tBM (K : PySem.W.Frag) (T : String) (r : V → List V → Hp → VK → Prop) (to : TE) (t : TA) : TE := fun σ H Q => to σ H fun x H1 => tyV K T x H1 ∧ t σ H1 fun xs H2 => r x xs H2 Q
variable {o e : Expr} {es : List Expr} {to : TE} {t : TA} {name : Str} {apos cpos : Pos} {T id : String} {r : V → List V → Hp → VK → Prop}
theorem pe_bm (pa : PlainAttrs T) (slot : Slot T name id) (hty : typeOf (.builtin id) = pure (.type "method_descriptor")) (hm : MtR X id r) (ho : PE X o to) (ha : PA X (e :: es) t)
    (hbase : attributeBase o name X.env (eval o X.env) = eval o X.env := by rfl)
    (hfew : ((backTo cpos (starEach (e :: es) X.env)).all (fun x => !x.1) && (backToKw cpos (keywordEach [] X.env)).all (fun x => x.1.isSome)
      && decide ((e :: es).length + ([] : List Keyword).length + (if ([] : List Keyword).isEmpty then 0 else 1) < 30)) = true := by rfl)
    (hline : (apos.endLine == cpos.line) = true := by rfl) (hs : starEach (e :: es) X.env = (false, eval e X.env) :: starEach es X.env := by rfl) (hplain : (backTo cpos (starEach es X.env)).any (·.1) = false := by rfl) :
    PE X (.Call (.Attribute o name apos) (e :: es) [] cpos) (tBM X.K T r to t) := by
  intro pins s σ H Q I h
  refine wpAny_Call_method_late hbase hfew hline rfl (thn (ho pins s σ H _ I h) fun v s1 ⟨x, H1, I1, r1, ty, q1⟩ => ?_)
  obtain ⟨h1, h2⟩ := tyV_is I1 r1 ty
  refine ⟨T, id, pa, slot, hty, h1, h2, ?_⟩
  have hA := ha cpos pins s1 σ H1 _ I1 q1
  rw [hs] at hA ⊢
  refine Calls.callWith_builtin (by show (false || (backTo cpos (starEach es X.env)).any (·.1)) = false; rw [hplain] <;> rfl) (Calls.evalArgs_plain ?_)
  exact thn hA fun us s2 ⟨vs, H2, I2, r2, q2⟩ => hm pins s2 σ H2 x vs v us Q I2 r1 r2 q2
/- xs.append(e), list.index on a module's tuple .. are MtR facts of 06m -/
end
end L2

namespace L2
open PySem PySem.Spec PyProof.Rows

def MtM (X : Cx) (id : String) (r : V → List V → Hp → VK → Prop) : Prop :=
  ∀ (pins : List (Addr × Obj)) (s : Shared) (σ : St) (H : Hp) (x : V) (xs : List V) (v : Value) (us : List Value) (Q : VK), Inv X pins σ H s → RelV x v → Vals xs us → r x xs H Q →
    wpAny (model X.prog X.w) X.A (call (.builtin id) (v :: us)) (EP X pins σ Q) X.xe s

/-! ### lists of values -/
theorem Vals.one : ∀ {x : V} {us : List Value}, Vals [x] us → ∃ u, us = [u] ∧ RelV x u
  | _, _, .cons r .nil => ⟨_, rfl, r⟩
theorem Vals.two : ∀ {x y : V} {us : List Value}, Vals [x, y] us → ∃ u v, us = [u, v] ∧ RelV x u ∧ RelV y v
  | _, _, _, .cons r (.cons q .nil) => ⟨_, _, rfl, r, q⟩

section
variable {X : Cx} {pins : List (Addr × Obj)} {σ : St} {H : Hp} {s : Shared} {l b : Addr} {xs ys zs : List V}

/-! ### the two steps: a tracked list is rewritten, a new list is laid -/
theorem Inv.lset {its its' : List Value} {n : Nat} {f : Array Value → Array Value} {t' : Nat} (I : Inv X pins σ H s) (hH : H l = some (.lst xs))
    (e : s.heap.get? l = some { cls := .type "list", data := .seq its.toArray n }) (hf : f its.toArray = its'.toArray) (hv : Vals ys its') (hz : ys.length ≤ sizeLine) :
    Inv X pins σ (upd H l (.lst ys)) { s with heap := s.heap.update l (Obj.mapSeq f), toks := t' } := by
  have q := PySem.IsL.update e f
  rw [hf] at q
  refine I.write (x := l) (e := l) (by rw [hH]; exact trivial) (.inl rfl) (fun b' u hb hu => (Heap.get?_update_other s.heap (Obj.mapSeq f) (Ne.symm hb)).trans hu) ⟨_, q⟩ ?_
  exact ⟨hz, its', _, hv, q⟩
theorem Inv.lnew {its : List Value} {t' : Nat} (I : Inv X pins σ H s) (hv : Vals ys its) (hz : ys.length ≤ sizeLine) :
    Inv X pins σ (upd H s.heap.objs.size (.lst ys)) { s with heap := s.heap.push { cls := .type "list", data := .seq its.toArray }, toks := t' } :=
  I.laid (fun _ _ q => Heap.get?_push_of_some _ q) (Nat.le_refl _) ⟨hz, its, 0, hv, Heap.get?_push_size _ rfl⟩
theorem Inv.fresh (I : Inv X pins σ H s) : H s.heap.objs.size = none := I.hok.fresh (Nat.le_refl _)
theorem Inv.lstM (I : Inv X pins σ H s) (hH : H l = some (.lst xs)) : xs.length ≤ sizeLine ∧ ∃ (its : List Value) (n : Nat), Vals xs its ∧ xs.length = its.length ∧ s.heap.get? l = some { cls := .type "list", data := .seq its.toArray n } := by
  obtain ⟨z, its, n, r, e⟩ := I.hok l _ hH
  exact ⟨z, its, n, r, r.length, e⟩

end

section
variable {X : Cx}

/-! ### methods -/
def rAppend : V → List V → Hp → VK → Prop := fun x vs H Q => ∃ l xs y, x = .ref l ∧ vs = [y] ∧ H l = some (.lst xs) ∧ xs.length < sizeLine ∧ Q .non (upd H l (.lst (xs ++ [y])))
theorem mt_append : MtM X "list.append" rAppend := by
  intro pins s σ H x vs v us Q I rx rv h
  obtain ⟨l, xs, y, rfl, rfl, hH, hz, q⟩ := h
  cases rx
  obtain ⟨u, rfl, ru⟩ := rv.one
  obtain ⟨z, its, n, r, hl, e⟩ := I.lstM hH
  refine call_meets F.slot_list_append ⟨_, e, rfl⟩ F.entry_list_append (F.args_list_append_2 _ _) (PySem.list_append l its.toArray n u (by rw [List.size_toArray]; omega)) ⟨e, ?_⟩
  refine ⟨.non, _, I.lset (its' := its ++ [u]) hH e (by simp) (r.append (.cons ru .nil)) ?_, rfl, q⟩
  rw [List.length_append, List.length_singleton]
  omega






/-! ### list + list, list += list, list * int -/
def rCat : R2 := fun x y H Q => ∃ l b xs zs, x = .ref l ∧ y = .ref b ∧ H l = some (.lst xs) ∧ H b = some (.lst zs) ∧ xs.length + zs.length ≤ sizeLine ∧ ∀ p, H p = none → Q (.ref p) (upd H p (.lst (xs ++ zs)))
theorem op_cat : OpR X (binaryOp .Add) rCat := by
  intro pins s σ H x y v u Q I rx ry h
  obtain ⟨l, b, xs, zs, rfl, rfl, hH, hB, hz, q⟩ := h
  cases rx
  cases ry
  obtain ⟨z, its, n, r, hl, e⟩ := I.lstM hH
  obtain ⟨z2, its2, n2, r2, hl2, e2⟩ := I.lstM hB
  refine PySem.P.add_list e e2 ?_ (by rw [List.size_toArray, List.size_toArray]; omega)
  have ea : its.toArray ++ its2.toArray = (its ++ its2).toArray := by simp
  rw [ea]
  exact ⟨.ref _, _, I.lnew (t' := s.toks) (r.append r2) (by rw [List.length_append]; omega), rfl, q _ I.fresh⟩

/-! ### del xs[i] -/
end

/-! ### xs[a:b] = ys -/
section
variable {prog : Program} {w : World} {A : Around} {E : Value → Shared → Prop} {s : Shared}
end

section
variable {X : Cx}
end
end L2

namespace Att
open PySem PySem.W PySem.Calls PyProof.Rows

/-! ### the script -/
theorem ints_of_wellAll {P : Params} {h : Heap} : ∀ (ns : List Int) (vs : List Value), WellAll P h vs (ns.map WData.int) → IntsAre vs ns := by
  intro ns
  induction ns with
  | nil =>
    intro vs w
    rw [List.map_nil] at w
    cases w
    exact .nil
  | cons n ns ih =>
    intro vs w
    rw [List.map_cons] at w
    cases w with
    | cons a b =>
      cases a
      exact .cons _ _ (ih _ b)

theorem script_of {l : OpenLaw} {n : Nat} (hn : l.most = some n) {P : Params} {h : Heap} {args : List WData} {vals : List Value}
    (hpre : l.row.toRowW.claim.pre args = true) (hwl : WellAll P h vals args) :
    ∃ a vs ns, vals = [Value.ref a] ∧ args = [WData.list (ns.map WData.int)] ∧ h.get? a = some { cls := .type "list", data := .seq vs.toArray } ∧ IntsAre vs ns ∧ ns.length ≤ n := by
  have hsh : WShape.hasAll [] args [.list .int] = true := (pre_splitW hpre).1
  have hc : l.pre.holds [] { args := args } = true := (pre_splitW hpre).2
  obtain ⟨d, r, rfl, h1, h2⟩ := hasAllW_cons hsh
  obtain rfl := hasAllW_nil h2
  obtain ⟨xs, rfl, h3⟩ := hasW_list h1
  obtain ⟨ns, rfl⟩ := items_int h3
  have hlen : ns.length ≤ n := by
    unfold OpenLaw.pre at hc
    have h4 : (WTm.not (.lt (.lit (.int (n : Int))) (.len (.arg 0)))).holds [] { args := [.list (ns.map .int)] } = true := by
      have h4 := (holds_andW hc).1
      rw [hn] at h4
      exact h4
    have h5 := condW_of h4 (w_not (w_lt w_lit (w_len_list (w_arg rfl))))
    rw [List.length_map] at h5
    refine Nat.le_of_not_lt fun q => ?_
    have q' : (n : Int) < ((ns.length : Nat) : Int) := by omega
    first
      | (rw [decide_eq_true q'] at h5; exact absurd h5 (by decide))
      | (simp at h5; omega)
  cases hwl with
  | cons w1 w2 =>
    cases w2
    cases w1 with
    | list ho hall => exact ⟨_, _, ns, rfl, rfl, ho, ints_of_wellAll ns _ hall, hlen⟩

theorem post_true (l : OpenLaw) (args : List WData) : l.row.toRowW.claim.post args (.bool true) args = true :=
  postW_of (r := l.row.toRowW) (X := (true == true))
    (show WShape.has [] (.bool true) .bool = true by first | rfl | decide | simp [WShape.has, WShape.arms, WShape.armsAll])
    (show (WTm.eq .res (.lit (.bool true))).value [] { args := args, res := some (.bool true), after := args } = some (.bool (true == true)) from w_eq_bool (w_res rfl) w_lit) rfl

/-! ### the attachment: holds_open's last premise (the goal 'hc' behind k_head) from a wpAny of the law's body -/

/-- the same from a codeAny of the CALL (for a layer whose function contracts speak of calls) -/
theorem attach_call {l : OpenLaw} {n : Nat} {q : Program} {loose : List Str} {XP : (Str → Option Value) → Heap → Prop} {YP : World → Heap → Prop} {d : DefRec}
    (hn : l.most = some n) (hdf : d.params.defaults = [])
    (call : ∀ (w : World) (s₀ s₁ : Shared) (mg mb : Str → Option Value) (fa : Addr) (o : Obj) (pm cd doc : Value) (a : Addr) (vs : List Value) (ns : List Int),
      Ground q loose [] XP w s₀ mg mb s₁.heap → YP w s₁.heap →
      s₁.heap.get? fa = some o → o.data = .func (docDef d.name d.params d.body d.scope pm cd doc) → s₁.heap.CodeRec cd d.name → mg d.name = some (.ref fa) →
      s₁.heap.get? a = some { cls := .type "list", data := .seq vs.toArray } → IntsAre vs ns → ns.length ≤ n → s₁.gens = #[] →
      codeAny (model l.prog w) callerA (.call (.ref fa) ⟨[.ref a], []⟩) (fun r s' => r = .ok (.ret (.bool true)) ∧ OldK s₁.heap s'.heap ∧ s'.os = s₁.os ∧ AllBare s'.gens) s₁) :
    WalkO q loose XP YP l.row.toRowW d [] (fun f vs => PySem.call f vs) := by
  intro w s₀ s₁ mg mb G Y fa o pm cd doc dV kV ho hd hcd hD hmg hg args vals as hpre hlay hrd hwl hlo
  obtain rfl : dV = .none := Dflts.none hD hdf
  obtain rfl : kV = .none := Dflts.noKw hD
  obtain ⟨a, vs, ns, rfl, rfl, hobj, hints, hlen⟩ := script_of hn hpre hwl
  refine enter_call (codeAny_mono (call w s₀ s₁ mg mb fa o pm cd doc a vs ns G Y ho (fd_plain hd) hcd hmg hobj hints hlen hg) fun r s' hq => ?_)
  obtain ⟨rfl, h2, h3, h4⟩ := hq
  exact ⟨.inl ⟨.bool true, .bool true, [], rfl, fun _ => rfl, .bool true, post_true l _, fun _ => ⟨List.Pairwise.nil, fun _ hm => (nomatch hm)⟩⟩, h2, h3, h4⟩


/-! ### rules over ANY heap (no ledger) from facts about the written part K: the library's own take a ledger (News) for what they write -/
section
variable {prog : Program} {w : World} {A : Around} {E : Value → Shared → Prop} {s : Shared} {K : Frag}





/-! the whole heap as the ledger: makes every rule that writes through a ledger a rule over any heap -/

end
end Att

namespace L2
open PySem PySem.Spec PyProof.Rows

theorem vals_ints : ∀ {vs : List Value} {ns : List Int}, IntsAre vs ns → Vals (ns.map V.int) vs
  | _, _, .nil => .nil
  | _, _, .cons n t h => .cons ⟨t, rfl⟩ (vals_ints h)

/-- nothing is tracked but the script, known to the object (or it is an object of the module) -/
def Only (H : Hp) : Prop := ∀ b, H b = none ∨ ∃ o xs, H b = some (.frz o (.lst xs))

/-- THE HEAD: the law's promise, at the heap behind the top. F, the promise of the law's def, may use that base is part of the heap (so K.In base, base.Ns mainGlobals mg stand in Mod) -/
theorem law_call {P : Program} {w : World} {K : PySem.W.Frag} {mg mb : Str → Option Value} {CX : CXT} {k : Nat} {fa a : Addr} {fd : FuncData} {x : Str} {sp : Sp} {s₁ : Shared} {vs : List Value} {ns : List Int}
    (KX : K.In s₁.heap) (hns : s₁.heap.Ns mainGlobals mg) (hb : s₁.heap.Ns builtinsNs mb) (hbb : ∀ x : Str, x ≠ "__name__" → mb x = bootBuiltins x) (hlim : s₁.heap.NoLimit) (hg : s₁.gens = #[])
    (ha : s₁.heap.get? a = some { cls := .type "list", data := .seq vs.toArray }) (hi : IntsAre vs ns) (hl : ns.length ≤ sizeLine) (hr : Room k callerA)
    (F : ∀ base : Heap, K.In base → base.Ns mainGlobals mg → FnOk P w K mg base CX k fa fd [x] sp) (hbind : ∀ (s : Shared) (u : Value), BindsTo s fd ⟨[u], []⟩ [(x, u)])
    (hsp : ∀ H : Hp, Only H → SqL K H a (ns.map V.int) → sp [.ref a] H (fun v _ => v = .bl true) fun _ _ _ => False)
    (hCX : ∀ H e s', CX [] H s₁ (fun _ _ _ => False) e s' → False) :
    codeAny (model P w) callerA (.call (.ref fa) ⟨[.ref a], []⟩) (fun r s' => r = .ok (.ret (.bool true)) ∧ OldK s₁.heap s'.heap ∧ s'.os = s₁.os ∧ AllBare s'.gens) s₁ := by
  have rv := vals_ints hi
  have lenV := hi.length
  have core : ∀ H : Hp, Only H → SqL K H a (ns.map V.int) → HOk P w H s₁.heap → (∀ b, H b ≠ none → b = a) → (H a ≠ none → K.lookup a = none) →
      codeAny (model P w) callerA (.call (.ref fa) ⟨[.ref a], []⟩) (fun r s' => r = .ok (.ret (.bool true)) ∧ OldK s₁.heap s'.heap ∧ s'.os = s₁.os ∧ AllBare s'.gens) s₁ := by
    intro H hO hS hok hA hK
    have base_of : ∀ {b : Addr} {o : Obj}, s₁.heap.get? b = some o → H b = none → (hidT s₁.heap H).get? b = some o := fun e n => hidT_get e n
    have noA : ∀ {b : Addr} {o : Obj} {es : Array DictEntry} {ep : Nat}, s₁.heap.get? b = some o → o.data = .dict es ep → H b = none := fun {b o es ep} e d => by
      cases q : H b with
      | none => rfl
      | some u =>
        have e' : b = a := hA b (by rw [q]; simp)
        subst e'
        rw [ha] at e; cases e
        have d' : Data.seq vs.toArray _ = Data.dict es ep := d
        cases d'
    have nsK : ∀ {b : Addr} {m : Str → Option Value}, s₁.heap.Ns b m → (hidT s₁.heap H).Ns b m := fun {b m} ⟨o, es, ep, e, d, r⟩ => ⟨o, es, ep, base_of e (noA e d), d, r⟩
    have hKb : K.In (hidT s₁.heap H) := fun b o e => base_of (KX b o e) (by
      cases q : H b with
      | none => rfl
      | some u =>
        have e' : b = a := hA b (by rw [q]; simp)
        subst e'
        rw [hK (by rw [q]; simp)] at e; cases e)
    have hM : Mod K mg (hidT s₁.heap H) := ⟨hKb, nsK hns, ⟨mb, nsK hb, hbb⟩, let ⟨mc, h1, h2⟩ := hlim; ⟨mc, nsK h1, h2⟩⟩
    have e0 : Env0 P w K mg (hidT s₁.heap H) callerA [] s₁ H := ⟨rfl, hM, fun b o e => of_hidT e, Nat.le_of_eq (hidT_size _ _), trivial, fun b hb => absurd (show b ∈ ([] : List Addr) from hb) (by simp), hok, .of_eq hg⟩
    refine codeAny_mono ((F _ hKb (nsK hns)).run callerA [] s₁ H ⟨[.ref a], []⟩ [.ref a] [.ref a] _ _ hr e0 (hbind s₁ (.ref a)) (.cons rfl .nil) (hsp H hO hS)) fun r s' h => ?_
    cases r with
    | error e => exact (hCX H e s' h).elim
    | ok fl =>
      cases fl with
      | next => exact False.elim h
      | brk => exact False.elim h
      | cont => exact False.elim h
      | ret u =>
        obtain ⟨v, H', os, bare, un, hok', r', q⟩ := h
        have q' : v = .bl true := q
        subst q'
        obtain rfl : u = Value.bool true := r'
        refine ⟨rfl, OldK.of_keep fun b o e => ?_, os, bare⟩
        cases q : H b with
        | none => exact un.keep b o e q (by intro z; exact absurd (show b ∈ ([] : List Addr) from z) (by simp)) (by simp)
        | some u =>
          rcases hO b with z | ⟨ob, xs, z⟩
          · rw [q] at z; cases z
          · have z2 := un.frzs b ob _ z
            obtain ⟨e1, _⟩ := hok b _ z
            obtain ⟨e2, _⟩ := hok' b _ z2
            rw [e] at e1; cases e1
            exact e2
  cases hk : K.lookup a with
  | some o =>
    have e := KX a o hk
    rw [ha] at e
    cases e
    refine core (fun _ => none) (fun _ => .inl rfl) (.inr ⟨_, vs.toArray, _, hk, rfl, rfl, rfl, by rw [List.size_toArray, lenV]; exact hl, by simpa using rv⟩) (fun b u z => by have z' : (none : Option HO) = some u := z; cases z') (fun b z => absurd rfl z) fun z => absurd rfl z
  | none =>
    refine core (fun b => if b = a then some (.frz { cls := .type "list", data := .seq vs.toArray } (.lst (ns.map V.int))) else none) (fun b => ?_) (.inl (.inr ⟨{ cls := .type "list", data := .seq vs.toArray }, if_pos rfl⟩)) (fun b u z => ?_) (fun b z => ?_) fun _ => hk
    · by_cases hb : b = a
      · exact .inr ⟨_, _, if_pos hb⟩
      · exact .inl (if_neg hb)
    · by_cases hb : b = a
      · have z' := (if_pos hb).symm.trans z
        cases z'
        subst hb
        exact ⟨ha, by rw [List.length_map]; exact hl, vs, _, rv, ha⟩
      · have z' := (if_neg hb).symm.trans z
        cases z'
    · by_cases hb : b = a
      · exact hb
      · exact absurd (if_neg hb) z
end L2

namespace L2
open PySem PySem.Spec PyProof.Rows

abbrev KOf {K : PySem.W.Frag} {h : Heap} (_ : K.In h) : PySem.W.Frag := K

/-- the goal that k_head leaves (case hc), from the law's promise. F gives the function object fd (K's own) once, then the promise over every base -/
theorem walk_of {l : PySem.W.OpenLaw} {n k : Nat} {q : Program} {loose : List Str} {XP : (Str → Option Value) → Heap → Prop} {YP : World → Heap → Prop} {d : DefRec} {K : Params → PySem.W.Frag} {CX : World → CXT} {sp : World → Sp} {x : Str}
    (hn : l.most = some n) (hn2 : n ≤ sizeLine) (hdf : d.params.defaults = []) (hr : Room k callerA)
    (hY : ∀ (w : World) (h : Heap), YP w h → (K w.params).In h)
    (F : ∀ (w : World) (mg : Str → Option Value) (fa : Addr) (h : Heap), (K w.params).In h → h.Ns mainGlobals mg → mg d.name = some (.ref fa) →
      ∃ fd : FuncData, (∀ (s : Shared) (u : Value), BindsTo s fd ⟨[u], []⟩ [(x, u)]) ∧
        ∀ base : Heap, (K w.params).In base → base.Ns mainGlobals mg → FnOk l.prog w (K w.params) mg base (CX w) k fa fd [x] (sp w))
    (hsp : ∀ (w : World) (H : Hp) (a : Addr) (ns : List Int), ns.length ≤ n → Only H → SqL (K w.params) H a (ns.map V.int) → sp w [.ref a] H (fun v _ => v = .bl true) fun _ _ _ => False)
    (hCX : ∀ (w : World) (H : Hp) (s : Shared) (e : Value) (s' : Shared), CX w [] H s (fun _ _ _ => False) e s' → False) :
    PySem.W.WalkO q loose XP YP l.row.toRowW d [] (fun f vs => PySem.call f vs) := by
  refine Att.attach_call hn hdf fun w s₀ s₁ mg mb fa o pm cd doc a vs ns G Y ho hd hcd hmg hobj hints hlen hg => ?_
  have KX := hY w _ Y
  obtain ⟨fd, hb, hF⟩ := F w mg fa _ KX G.T.g hmg
  exact law_call KX G.T.g G.T.b G.T.builtins G.T.nolimit hg hobj hints (Nat.le_trans hlen hn2) hr hF hb (fun H hO hS => hsp w H a ns hlen hO hS) fun H e s' => hCX w H s₁ e s'
/-- the same where the promise hangs on the written part alone: (sp := My.sp_law), no hole under a binder -/
theorem walk_ofK {l : PySem.W.OpenLaw} {n k : Nat} {q : Program} {loose : List Str} {XP : (Str → Option Value) → Heap → Prop} {YP : World → Heap → Prop} {d : DefRec} {K : Params → PySem.W.Frag} {CX : CXT} {sp : PySem.W.Frag → Sp} {x : Str}
    (hn : l.most = some n) (hn2 : n ≤ sizeLine) (hdf : d.params.defaults = []) (hr : Room k callerA)
    (hY : ∀ (w : World) (h : Heap), YP w h → (K w.params).In h)
    (F : ∀ (w : World) (mg : Str → Option Value) (fa : Addr) (h : Heap), (K w.params).In h → h.Ns mainGlobals mg → mg d.name = some (.ref fa) →
      ∃ fd : FuncData, (∀ (s : Shared) (u : Value), BindsTo s fd ⟨[u], []⟩ [(x, u)]) ∧
        ∀ base : Heap, (K w.params).In base → base.Ns mainGlobals mg → FnOk l.prog w (K w.params) mg base CX k fa fd [x] (sp (K w.params)))
    (hsp : ∀ (K : PySem.W.Frag) (H : Hp) (a : Addr) (ns : List Int), ns.length ≤ n → Only H → SqL K H a (ns.map V.int) → sp K [.ref a] H (fun v _ => v = .bl true) fun _ _ _ => False)
    (hCX : ∀ (H : Hp) (s : Shared) (e : Value) (s' : Shared), CX [] H s (fun _ _ _ => False) e s' → False) :
    PySem.W.WalkO q loose XP YP l.row.toRowW d [] (fun f vs => PySem.call f vs) :=
  walk_of (K := K) (CX := fun _ => CX) (sp := fun w => sp (K w.params)) hn hn2 hdf hr hY F (fun w H a ns h1 h2 h3 => hsp (K w.params) H a ns h1 h2 h3) fun _ H s e s' => hCX H s e s'
end L2

/- THE LAST THEOREM (shape; LID, My.* are yours):
   My.Adr: a structure of the addresses that your layer names (classes, functions); My.Txt K t: a structure (Prop) of the equations over K;
   My.txt_mk : {K} {implicit addresses ..} (e1 : nsIn K mainGlobals "law" = some (some (.ref f))) (e2 : K.lookup f = some ⟨oc, od, .func (fnOf "law" "law" params body scope dV kV doc pm an cdv ct), sl⟩) (e3 : codeIn K cdv "law" = true) .. : ∃ t, My.Txt K t

set_option maxRecDepth 100000 in
set_option maxHeartbeats 0 in
theorem PySem.Challenge.cw_LID_holds : PySem.Challenge.rw_LID.Holds := by
  w_on; o_law; k_head; (case hw => w_witness2)
  k_fill
  refine L2.walk_of (l := PySem.Challenge.rw_LID) (n := 63) (k := 40) (x := "script") (CX := fun w => ..) (sp := fun _ => My.sp_law) rfl (by decide) rfl ⟨rfl, by decide, by decide⟩ (fun w h Y => PySem.W.kIn_of Y) ?F ?S ?C
  case F =>
    intro w mg fa h KX G hmg
    have T : ∃ t, My.Txt (L2.KOf KX) t := by
      dsimp only [L2.KOf]                          -- K must stand as «<heap const> w.params» for k_is
      refine' My.txt_mk ?e1 ?e2 ?e3 ..
      (case e1 => PySem.W.k_is)                    -- in the order: a name -> its address -> its object -> its parts
      (case e2 => PySem.W.k_is)
      ..
    obtain ⟨t, T⟩ := T
    have e0 := hmg.symm.trans (PySem.W.mg_of KX G T.law)
    cases e0                                       -- fa is the law's own address
    exact ⟨_, fun s u => .of_eq rfl, fun base kb nb => My.law_fn T kb nb⟩     -- if «.of_eq rfl» comes too early: refine' ⟨_, ?b, fun base kb nb => My.law_fn T kb nb⟩; exact fun s u => .of_eq rfl
  case S => exact fun w H a ns hl hO hS => ..
  case C => exact ..
(the tactic k_is has no namespace: write k_is) -/

/-! SHORT WORDS over the layer: a def of the text, its body, what a loop and a test want. -/
namespace L2
open PySem PySem.Spec PyProof.Rows

/-! ### the text by places -/
def defArgs (s : Stmt) : Arguments := match s with
  | .FunctionDef _ a _ _ _ _ _ _ _ _ => a
  | _ => { posonlyargs := [], args := [], vararg := none, kwonlyargs := [], kw_defaults := [], kwarg := none, defaults := [] }
def defBody (s : Stmt) : List Stmt := match s with
  | .FunctionDef _ _ b _ _ _ _ _ _ _ => b
  | _ => []
def defScope (s : Stmt) : Scope := match s with
  | .FunctionDef _ _ _ _ _ _ sc _ _ _ => sc
  | _ => { kind := .function, names := [], isGenerator := false, isCoroutine := false }

/-! ### no exception leaves a def -/
abbrev CX0 : CXT := fun _ _ _ _ _ _ => False
abbrev E0 : XK := fun _ _ _ => False
theorem pass0 {X : Cx} : Passes CX0 X E0 := fun _ _ _ _ _ _ _ h => h.elim

/-! ### a def (or method) of the text as it stands behind the top -/
structure Fun (K : PySem.W.Frag) (x qual : Str) (st : Stmt) (f : Addr) (fd : FuncData) : Prop where
  ex : ∃ (oc : Value) (od : Option Addr) (kV doc pm : Value) (an : Option Addr) (cdv ct : Value) (osl : Array (Option Value)),
    fd = PySem.W.fnOf x qual (defArgs st) (defBody st) (defScope st) .none kV doc pm an cdv ct ∧ K.lookup f = some ⟨oc, od, .func fd, osl⟩ ∧ PySem.W.codeIn K cdv qual = true
  kp : PySem.W.keepIn K (.ref f) = true
section
variable {P : Program} {w : World} {K : PySem.W.Frag} {mg : Str → Option Value} {base : Heap}
/-- THE RULE for a def: its body as a term of rules, and the reading of that term -/
theorem Fun.ok {x qual : Str} {st : Stmt} {f : Addr} {fd : FuncData} {N ps : List Str} {k : Nat} {sp : Sp} (F : Fun K x qual st f fd) (S : FnScope N ps (defScope st)) (len : ∀ vs H Q E, sp vs H Q E → vs.length = ps.length)
    (hbody : ∀ (cdv : Value) (A : Around) (outer : List Env) (s : Shared) (H : Hp) (vs : List V) (Q : VK) (E : XK), Room k (A.deeper (envOfC qual (defScope st) s.heap.objs.size f cdv)) → sp vs H Q E →
      ∃ t, PSs (cxOf CX0 P w K mg base N qual (defScope st) f cdv A outer s H E).nox (defBody st) t ∧ t { nx := fun _ H' => Q .non H', rt := Q } (start N vs) H) : FnOk P w K mg base CX0 (k + 1) f fd ps sp := by
  obtain ⟨oc, od, kV, doc, pm, an, cdv, ct, osl, rfl, lk, hcd⟩ := F.ex
  refine fn_of lk hcd S len fun A outer s H vs Q E hr hsp => ?_
  obtain ⟨t, h, q⟩ := hbody cdv A outer s H vs Q E hr hsp
  exact ⟨t, h.nox, q⟩
/-- how its arguments bind (no defaults): h is «fun _ _ _ _ _ _ us hl => match us, hl with | [_, _], _ => rfl», one _ a parameter -/
theorem Fun.binds {x qual : Str} {st : Stmt} {f : Addr} {fd : FuncData} {ps : List Str} (F : Fun K x qual st f fd)
    (h : ∀ (kV doc pm : Value) (an : Option Addr) (cdv ct : Value) (us : List Value), us.length = ps.length → bindArgs (PySem.W.fnOf x qual (defArgs st) (defBody st) (defScope st) .none kV doc pm an cdv ct) ⟨us, []⟩ = pure (ps.zip us)) : Binds K fd ps [] := by
  obtain ⟨oc, od, kV, doc, pm, an, cdv, ct, osl, rfl, lk, hcd⟩ := F.ex
  exact .all (h kV doc pm an cdv ct)
theorem fun_mk {x qual : Str} {st : Stmt} {f : Addr} {oc : Value} {od an : Option Addr} {osl : Array (Option Value)} {kV doc pm cdv ct : Value} (l : K.lookup f = some ⟨oc, od, .func (PySem.W.fnOf x qual (defArgs st) (defBody st) (defScope st) .none kV doc pm an cdv ct), osl⟩)
    (c : PySem.W.codeIn K cdv qual = true) (k : PySem.W.keepIn K (.ref f) = true) : Fun K x qual st f (PySem.W.fnOf x qual (defArgs st) (defBody st) (defScope st) .none kV doc pm an cdv ct) := ⟨⟨oc, od, kV, doc, pm, an, cdv, ct, osl, rfl, l, c⟩, k⟩
end
theorem small1000 {n : Nat} (h : n ≤ 1000) : n < sizeLine := Nat.lt_of_le_of_lt h (by decide)

/-! ### expressions in short: the name that stands in the i-th slot -/
section
variable {X : Cx}
theorem pv (i : Nat) {x : Str} {pos : Pos} (hN : X.N[i]? = some x := by rfl) (hv : Vis X.env.scope x := by first | exact Or.inl rfl | exact Or.inr (Or.inl rfl) | exact Or.inr (Or.inr rfl)) (hd : (x == ("__debug__" : Str)) = false := by decide)
    (hcd : (x == ("__classdict__" : Str)) = false := by decide) : PE X (.Name x pos) (tVar i) := pe_var hN hv hd hcd
end

/-! ### tests -/
theorem iteF {A B : Prop} (h : B) : if false = true then A else B := by
  rw [if_neg Bool.false_ne_true]
  exact h
theorem iteT {A B : Prop} (h : A) : if true = true then A else B := by
  rw [if_pos rfl]
  exact h
theorem ite2 {c A B : Prop} [Decidable c] (h1 : c → A) (h2 : ¬ c → B) : if c then A else B := by
  by_cases h : c
  · rw [if_pos h]
    exact h1 h
  · rw [if_neg h]
    exact h2 h

/-! ### heaps -/
/-- all that was tracked is as it was -/
def Same (H H' : Hp) : Prop := ∀ b o, H b = some o → H' b = some o
theorem Same.refl (H : Hp) : Same H H := fun _ _ h => h
theorem Same.trans {H H1 H2 : Hp} (a : Same H H1) (b : Same H1 H2) : Same H H2 := fun c o h => b c o (a c o h)
theorem Same.free {H H' : Hp} (e : Same H H') {l : Addr} (h : H' l = Option.none) : H l = Option.none := by
  cases q : H l with
  | none => rfl
  | some o =>
    rw [e l o q] at h
    cases h
theorem Same.seq {K : PySem.W.Frag} {H H' : Hp} {a : Addr} {xs : List V} (e : Same H H') (h : SqL K H a xs) : SqL K H' a xs := by
  rcases h with (h | ⟨o, h⟩) | h
  · exact .inl (.inl (e _ _ h))
  · exact .inl (.inr ⟨o, e _ _ h⟩)
  · exact .inr h

end L2

namespace L2
open PySem PySem.Spec PyProof.Rows

/-! ### a comprehension: its closure -/
def clOf (cells : List (Str × Addr)) : List (Str × NameKind) → List (Str × Addr) → List (Str × Addr)
  | [], acc => acc
  | (n, k) :: r, acc => clOf cells r (if k == .free then (match cells.lookup n with | some c => (n, c) :: acc | none => acc) else acc)
theorem clo_go {env : Env} : ∀ (ns : List (Str × NameKind)) (acc : List (Str × Addr)), (∀ x ∈ ns, x.2 = .free → ∃ c, env.cells.lookup x.1 = some c) →
    (forIn ns acc fun (x : Str × NameKind) (cs : List (Str × Addr)) => (if x.2 == NameKind.free then do let a ← cellOf env x.1; pure (ForInStep.yield ((x.1, a) :: cs)) else pure (ForInStep.yield cs) : Sem (ForInStep (List (Str × Addr))))) = pure (clOf env.cells ns acc)
  | [], acc, _ => by simp [clOf]
  | (n, k) :: r, acc, h => by
    rw [List.forIn_cons]
    have ih := fun a => clo_go (env := env) r a fun x hx => h x (List.mem_cons_of_mem _ hx)
    unfold clOf
    by_cases hk : (k == NameKind.free) = true
    · obtain ⟨c, hc⟩ := h (n, k) List.mem_cons_self (by simpa using hk)
      have hc' : env.cells.lookup n = some c := hc
      have hce : cellOf env n = pure c := by simp only [cellOf, hc']
      simp only [hk, if_true, hce, pure_bind, hc']
      exact ih _
    · simp only [hk, if_false, pure_bind, ih]
      simp
theorem closure_is {scope : Scope} {env : Env} (h : ∀ x ∈ scope.names, x.2 = .free → ∃ c, env.cells.lookup x.1 = some c) : closureFor scope env = pure (clOf env.cells scope.names []) := by
  have q := clo_go (env := env) scope.names [] h
  unfold closureFor
  rw [← q]
  first
    | rfl
    | simp
theorem clOf_has {cells : List (Str × Addr)} : ∀ (ns : List (Str × NameKind)) (acc : List (Str × Addr)) {x : Str} {c : Addr}, (∀ y d, acc.lookup y = some d → cells.lookup y = some d) → (clOf cells ns acc).lookup x = some c → cells.lookup x = some c
  | [], acc, x, c, ha, h => ha x c h
  | (n, k) :: r, acc, x, c, ha, h => by
    unfold clOf at h
    refine clOf_has r _ (fun y d hy => ?_) h
    split at hy
    · split at hy
      · rename_i c' hc'
        rw [List.lookup_cons] at hy
        split at hy
        · rename_i e
          have e' : y = n := by simpa using e
          subst e'
          rw [hc']; exact hy
        · exact ha y d hy
      · exact ha y d hy
    · exact ha y d hy
theorem clOf_keep {cells : List (Str × Addr)} : ∀ (ns : List (Str × NameKind)) (acc : List (Str × Addr)) {x : Str}, (∃ c, acc.lookup x = some c) → ∃ c, (clOf cells ns acc).lookup x = some c
  | [], acc, x, h => h
  | (n, k) :: r, acc, x, h => by
    unfold clOf
    refine clOf_keep r _ ?_
    split
    · split
      · rw [List.lookup_cons]
        split
        · exact ⟨_, rfl⟩
        · exact h
      · exact h
    · exact h
theorem clOf_get {cells : List (Str × Addr)} : ∀ (ns : List (Str × NameKind)) (acc : List (Str × Addr)) {x : Str}, (x, NameKind.free) ∈ ns → (∃ c, cells.lookup x = some c) → ∃ c, (clOf cells ns acc).lookup x = some c
  | [], acc, x, h, _ => nomatch h
  | (n, k) :: r, acc, x, h, hc => by
    unfold clOf
    rcases List.mem_cons.mp h with e | h
    · cases e
      obtain ⟨c, hc⟩ := hc
      refine clOf_keep r _ ?_
      simp [hc]
    · exact clOf_get r _ h hc
end L2

namespace L2
open PySem PySem.Spec PyProof.Rows

/-- an untracked object of ours is tracked from now on -/
theorem Inv.track {X : Cx} {pins : List (Addr × Obj)} {σ : St} {H : Hp} {s : Shared} {a : Addr} {o : HO} (I : Inv X pins σ H s) (hn : H a = none) (h0 : X.s₀.heap.objs.size ≤ a) (hL : a ≠ X.env.locals)
    (hc : ∀ x c, X.env.cells.lookup x = some c → c ≠ a) (hp : ∀ p ∈ X.pn ++ pins, p.1 ≠ a) (new : ObjOk X.prog X.w (upd H a o) s.heap a o) : Inv X pins σ (upd H a o) s := by
  have ne : ∀ b u, H b = some u → b ≠ a := fun b u e => ne_of_none e hn
  have q := I.step (g' := s.gens) (d' := s.drawn) (t' := s.toks) (h' := s.heap) (H' := upd H a o) (ch := [a]) (fun b hb => ?_) (fun b ob _ _ _ e _ => e) (fun b ob _ _ _ e _ => ⟨ob.slots, e⟩) (fun b ob hb _ n => ?_)
    (fun b ob _ e => ⟨ob, e⟩) (fun b xs e => by rw [upd_ne (ne b _ e)]; exact e) (fun b ob u e => by rw [upd_ne (ne b _ e)]; exact e) (fun b ps e => ⟨#[], by rw [upd_ne (ne b _ e), e]; simp⟩) (fun m hm => hm) (fun b u e => ?_) I.bare
  · exact q
  · have e : b = a := by simpa using hb
    subst e
    exact ⟨.inr h0, hL, hc, hp⟩
  · rw [upd_ne (fun z => hb (by simp [z]))]; exact n
  · by_cases hb : b = a
    · subst hb; rw [upd_same] at e; cases e; exact new
    · rw [upd_ne hb] at e
      exact (I.hok b u e).stay (fun c v _ q => q) (fun c q => by rw [upd_ne (ne_of_none q hn)]; exact q) fun c xs q => by rw [upd_ne (ne_of_none q hn)]; exact q

/-- the context of a comprehension's block -/
def cxComp (X : Cx) (N' : List Str) (scope : Scope) (C : Addr) (s : Shared) (H : Hp) (fp : List Addr) (xe : Value → Shared → Prop) : Cx :=
  { X with N := N', s₀ := s, H₀ := H, env := compEnvC scope (clOf X.env.cells scope.names []) C X.env, outer := X.stack, ex := fp, fn := fun _ => false, xe := xe }

/-- what is asked of the block's names: ix says where a captured name stands outside -/
structure BlkOk (X : Cx) (N' : List Str) (ix : List (Option Nat)) (scope : Scope) : Prop where
  kind : scope.kind = .function
  nocell : ∀ y ∈ scope.names, y.2 ≠ .cell
  locs : ∀ y ∈ scope.names, y.2 = .local → scope.names.lookup y.1 = some .local
  free : ∀ y ∈ scope.names, y.2 = .free → X.env.kindOf y.1 = some .cell ∨ X.env.kindOf y.1 = some .free
  len : ix.length = N'.length
  cap : ∀ (i j : Nat), ix[i]? = some (some j) → ∃ x, N'[i]? = some x ∧ X.N[j]? = some x ∧ scope.names.lookup x = some .free
def capt (ix : List (Option Nat)) (σ : St) : St := ix.map fun o => o.bind fun j => (σ[j]?).join

theorem relabel_free {env : Env} {x : Str} : ∀ {names : List (Str × NameKind)}, names.lookup x = some .free → (names.map fun (n, k) => if (k == NameKind.free && env.scope.kind == .function && env.kindOf n == some .cell) then (n, NameKind.cell) else (n, k)).lookup x = some .cell ∨ (names.map fun (n, k) => if (k == NameKind.free && env.scope.kind == .function && env.kindOf n == some .cell) then (n, NameKind.cell) else (n, k)).lookup x = some .free
  | [], h => by simp at h
  | (n, k) :: r, h => by
    have ih := @relabel_free env x r
    simp only [List.map_cons]
    cases hx : x == n with
    | true =>
      simp only [List.lookup_cons, hx] at h
      cases h
      by_cases hc : (NameKind.free == NameKind.free && env.scope.kind == .function && env.kindOf n == some .cell) = true
      · rw [if_pos hc]; left; simp [List.lookup_cons, hx]
      · rw [if_neg hc]; right; simp [List.lookup_cons, hx]
    | false =>
      simp only [List.lookup_cons, hx] at h
      by_cases hc : (k == NameKind.free && env.scope.kind == .function && env.kindOf n == some .cell) = true
      · rw [if_pos hc]; simp only [List.lookup_cons, hx]; exact ih h
      · rw [if_neg hc]; simp only [List.lookup_cons, hx]; exact ih h
theorem relabel_back {env : Env} {x : Str} : ∀ {names : List (Str × NameKind)}, (∀ y ∈ names, y.2 ≠ .cell) → ((names.map fun (n, k) => if (k == NameKind.free && env.scope.kind == .function && env.kindOf n == some .cell) then (n, NameKind.cell) else (n, k)).lookup x = some .cell ∨ (names.map fun (n, k) => if (k == NameKind.free && env.scope.kind == .function && env.kindOf n == some .cell) then (n, NameKind.cell) else (n, k)).lookup x = some .free) → (x, NameKind.free) ∈ names
  | [], _, h => by simp at h
  | (n, k) :: r, hn, h => by
    have ih := @relabel_back env x r fun y hy => hn y (List.mem_cons_of_mem _ hy)
    simp only [List.map_cons] at h
    cases hx : x == n with
    | true =>
      have e : x = n := by simpa using hx
      subst e
      have hk := hn (x, k) List.mem_cons_self
      by_cases hc : (k == NameKind.free && env.scope.kind == .function && env.kindOf x == some .cell) = true
      · have hf : k = .free := by
          simp only [Bool.and_eq_true, beq_iff_eq] at hc
          exact hc.1.1
        subst hf
        exact List.mem_cons_self
      · rw [if_neg hc] at h
        simp only [List.lookup_cons, hx] at h
        rcases h with h | h
        · exact absurd (Option.some.inj h) hk
        · have hf : k = .free := Option.some.inj h
          subst hf
          exact List.mem_cons_self
    | false =>
      refine List.mem_cons_of_mem _ (ih ?_)
      by_cases hc : (k == NameKind.free && env.scope.kind == .function && env.kindOf n == some .cell) = true
      · rw [if_pos hc] at h; simpa only [List.lookup_cons, hx] using h
      · rw [if_neg hc] at h; simpa only [List.lookup_cons, hx] using h

theorem capt_cell {X : Cx} {pins : List (Addr × Obj)} {σ : St} {H : Hp} {s : Shared} {N' : List Str} {ix : List (Option Nat)} {scope : Scope} {i : Nat} {x : Str} {v : V} (B : BlkOk X N' ix scope) (I : Inv X pins σ H s)
    (h1 : N'[i]? = some x) (h2 : (capt ix σ)[i]? = some (some v)) : ∃ u c, RelV v u ∧ (clOf X.env.cells scope.names []).lookup x = some c ∧ X.env.cells.lookup x = some c ∧ s.heap.IsCell c (some u) ∧
      ((relabel scope X.env).names.lookup x = some .cell ∨ (relabel scope X.env).names.lookup x = some .free) := by
  have clB : ∀ x c, (clOf X.env.cells scope.names []).lookup x = some c → X.env.cells.lookup x = some c := fun x c h => clOf_has scope.names [] (fun _ _ z => by simp at z) h
  obtain ⟨j, hj, hv⟩ : ∃ j, ix[i]? = some (some j) ∧ σ[j]? = some (some v) := by
    unfold capt at h2
    rw [List.getElem?_map] at h2
    cases e : ix[i]? with
    | none => rw [e] at h2; cases h2
    | some o =>
      rw [e] at h2
      cases o with
      | none => cases h2
      | some j =>
        refine ⟨j, rfl, ?_⟩
        have h2' : (σ[j]?).join = some v := Option.some.inj h2
        cases e2 : σ[j]? with
        | none => rw [e2] at h2'; cases h2'
        | some o2 => rw [e2] at h2'; have : o2 = some v := h2'; rw [this]
  obtain ⟨x', hx1, hx2, hx3⟩ := B.cap i j hj
  have exx : x' = x := by
    have h1' : N'[i]? = some x := h1
    rw [hx1] at h1'; exact Option.some.inj h1'
  subst exx
  have hmem := PySem.mem_of_lookup hx3
  have hout := B.free _ hmem rfl
  obtain ⟨m0, _, hl⟩ := I.loc
  obtain ⟨u, r, l⟩ := hl j x' v hx2 hv (by
    rcases hout with e | e
    · exact .inr (.inl e)
    · exact .inr (.inr e))
  rcases l with ⟨k, _⟩ | ⟨k, c, e, z⟩
  · rcases hout with e | e
    · rw [e] at k; cases k
    · rw [e] at k; cases k
  · obtain ⟨c', hc'⟩ := clOf_get scope.names [] hmem (I.ok.has x' hout)
    have := clB x' c' hc'
    rw [e] at this; cases this
    exact ⟨u, c, r, hc', e, z, relabel_free hx3⟩

theorem inv_block {X : Cx} {pins : List (Addr × Obj)} {σ : St} {H : Hp} {s s4 : Shared} {N' : List Str} {ix : List (Option Nat)} {scope : Scope} {C : Addr} {fp : List Addr} {xe : Value → Shared → Prop} {m : Str → Option Value}
    (B : BlkOk X N' ix scope) (I : Inv X pins σ H s) (hf : ∀ b ∈ fp, FpOk X pins H b) (hC : s.heap.objs.size ≤ C) (hfs : ∀ b ∈ fp, b < s.heap.objs.size)
    (ho : s4.os = s.os) (hg : s4.gens = s.gens) (hk : ∀ b o, s.heap.get? b = some o → s4.heap.get? b = some o) (hns : s4.heap.Ns C m) :
    Inv (cxComp X N' scope C s H fp xe) pins (capt ix σ) H s4 := by
  have clB : ∀ x c, (clOf X.env.cells scope.names []).lookup x = some c → X.env.cells.lookup x = some c := fun x c h => clOf_has scope.names [] (fun _ _ z => by simp at z) h
  have hfree : H C = none := I.hok.fresh hC
  have neC : ∀ b o, s.heap.get? b = some o → b ≠ C := fun b o e => Nat.ne_of_lt (Nat.lt_of_lt_of_le (Heap.lt_size e) hC)
  refine ⟨⟨I.ok.mod, B.kind, I.ok.glob, I.ok.blt, hC, fun x y c h1 h2 => I.ok.inj x y c (clB x c h1) (clB y c h2), fun x hx => ?_, fun x c h => absurd (show false = true from h) Bool.false_ne_true, I.ok.hd, I.ok.frames, .inl rfl, fun b hb => ⟨?_, fun x c e => ?_⟩, I.bs, ?_, fun b o e hb => ?_, fun b hb z => ?_, I.stack, I.stkFree⟩,
    ho, ?_, Un.kept hk, ⟨m, hns, fun i x v h1 h2 h3 => ?_⟩, fun x c e => ?_, hfree, fun x c e => I.freeC x c (clB x c e), fun p hp => ?_, I.hok.kept hk, ?_⟩
  · have hx' := relabel_back (env := X.env) (x := x) B.nocell hx
    exact clOf_get scope.names [] hx' (I.ok.has x (B.free _ hx' rfl))
  · exact Nat.ne_of_lt (Nat.lt_of_lt_of_le (hfs b hb) hC)
  · exact (hf b hb).2.2.2.2.1 x c (clB x c e)
  · exact Nat.le_trans I.ok.bsz I.sz
  · obtain ⟨_, _, _, q, _⟩ := hf b hb
    rcases q with q | q
    · exact I.ok.noex b o e q
    · exact absurd (Nat.lt_of_lt_of_le (Heap.lt_size (I.ok.bs b o e).1) q) (Nat.lt_irrefl _)
  · obtain ⟨_, q1, q2, _⟩ := hf b hb
    rcases List.mem_cons.mp (I.stkSub b z) with e | e
    · exact q1 e
    · exact q2 e
  · rw [hg]; exact I.bare
  · obtain ⟨u, c, r, hc1, _, ⟨oc, z1, z2⟩, hk'⟩ := capt_cell B I h1 h2
    exact ⟨u, r, .inr ⟨hk', c, hc1, oc, hk _ _ z1, z2⟩⟩
  · obtain ⟨v, oc, h1, h2⟩ := I.cell x c (clB x c e)
    exact ⟨v, oc, hk _ _ h1, h2⟩
  · obtain ⟨e, n, ne, nf, d⟩ := I.pin p hp
    refine ⟨hk _ _ e, n, neC _ _ e, fun z => ?_, d⟩
    rcases List.mem_cons.mp (I.stkSub p.1 z) with e' | e'
    · exact ne e'
    · exact nf e'
  · show (ix.map _).length = N'.length
    rw [List.length_map]; exact B.len
end L2

namespace L2
open PySem PySem.Spec PyProof.Rows

theorem compLoop_go {prog : Program} {w : World} {A : Around} {R : Result → Shared → Prop} {s : Shared} {elt target iter : Expr} {ifs : List Expr} {scope : Scope} {pos : Pos} {it acc : Value} {env : Env} (Iv : Nat → Shared → Prop)
    (turn : ∀ n s, Iv n s → wpAny (model prog w) A (pyNext it) (fun r s₁ => match r with
      | none => R (.ok .next) s₁
      | some v => wpAny (model prog w) A (letOwnedTupleGo target it v) (fun _ s₁' => wpAny (model prog w) A (assign target env v) (fun _ s₂ =>
          wpAny (model prog w) A (forIn ifs true fun c r => if r = true then do let ok ← isTrue c env (eval c env); pure (ForInStep.yield ok) else pure (ForInStep.yield r)) (fun ok s₃ =>
            if ok = true then wpAny (model prog w) A (eval elt env) (fun x s₄ =>
              wpAny (model prog w) A (call (.builtin "list.append") [acc, x]) (fun _ s₅ => ∃ m, m < n ∧ Iv m s₅) (notedBy (model prog w) A env fun e s' => R (.error e) s') s₄) (notedBy (model prog w) A env fun e s' => R (.error e) s') s₃
            else ∃ m, m < n ∧ Iv m s₃) (notedBy (model prog w) A env fun e s' => R (.error e) s') s₂) (notedBy (model prog w) A env fun e s' => R (.error e) s') s₁') (notedBy (model prog w) A env fun e s' => R (.error e) s') s₁) (notedBy (model prog w) A env fun e s' => R (.error e) s') s)
    (n : Nat) (h : Iv n s) :
    codeAny (model prog w) A (.compLoop (.ListComp elt [⟨target, iter, ifs, 0⟩] scope pos) 0 it acc env) R s := by
  refine codeAny_loop rfl Iv (fun n s hI => ?_) n h
  show wpAny _ A ((compTurn (.ListComp elt [⟨target, iter, ifs, 0⟩] scope pos) 0 it acc env).onRaise (fun x => do noteFrame x env; theTreesLotGoes x)) _ _ s
  refine wpAny_noted ?_
  rw [compTurn_list]
  refine wpAny_bind (wpAny_standAt (wpAny_bind (wpAny_mono (turn n s hI) (fun r s₁ h₁ => ?_) fun _ _ h' => h')))
  cases r with
  | none => exact wpAny_pure h₁
  | some v =>
    refine wpAny_bind (wpAny_mono h₁ (fun _ s₁' h₁' => ?_) fun _ _ h' => h')
    refine wpAny_bind (wpAny_mono h₁' (fun _ s₂ h₂ => wpAny_bind (wpAny_mono h₂ (fun ok s₃ h₃ => ?_) fun _ _ h' => h')) fun _ _ h' => h')
    cases ok with
    | false => exact wpAny_pure ⟨rfl, h₃⟩
    | true =>
      exact wpAny_bind (wpAny_bind (wpAny_mono h₃ (fun x s₄ h₄ => wpAny_bind (wpAny_mono h₄ (fun _ s₅ h₅ => wpAny_pure (wpAny_pure ⟨rfl, h₅⟩)) fun _ _ h' => h')) fun _ _ h' => h'))

/-- the tests of a comprehension's clause -/
def PTs (X : Cx) (ifs : List Expr) (t : TT) : Prop :=
  ∀ (pins : List (Addr × Obj)) (s : Shared) (σ : St) (H : Hp) (Q : Bool → Hp → Prop), Inv X pins σ H s → t σ H Q →
    wpAny (model X.prog X.w) X.A (forIn ifs true fun c r => if r = true then do let ok ← isTrue c X.env (eval c X.env); pure (ForInStep.yield ok) else pure (ForInStep.yield r)) (TP X pins σ Q) X.xe s
def tTrue : TT := fun _ H Q => Q true H
theorem pts_nil {X : Cx} : PTs X [] tTrue := fun _ _ _ H _ I h => wpAny_tests_nil ⟨H, I, h⟩
theorem pts_one {X : Cx} {c : Expr} {t : TT} (h : PT X c t) : PTs X [c] t := fun pins s σ H Q I hw => wpAny_tests_one (h pins s σ H Q I hw)

/-- the turns of a comprehension's block -/
def LcGoal (ix : List (Option Nat)) (g : TG) (tt : TT) (te : TE) (σ : St) (H1 : Hp) (Q : VK) (J : It) : Prop := ∃ W : Nat → Nat → List V → Hp → Prop, (∃ m, W 0 m [] H1) ∧ ∀ i m ys H, W i m ys H →
  (J.stop i H ∧ ys.length ≤ sizeLine ∧ ∀ p, H p = none → Q (.ref p) (upd H p (.lst ys))) ∨
  (J.go i H ∧ ys.length ≤ sizeLine ∧ ∃ N : List V → Hp → Prop, (∀ ys' H', N ys' H' → ∃ m', m' < m ∧ W (i + 1) m' ys' H') ∧ ∀ x H', J.yld i H x H' → g x (capt ix σ) H' fun σ2 H2 => tt σ2 H2 fun b H3 => if b = true then te σ2 H3 fun v H4 => N (ys ++ [v]) H4 else N ys H3)
def tLC (ix : List (Option Nat)) (wi : TI) (g : TG) (tt : TT) (te : TE) : TE := fun σ H Q => wi σ H fun J H1 => LcGoal ix g tt te σ H1 Q J

section
variable {X : Cx} {elt tg iter : Expr} {ifs : List Expr} {scope : Scope} {pos : Pos} {N' : List Str} {ix : List (Option Nat)} {wi : TI} {g : TG} {tt : TT} {te : TE}

/-- the loop's end, by what is wanted -/
theorem lc_run (B : BlkOk X N' ix scope) (hc : X.calm = true)
    (hg : ∀ C s H fp xe, PG (cxComp X N' scope C s H fp xe) tg g) (ht : ∀ C s H fp xe, PTs (cxComp X N' scope C s H fp xe) ifs tt) (he : ∀ C s H fp xe, PE (cxComp X N' scope C s H fp xe) elt te)
    {pins : List (Addr × Obj)} {s2 : Shared} {σ : St} {H2 : Hp} {Q : VK} {it : Addr} {fp : List Addr} {tn : Nat → Heap → Prop} {J : It} {RR : Value → Addr → Result → Shared → Prop} {E : Value → Shared → Prop}
    (I2 : Inv X pins σ H2 s2) (T : Turn X.prog X.w X.K tg J fp it tn) (st2 : tn 0 s2.heap) (f2 : ∀ b ∈ fp, FpOk X pins H2 b)
    (q : ∃ W : Nat → Nat → List V → Hp → Prop, (∃ m, W 0 m [] H2) ∧ ∀ i m ys H, W i m ys H →
      (J.stop i H ∧ ys.length ≤ sizeLine ∧ ∀ p, H p = none → Q (.ref p) (upd H p (.lst ys))) ∨
      (J.go i H ∧ ys.length ≤ sizeLine ∧ ∃ N : List V → Hp → Prop, (∀ ys' H', N ys' H' → ∃ m', m' < m ∧ W (i + 1) m' ys' H') ∧ ∀ x H', J.yld i H x H' → g x (capt ix σ) H' fun σ2 H2 => tt σ2 H2 fun b H3 => if b = true then te σ2 H3 fun v H4 => N (ys ++ [v]) H4 else N ys H3))
    (hRR : ∀ D C s' H' ys, Inv X pins σ (upd H' D (.lst ys)) s' → H' D = none → Q (.ref D) (upd H' D (.lst ys)) → (∃ m, s'.heap.Ns C m) → upd H' D (.lst ys) C = none → C ≠ X.env.locals → X.s₀.heap.objs.size ≤ C → (∀ x c, X.env.cells.lookup x = some c → c ≠ C) → (∀ p ∈ X.pn ++ pins, p.1 ≠ C) → RR (.ref D) C (.ok .next) s') :
    wpAny (model X.prog X.w) X.A (newList []) (fun acc s₃ => wpAny (model X.prog X.w) X.A (newFunctionEnv scope X.env.globals (clOf X.env.cells scope.names []) [] X.env.qual none .none (some X.env)) (fun cenv s₄ =>
      codeAny (model X.prog X.w) X.A (.compStart (.ListComp elt [⟨tg, iter, ifs, 0⟩] scope pos) 0 (.ref it) acc { cenv with scope := relabel scope X.env }) (RR acc cenv.locals) s₄) E s₃) E s2 := by
  have hfs : ∀ b ∈ fp, b < s2.heap.objs.size := fun b hb => by
    obtain ⟨o, e, _⟩ := T.obj _ _ st2 b hb
    exact Heap.lt_size e
  refine wpAny_newObj_type (wpAny_newFunctionEnv B.nocell (by intro y hy; simp at hy) (fun h₁ hns₁ hsb₁ => ?_) B.kind)
  dsimp only at hns₁ hsb₁ ⊢
  generalize hH3 : s2.heap.push { cls := .type "list", dict := none, data := .seq ([] : List Value).toArray } = H3 at hns₁ hsb₁ ⊢
  have hC : H3.objs.size = s2.heap.objs.size + 1 := by rw [← hH3, Heap.size_push]
  have hDC : s2.heap.objs.size ≠ H3.objs.size := by rw [hC]; exact Nat.ne_of_lt (Nat.lt_succ_self _)
  have below : ∀ b, b < s2.heap.objs.size → b ≠ H3.objs.size ∧ b ≠ s2.heap.objs.size := fun b hb => ⟨by rw [hC]; exact Nat.ne_of_lt (Nat.lt_succ_of_lt hb), Nat.ne_of_lt hb⟩
  have old : ∀ b o, s2.heap.get? b = some o → h₁.get? b = some o := fun b o e => hsb₁.extBut b o (below b (Heap.lt_size e)).1 (Heap.get?_push_of_some _ (hH3 ▸ Heap.get?_push_of_some _ e))
  have hacc : h₁.get? s2.heap.objs.size = some { cls := .type "list", data := .seq ([] : List Value).toArray 0 } := hsb₁.extBut _ _ hDC (Heap.get?_push_of_some _ (hH3 ▸ Heap.get?_push_size _ rfl))
  have hCle : s2.heap.objs.size ≤ H3.objs.size := by rw [hC]; exact Nat.le_succ _
  generalize hD : s2.heap.objs.size = D at *
  generalize hCC : H3.objs.size = C at *
  obtain ⟨W, ⟨m0, w0⟩, turn⟩ := q
  let xe : Value → Shared → Prop := notedBy (model X.prog X.w) X.A (compEnvC scope (clOf X.env.cells scope.names []) C X.env) fun e s' => RR (.ref D) C (.error e) s'
  let X' : Cx := cxComp X N' scope C s2 H2 fp xe
  have DL : D ∉ frs X.stack := fun z => by
    rcases List.mem_cons.mp (I2.stkSub D z) with e | e
    · exact absurd I2.lt (by rw [← e, hD]; exact Nat.lt_irrefl _)
    · exact I2.nofs (by rw [hD]; exact Nat.le_refl _) e
  have cellLt : ∀ x c, X.env.cells.lookup x = some c → c < D := fun x c e => by
    obtain ⟨v, oc, h, _⟩ := I2.cell x c e
    rw [← hD]; exact Heap.lt_size h
  have clB : ∀ x c, (clOf X.env.cells scope.names []).lookup x = some c → X.env.cells.lookup x = some c := fun x c h => clOf_has scope.names [] (fun _ _ z => by simp at z) h
  have pinLt : ∀ p ∈ X.pn ++ pins, p.1 < D := fun p hp => by rw [← hD]; exact Heap.lt_size (I2.pin p hp).1
  have fpX : ∀ {pl : List (Addr × Obj)} {H' : Hp}, (∀ b ∈ fp, H' b = none) → (∀ p ∈ pl, p ∈ pins ∨ p.1 = D) → ∀ b ∈ fp, FpOk X' pl H' b := fun {pl H'} hn hpl b hb => by
    obtain ⟨_, q1, q2, q3, q4, q5⟩ := f2 b hb
    refine ⟨hn b hb, (below b (hfs b hb)).1, fun z => ?_, .inl hb, fun x c e => q4 x c (clB x c e), fun p hp => ?_⟩
    · rcases List.mem_cons.mp (I2.stkSub b z) with e | e
      · exact q1 e
      · exact q2 e
    · rcases List.mem_append.mp hp with hp | hp
      · exact q5 p (List.mem_append_left _ hp)
      · rcases hpl p hp with z | z
        · exact q5 p (List.mem_append_right _ z)
        · rw [z]; exact Ne.symm (below b (hfs b hb)).2
  have loop : ∀ s₃ : Shared, s₃ = { s2 with heap := h₁, toks := s2.toks + ([] : List (Str × Value)).length } →
      codeAny (model X.prog X.w) X.A (.compLoop (.ListComp elt [⟨tg, iter, ifs, 0⟩] scope pos) 0 (.ref it) (.ref D) (compEnvC scope (clOf X.env.cells scope.names []) C X.env)) (RR (.ref D) C) s₃ := by
    rintro s₃ rfl
    refine compLoop_go (fun n s' => ∃ i H' ys its k, Inv X' pins (capt ix σ) H' s' ∧ tn i s'.heap ∧ (∀ b ∈ fp, H' b = none) ∧ H' D = none ∧ s'.heap.get? D = some { cls := .type "list", data := .seq (List.toArray its) k } ∧ Vals ys its ∧ W i n ys H') ?_ m0
      ⟨0, H2, [], [], 0, inv_block B I2 f2 (by rw [hD]; exact hCle) (fun b hb => by rw [hD]; exact hfs b hb) rfl rfl old hns₁, T.keep _ _ _ st2 fun b _ o e => old b o e, fun b hb => (f2 b hb).1, I2.hok.fresh (by rw [hD]; exact Nat.le_refl _), hacc, .nil, w0⟩
    rintro n s' ⟨i, H', ys, its, k, I', st', fr', hDn, hDo, rv, w'⟩
    have hDX : ∀ v, ({ cls := .type "list", data := .seq (List.toArray its) k } : Obj).data ≠ .cell v := fun v z => by
      have z' : Data.seq (List.toArray its) k = Data.cell v := z
      cases z'
    have pinD : ∀ {σ' : St} {H'' : Hp} {s'' : Shared} {its' : List Value} {k' : Nat}, Inv X' pins σ' H'' s'' → H'' D = none → s''.heap.get? D = some { cls := .type "list", data := .seq (List.toArray its') k' } → Inv X' (pins ++ [(D, { cls := .type "list", data := .seq (List.toArray its') k' })]) σ' H'' s'' := fun {σ' H'' s'' its' k'} J hn ho =>
      J.pins_of fun p hp => (List.mem_append.mp hp).elim (fun z => J.pin p (List.mem_append_right _ z)) fun z => by
        have e : p = (D, { cls := .type "list", data := .seq (List.toArray its') k' }) := by simpa using z
        subst e
        exact ⟨ho, hn, hDC, DL, fun v z => by
          have z' : Data.seq (List.toArray its') k' = Data.cell v := z
          cases z'⟩
    have plD : ∀ {its' : List Value} {k' : Nat}, ∀ p ∈ pins ++ [(D, ({ cls := .type "list", data := .seq (List.toArray its') k' } : Obj))], p ∈ pins ∨ p.1 = D := fun {its' k'} p hp => (List.mem_append.mp hp).elim .inl fun z => by
      have e : p = (D, { cls := .type "list", data := .seq (List.toArray its') k' }) := by simpa using z
      subst e
      exact .inr rfl
    have unD : ∀ {pl : List (Addr × Obj)} {σ' : St} {H'' : Hp} {s'' : Shared}, Inv X' (pins ++ pl) σ' H'' s'' → Inv X' pins σ' H'' s'' := fun J => J.pins_of fun p hp => J.pin p (List.mem_append_right _ (List.mem_append_left _ hp))
    have I'p := pinD I' hDn hDo
    rcases turn i n ys H' w' with ⟨stop, hsz, fin⟩ | ⟨go, hsz, N, hN, step⟩
    · refine wpAny_mono (T.done X' rfl rfl rfl hc i _ s' (capt ix σ) H' X'.xe I'p (fpX fr' plD) st' stop) (fun r s5 ⟨hr, I5⟩ => ?_) fun _ _ z => z
      subst hr
      have hDo5 : s5.heap.get? D = some { cls := .type "list", data := .seq (List.toArray its) k } := (I5.pin (D, _) (List.mem_append_right _ (List.mem_append_right _ (List.mem_singleton.mpr rfl)))).1
      have sz0 : X.s₀.heap.objs.size ≤ D := by rw [← hD]; exact I2.sz
      have J : Inv X pins σ H' s5 := I2.call' (ch := fp) I5.os I5.base I5.hok I5.bare fun b hb => by
        obtain ⟨_, q1, _, q3, q4, q5⟩ := f2 b hb
        exact ⟨q3, q1, q4, q5⟩
      have nL : X.env.locals < D := by rw [← hD]; exact I2.lt
      have J2 : Inv X pins σ (upd H' D (.lst ys)) s5 := Inv.track J hDn sz0 (Nat.ne_of_gt nL) (fun x c e => Nat.ne_of_lt (cellLt x c e)) (fun p hp => Nat.ne_of_lt (pinLt p hp)) ⟨hsz, its, k, rv, hDo5⟩
      obtain ⟨mC, hnC, _⟩ := I5.loc
      have DltC : D < C := Nat.lt_of_le_of_ne hCle hDC
      refine hRR D C s5 H' ys J2 hDn (fin D hDn) ⟨mC, hnC⟩ ?_ (Nat.ne_of_gt (Nat.lt_trans nL DltC)) (Nat.le_trans sz0 hCle) (fun x c e => Nat.ne_of_lt (Nat.lt_trans (cellLt x c e) DltC)) fun p hp => Nat.ne_of_lt (Nat.lt_trans (pinLt p hp) DltC)
      rw [upd_ne (Ne.symm hDC)]
      exact I5.free
    · refine wpAny_mono (T.item X' rfl rfl rfl hc i _ s' (capt ix σ) H' X'.xe I'p (fpX fr' plD) st' go) (fun r s5 ⟨u, hr, h5⟩ => ?_) fun _ _ z => z
      subst hr
      refine wpAny_mono h5 (fun _ s6 ⟨x, H6, I6, r6, y6, st6, fr6⟩ => ?_) fun _ _ z => z
      have I6' := I6.pinned (fpX fr6 plD) (T.obj _ _ st6)
      refine wpAny_mono (hg C s2 H2 fp xe _ s6 (capt ix σ) H6 x u _ I6' r6 (step x H6 y6)) (fun _ s7 ⟨σ7, H7, I7, q7⟩ => ?_) fun _ _ z => z
      have after : ∀ {σ8 : St} {H8 : Hp} {s8 : Shared}, Inv X' ((pins ++ [(D, { cls := .type "list", data := .seq (List.toArray its) k })]) ++ pinsAt fp s6.heap) σ8 H8 s8 →
          Inv X' pins (capt ix σ) H8 s8 ∧ tn (i + 1) s8.heap ∧ (∀ b ∈ fp, H8 b = none) ∧ H8 D = none ∧ s8.heap.get? D = some { cls := .type "list", data := .seq (List.toArray its) k } := fun {σ8 H8 s8} I8 => by
        have pD := I8.pin (D, { cls := .type "list", data := .seq (List.toArray its) k }) (List.mem_append_right _ (List.mem_append_left _ (List.mem_append_right _ (List.mem_singleton.mpr rfl))))
        have fpP : ∀ b ∈ fp, ∀ o, s6.heap.get? b = some o → s8.heap.get? b = some o ∧ H8 b = none := fun b hb o e => by
          have z := I8.pin (b, o) (List.mem_append_right _ (List.mem_append_right _ (mem_pinsAt hb e)))
          exact ⟨z.1, z.2.1⟩
        refine ⟨⟨I8.ok, I8.os, I8.bare, I8.base, ?_, I8.cell, I8.free, I8.freeC, fun p hp => ?_, I8.hok, ?_⟩, T.keep _ _ _ st6 fun b hb o e => (fpP b hb o e).1, fun b hb => ?_, pD.2.1, pD.1⟩
        · obtain ⟨m8, hn8, _⟩ := I8.loc
          refine ⟨m8, hn8, fun i x v h1 h2 h3 => ?_⟩
          obtain ⟨u, c, r, hc1, hc2, ⟨oc, z1, z2⟩, hk'⟩ := capt_cell B I2 h1 h2
          obtain ⟨sl, e8⟩ := I8.base.any z1 (I2.freeC x c hc2) fun z => (f2 c z).2.2.2.2.1 x c hc2 rfl
          exact ⟨u, r, .inr ⟨hk', c, hc1, _, e8, z2⟩⟩
        · rcases List.mem_append.mp hp with hp | hp
          · exact I8.pin p (List.mem_append_left _ hp)
          · exact I8.pin p (List.mem_append_right _ (List.mem_append_left _ (List.mem_append_left _ hp)))
        · show (capt ix σ).length = N'.length
          unfold capt
          rw [List.length_map]; exact B.len
        · obtain ⟨o, e, _⟩ := T.obj _ _ st6 b hb
          exact (fpP b hb o e).2
      refine wpAny_mono (ht C s2 H2 fp xe _ s7 σ7 H7 _ I7 q7) (fun b s8 ⟨H8, I8, q8⟩ => ?_) fun _ _ z => z
      cases b with
      | false =>
        rw [if_neg Bool.false_ne_true] at q8 ⊢
        obtain ⟨m', hm, w8⟩ := hN _ _ q8
        obtain ⟨J, tn8, f8, d8, o8⟩ := after I8
        exact ⟨m', hm, i + 1, H8, ys, its, k, J, tn8, f8, d8, o8, rv, w8⟩
      | true =>
        rw [if_pos rfl] at q8 ⊢
        refine wpAny_mono (he C s2 H2 fp xe _ s8 σ7 H8 _ I8 q8) (fun v s9 ⟨y, H9, I9, r9, q9⟩ => ?_) fun _ _ z => z
        obtain ⟨J, tn9, f9, d9, o9⟩ := after I9
        obtain ⟨m', hm, w9⟩ := hN _ _ q9
        refine append_at (hsz := by rw [List.size_toArray, ← rv.length]; exact hsz) o9 fun h10 hs10 hD10 => ?_
        refine ⟨m', hm, i + 1, H9, ys ++ [y], its ++ [v], k + 1, ?_, T.keep _ _ _ tn9 fun b hb o e => hs10.extBut b o (fun z => ?_) e, f9, d9, by rw [List.push_toArray] at hD10; exact hD10, rv.append (.cons r9 .nil), w9⟩
        · refine J.turned (t' := s9.toks) (it := D) (fun b o hb e => hs10.extBut b o hb e) d9 hDC (.inr (by show s2.heap.objs.size ≤ D; rw [hD]; exact Nat.le_refl _)) (fun x c e => Nat.ne_of_lt (cellLt x c (clB x c e))) fun p hp => Nat.ne_of_lt (pinLt p hp)
        · exact (below b (hfs b hb)).2 z
  exact codeAny_compStart_list (loop _ rfl) (T.self X.A 0 _ _ _ (T.keep _ _ _ st2 fun b _ o e => old b o e) (loop _ rfl))
end
end L2

namespace L2
open PySem PySem.Spec PyProof.Rows

/-- the block's names, checked -/
def blkCheck (outer : Scope) (N N' : List Str) (ix : List (Option Nat)) (scope : Scope) : Bool :=
  (scope.kind == .function) && (scope.names.all fun y => y.2 != .cell) && (scope.names.all fun y => y.2 != .local || scope.names.lookup y.1 == some .local) &&
  (scope.names.all fun y => y.2 != .free || outer.names.lookup y.1 == some .cell || outer.names.lookup y.1 == some .free) && (ix.length == N'.length) &&
  (List.range ix.length).all fun i => match ix[i]? with
    | some (some j) => (match N'[i]? with | some x => N[j]? == some x && scope.names.lookup x == some .free | none => false)
    | _ => true
theorem blk_of {X : Cx} {N' : List Str} {ix : List (Option Nat)} {scope : Scope} (h : blkCheck X.env.scope X.N N' ix scope = true) : BlkOk X N' ix scope := by
  unfold blkCheck at h
  simp only [Bool.and_eq_true] at h
  obtain ⟨⟨⟨⟨⟨h1, h2⟩, h3⟩, h4⟩, h5⟩, h6⟩ := h
  refine ⟨?_, fun y hy => ?_, fun y hy hl => ?_, fun y hy hl => ?_, by simpa using h5, fun i j e => ?_⟩
  · simpa using h1
  · have := List.all_eq_true.mp h2 y hy
    simpa using this
  · have := List.all_eq_true.mp h3 y hy
    rw [hl] at this
    simpa using this
  · have := List.all_eq_true.mp h4 y hy
    rw [hl] at this
    simp at this
    exact this
  · have hi : i < ix.length := (List.getElem?_eq_some_iff.mp e).1
    have := List.all_eq_true.mp h6 i (List.mem_range.mpr hi)
    rw [e] at this
    simp only at this
    cases q : N'[i]? with
    | none => rw [q] at this; simp at this
    | some x =>
      rw [q] at this
      simp at this
      exact ⟨x, rfl, this.1, this.2⟩

section
variable {X : Cx} {elt tg iter : Expr} {ifs : List Expr} {scope : Scope} {pos : Pos} {N' : List Str} {ix : List (Option Nat)} {wi : TI} {g : TG} {tt : TT} {te : TE}
theorem pe_lc (N' : List Str) (ix : List (Option Nat)) (hB : blkCheck X.env.scope X.N N' ix scope = true) (hc : X.calm = true) (hi : PI X tg iter wi)
    (hg : ∀ C s H fp xe, PG (cxComp X N' scope C s H fp xe) tg g) (ht : ∀ C s H fp xe, PTs (cxComp X N' scope C s H fp xe) ifs tt) (he : ∀ C s H fp xe, PE (cxComp X N' scope C s H fp xe) elt te)
    (hs : ∀ x, foldedSetIterable iter X.env x = pure x := by intro _; rfl) : PE X (.ListComp elt [⟨tg, iter, ifs, 0⟩] scope pos) (tLC ix wi g tt te) := by
  intro pins s σ H Q I h
  have B := blk_of hB
  rw [eval_ListComp]
  refine wpAny_comprehension_free (use := none) rfl hs (closure_is fun y hy hf => I.ok.has y.1 (B.free y hy hf)) B.kind B.locs (thn (hi pins s σ H _ I h) fun v s1 h1 => thn h1 fun itv s2 h2 => ?_)
  obtain ⟨it, fp, tn, J, H2, e, I2, T, st2, f2, q⟩ := h2
  subst e
  refine lc_run B hc hg ht he I2 T st2 f2 q ?_
  intro D C s' H' ys J2 hDn hq ⟨m, hn⟩ hC1 hC2 hC3 hC4 hC5
  refine ⟨m, hn, fun h' hs' => ?_⟩
  exact ⟨.ref D, _, J2.turned (t' := s'.toks) (it := C) (fun b o hb e => hs'.extBut b o hb e) hC1 hC2 (.inr hC3) hC4 hC5, rfl, hq⟩
/-- name = [..]: the stores are exchanged -/
theorem ps_setLC {i : Nat} {x : Str} {pos' spos : Pos} (N' : List Str) (ix : List (Option Nat)) (hN : X.N.Nodup) (hi' : X.N[i]? = some x) (hx : X.env.scope.names.lookup x = some .local)
    (hB : blkCheck X.env.scope X.N N' ix scope = true) (hc : X.calm = true) (hi : PI X tg iter wi)
    (hg : ∀ C s H fp xe, PG (cxComp X N' scope C s H fp xe) tg g) (ht : ∀ C s H fp xe, PTs (cxComp X N' scope C s H fp xe) ifs tt) (he : ∀ C s H fp xe, PE (cxComp X N' scope C s H fp xe) elt te)
    (hsw : swapsWith (.ListComp elt [⟨tg, iter, ifs, 0⟩] scope pos) (some (.Name x pos')) spos.line X.env = pure true)
    (hs : ∀ x, foldedSetIterable iter X.env x = pure x := by intro _; rfl) : PS X (.Assign [.Name x pos'] (.ListComp elt [⟨tg, iter, ifs, 0⟩] scope pos) spos) (tAsg (tLC ix wi g tt te) (gName i)) := by
  intro pins s σ H D0 I h
  have B := blk_of hB
  rw [exec_Assign_Name_used _ _ _ _ hsw]
  refine wpAny_bind (wpAny_standAt (wpAny_bind ?_))
  show wpAny _ X.A (do let _ ← comprehension (.ListComp elt [⟨tg, iter, ifs, 0⟩] scope pos) scope X.env _ (newList []) false (eval iter X.env) (some (assign (.Name x pos') X.env))) _ _ s
  refine wpAny_bind (wpAny_mono (wpAny_comprehension_free (use := some (assign (.Name x pos') X.env)) (Q := fun _ s' => SP X pins D0 .next s') rfl hs (closure_is fun y hy hf => I.ok.has y.1 (B.free y hy hf)) B.kind B.locs
    (thn (hi pins s σ H _ I h) fun v s1 h1 => thn h1 fun itv s2 h2 => ?_)) (fun _ s' hq => wpAny_pure (wpAny_pure hq)) fun _ _ e => e)
  obtain ⟨it, fp, tn, J, H2, e, I2, T, st2, f2, q⟩ := h2
  subst e
  refine lc_run (Q := fun x H1 => gName i x σ H1 D0.nx) B hc hg ht he I2 T st2 f2 q ?_
  intro D C s' H' ys J2 hDn hq ⟨m, hn⟩ hC1 hC2 hC3 hC4 hC5
  show wpAny _ X.A (assign (.Name x pos') X.env (.ref D)) _ _ _
  refine wpAny_assign_Name (store_ok2 (v := .ref D) J2 hN hi' (.inl hx) rfl (fun s'' I'' hsb => ?_) (.inr hx))
  obtain ⟨a, hsb, ha⟩ := hsb
  have aC : C ≠ a := by
    rcases ha with rfl | ha
    · exact hC2
    · exact fun z => hC4 x a ha z.symm
  refine ⟨m, hn.sameBut hsb aC, fun h'' hs'' => ?_⟩
  exact ⟨_, _, I''.turned (t' := s''.toks) (it := C) (fun b o hb e => hs''.extBut b o hb e) hC1 hC2 (.inr hC3) hC4 hC5, hq⟩
end

/-! ### the forms one uses: over a list that the block leaves as it is; over a range -/
section
variable {K : PySem.W.Frag} {a : Addr} {xs : List V} {ix : List (Option Nat)} {g : TG} {tt : TT} {te : TE} {σ : St} {H1 : Hp} {Q : VK}
theorem lc_list (Pv : Nat → List V → Hp → Prop) (h0 : Pv 0 [] H1) (hl : ∀ i ys H, i ≤ xs.length → Pv i ys H → SqL K H a xs ∧ ys.length ≤ sizeLine)
    (hs : ∀ i x ys H, xs[i]? = some x → Pv i ys H → g x (capt ix σ) H fun σ2 H2 => tt σ2 H2 fun b H3 => if b = true then te σ2 H3 fun v H4 => Pv (i + 1) (ys ++ [v]) H4 else Pv (i + 1) ys H3)
    (hd : ∀ ys H, Pv xs.length ys H → ∀ p, H p = none → Q (.ref p) (upd H p (.lst ys))) : LcGoal ix g tt te σ H1 Q (Itl K a) := by
  refine ⟨fun i m ys H => m = xs.length - i ∧ i ≤ xs.length ∧ Pv i ys H, ⟨xs.length, by simp, Nat.zero_le _, h0⟩, ?_⟩
  rintro i m ys H ⟨rfl, hi, p⟩
  obtain ⟨q, z⟩ := hl i ys H hi p
  by_cases hlt : i < xs.length
  · refine .inr ⟨⟨xs, xs[i], q, by simp [hlt]⟩, z, Pv (i + 1), fun ys' H' p' => ⟨xs.length - (i + 1), by omega, rfl, hlt, p'⟩, fun x H' y => ?_⟩
    obtain ⟨e, y⟩ := y
    subst e
    exact hs i x ys _ (y xs q) p
  · have e : i = xs.length := by omega
    subst e
    exact .inl ⟨⟨xs, q, Nat.le_refl _⟩, z, hd ys H p⟩
end
/-- by a function of the item: nothing that was tracked is changed -/
theorem lc_fm {K : PySem.W.Frag} {a : Addr} {xs : List V} {ix : List (Option Nat)} {g : TG} {tt : TT} {te : TE} {σ : St} {H1 : Hp} {Q : VK} (f : V → Option V) (hx : SqL K H1 a xs) (hz : xs.length ≤ sizeLine)
    (hs : ∀ x H (N : Option V → Hp → Prop), x ∈ xs → Same H1 H → (∀ H', Same H1 H' → N (f x) H') → g x (capt ix σ) H fun σ2 H2 => tt σ2 H2 fun b H3 => if b = true then te σ2 H3 fun v H4 => N (some v) H4 else N none H3)
    (hd : ∀ H p, Same H1 H → H p = none → Q (.ref p) (upd H p (.lst (xs.filterMap f)))) : LcGoal ix g tt te σ H1 Q (Itl K a) := by
  refine lc_list (K := K) (a := a) (xs := xs) (fun i ys H => ys = (xs.take i).filterMap f ∧ Same H1 H) ⟨rfl, Same.refl _⟩ (fun i ys H hi ⟨e, s⟩ => ⟨s.seq hx, ?_⟩) (fun i x ys H hi ⟨e, s⟩ => ?_) fun ys H ⟨e, s⟩ p hp => ?_
  · subst e
    refine Nat.le_trans (List.length_filterMap_le _ _) (Nat.le_trans ?_ hz)
    rw [List.length_take]; exact Nat.min_le_right _ _
  · have hm : x ∈ xs := List.mem_of_getElem? hi
    obtain ⟨hil, hix⟩ := List.getElem?_eq_some_iff.mp hi
    have et : xs.take (i + 1) = xs.take i ++ [x] := by rw [List.take_succ_eq_append_getElem hil, hix]
    refine hs x H (fun o H' => match o with | some v => (ys ++ [v] = (xs.take (i + 1)).filterMap f ∧ Same H1 H') | none => (ys = (xs.take (i + 1)).filterMap f ∧ Same H1 H')) hm s fun H' s' => ?_
    cases ef : f x with
    | some v =>
      refine ⟨?_, s'⟩
      rw [e, et, List.filterMap_append]
      simp [ef]
    | none =>
      refine ⟨?_, s'⟩
      rw [e, et, List.filterMap_append]
      simp [ef]
  · subst e
    rw [List.take_length]
    exact hd H p s hp
end L2

namespace L2
open PySem PySem.Spec PyProof.Rows

/-! ### data, by the abstract heap -/
mutual
inductive IsD (K : PySem.W.Frag) (H : Hp) : V → PyData → Prop
  | non : IsD K H .non .none
  | bl (b : Bool) : IsD K H (.bl b) (.bool b)
  | int (i : Int) : IsD K H (.int i) (.int i)
  | str (x : Str) : IsD K H (.str x) (.str x)
  | lst {a : Addr} {xs : List V} {ds : List PyData} : SqL K H a xs → IsDs K H xs ds → IsD K H (.ref a) (.list ds)
  | tup {a : Addr} {xs : List V} {ds : List PyData} : SqT K H a xs → IsDs K H xs ds → IsD K H (.ref a) (.tuple ds)
inductive IsDs (K : PySem.W.Frag) (H : Hp) : List V → List PyData → Prop
  | nil : IsDs K H [] []
  | cons {x : V} {xs : List V} {d : PyData} {ds : List PyData} : IsD K H x d → IsDs K H xs ds → IsDs K H (x :: xs) (d :: ds)
end
theorem Same.tupq {K : PySem.W.Frag} {H H' : Hp} {a : Addr} {xs : List V} (e : Same H H') (h : SqT K H a xs) : SqT K H' a xs := by
  rcases h with (h | ⟨o, h⟩) | h
  · exact .inl (.inl (e _ _ h))
  · exact .inl (.inr ⟨o, e _ _ h⟩)
  · exact .inr h
mutual
theorem IsD.reads {X : Cx} {pins : List (Addr × Obj)} {σ : St} {H : Hp} {s : Shared} (I : Inv X pins σ H s) : ∀ {v : V} {d : PyData} {u : Value}, IsD X.K H v d → RelV v u → ∃ as, Reads s.heap u d as
  | _, _, _, .non, r => by cases r; exact ⟨_, .none⟩
  | _, _, _, .bl b, r => by cases r; exact ⟨_, .bool b⟩
  | _, _, _, .int i, r => by obtain ⟨t, rfl⟩ := r; exact ⟨_, .int i t⟩
  | _, _, _, .str x, r => by obtain ⟨t, rfl⟩ := r; exact ⟨_, .str x t⟩
  | _, _, _, .lst h q, r => by
    cases r
    obtain ⟨its, rv, ⟨o, n, e, c, _, d⟩, _⟩ := I.list h
    obtain ⟨as, ra⟩ := IsDs.reads I q rv
    exact ⟨_, .list e c d (by simpa using ra)⟩
  | _, _, _, .tup h q, r => by
    cases r
    obtain ⟨its, rv, ⟨o, e, c, n, d⟩, _⟩ := I.tuple h
    obtain ⟨as, ra⟩ := IsDs.reads I q rv
    exact ⟨_, .tuple e c d (by simpa using ra)⟩
theorem IsDs.reads {X : Cx} {pins : List (Addr × Obj)} {σ : St} {H : Hp} {s : Shared} (I : Inv X pins σ H s) : ∀ {xs : List V} {ds : List PyData} {us : List Value}, IsDs X.K H xs ds → Vals xs us → ∃ as, ReadsAll s.heap us ds as
  | _, _, _, .nil, .nil => ⟨_, .nil⟩
  | _, _, _, .cons h q, .cons r t => by
    obtain ⟨as, ra⟩ := IsD.reads I h r
    obtain ⟨bs, rb⟩ := IsDs.reads I q t
    exact ⟨_, .cons ra rb⟩
end
theorem IsDs.ints {K : PySem.W.Frag} {H : Hp} : ∀ ns : List Int, IsDs K H (ns.map V.int) (ns.map PyData.int)
  | [] => .nil
  | n :: ns => .cons (.int n) (IsDs.ints ns)

section
variable {X : Cx}
def rEqD (K : PySem.W.Frag) (neg : Bool) : R2 := fun x y H Q => ∃ d d', IsD K H x d ∧ IsD K H y d' ∧ SeqAt.shaped d = true ∧ SeqAt.shaped d' = true ∧ Q (.bl (if neg then !PyData.eqv d d' else PyData.eqv d d')) H
theorem op_neD (hu : X.A.units + 64 < cLine) : OpR X (compareOp .NotEq) (rEqD X.K true) := by
  intro pins s σ H x y v u Q I rx ry h
  obtain ⟨d, d', h1, h2, s1, s2, q⟩ := h
  obtain ⟨as, ra⟩ := h1.reads I rx
  obtain ⟨bs, rb⟩ := h2.reads I ry
  exact ne_dataH ra rb s1 s2 hu ⟨.bl _, H, I, rfl, q⟩
def rInD (K : PySem.W.Frag) (neg : Bool) : R2 := fun x y H Q => ∃ d ds, IsD K H x d ∧ IsD K H y (.list ds) ∧ SeqAt.shaped d = true ∧ SeqAt.shaped (.list ds) = true ∧ Q (.bl (if neg then !ds.any (fun e => PyData.eqv e d) else ds.any (fun e => PyData.eqv e d))) H
theorem op_inD (hu : X.A.units + 65 < cLine) : OpR X (compareOp .In) (rInD X.K false) := by
  intro pins s σ H x y v u Q I rx ry h
  obtain ⟨d, ds, h1, h2, s1, s2, q⟩ := h
  obtain ⟨as, ra⟩ := h1.reads I rx
  obtain ⟨bs, rb⟩ := h2.reads I ry
  exact SeqAt.in_list_reads rb ra (SeqAt.canLay_of_shaped s2) (SeqAt.canLay_of_shaped s1) (room_in_shaped s1 hu) ⟨.bl _, H, I, rfl, q⟩
theorem op_notInD (hu : X.A.units + 65 < cLine) : OpR X (compareOp .NotIn) (rInD X.K true) := by
  intro pins s σ H x y v u Q I rx ry h
  obtain ⟨d, ds, h1, h2, s1, s2, q⟩ := h
  obtain ⟨as, ra⟩ := h1.reads I rx
  obtain ⟨bs, rb⟩ := h2.reads I ry
  exact SeqAt.notIn_list_reads rb ra (SeqAt.canLay_of_shaped s2) (SeqAt.canLay_of_shaped s1) (room_in_shaped s1 hu) ⟨.bl _, H, I, rfl, q⟩

/-! ### isinstance -/
def clsV : V → Option Value
  | .ty n => some (.type n)
  | .ref a => some (.ref a)
  | _ => none
theorem clsV_rel {c : V} {cv u : Value} (h : clsV c = some cv) (r : RelV c u) : u = cv := by
  cases c with
  | ty n => cases h; exact r
  | ref a => cases h; exact r
  | _ => cases h
theorem call_isinst : CallR X (.builtin "isinstance") (fun xs H Q => ∃ x c cv t b, xs = [x, c] ∧ clsV c = some cv ∧ TyOf X.K H x t ∧ PySem.W.kitOne X.K t cv = some b ∧ Q (.bl b) H) := by
  intro pins s σ H xs us Q I r h
  obtain ⟨x, c, cv, t, b, rfl, hc, ty, hk, q⟩ := h
  obtain ⟨u1, u2, rfl, r1, r2⟩ := vals2 r
  obtain rfl := clsV_rel hc r2
  exact isinst_ok I r1 ty hk fun tk => ⟨.bl b, H, I.tok tk, rfl, q⟩

/-! ### all, any by the items' truth -/
end
end L2

namespace L2
open PySem PySem.Spec PyProof.Rows

/-- a def of the text as it stands behind the top -/
structure Dn (K : PySem.W.Frag) (mg : Str → Option Value) (x : Str) (st : Stmt) (ps : List Str) where
  f : Addr
  fd : FuncData
  F : Fun K x x st f fd
  b : Binds K fd ps []
  m : mg x = some (.ref f)
  bd : ∀ (s : Shared) (us : List Value), us.length = ps.length → BindsTo s fd ⟨us, []⟩ (ps.zip us)
/-- the built-ins' names are the built-ins' -/
structure Bl (mg : Str → Option Value) : Prop where
  get : ∀ x : Str, x ∈ (["len", "range", "list", "isinstance", "int", "bool", "str", "all", "any", "sorted", "set", "min", "max", "tuple", "enumerate", "dict", "ValueError"] : List Str) → mg x = none
theorem Bl.len {mg : Str → Option Value} (B : Bl mg) : mg "len" = none := B.get _ (by decide +kernel)
theorem Bl.range {mg : Str → Option Value} (B : Bl mg) : mg "range" = none := B.get _ (by decide +kernel)
theorem Bl.list {mg : Str → Option Value} (B : Bl mg) : mg "list" = none := B.get _ (by decide +kernel)
theorem Bl.isinstance {mg : Str → Option Value} (B : Bl mg) : mg "isinstance" = none := B.get _ (by decide +kernel)
theorem Bl.int {mg : Str → Option Value} (B : Bl mg) : mg "int" = none := B.get _ (by decide +kernel)
theorem Bl.bool {mg : Str → Option Value} (B : Bl mg) : mg "bool" = none := B.get _ (by decide +kernel)
theorem Bl.sorted {mg : Str → Option Value} (B : Bl mg) : mg "sorted" = none := B.get _ (by decide +kernel)
theorem Bl.set {mg : Str → Option Value} (B : Bl mg) : mg "set" = none := B.get _ (by decide +kernel)
theorem Bl.min {mg : Str → Option Value} (B : Bl mg) : mg "min" = none := B.get _ (by decide +kernel)
theorem Bl.max {mg : Str → Option Value} (B : Bl mg) : mg "max" = none := B.get _ (by decide +kernel)
theorem Bl.tuple {mg : Str → Option Value} (B : Bl mg) : mg "tuple" = none := B.get _ (by decide +kernel)

/-! ### the kinds of plain values -/
theorem kit_int_int {K : PySem.W.Frag} : PySem.W.kitOne K (.type "int") (.type "int") = some true := by rfl
theorem kit_int_bool {K : PySem.W.Frag} : PySem.W.kitOne K (.type "int") (.type "bool") = some false := by rfl
theorem kit_non_int {K : PySem.W.Frag} : PySem.W.kitOne K (.type "NoneType") (.type "int") = some false := by rfl
theorem kit_non_bool {K : PySem.W.Frag} : PySem.W.kitOne K (.type "NoneType") (.type "bool") = some false := by rfl
end L2

namespace L2
open PySem PySem.Spec PyProof.Rows
/-! the rules with the written part named (a block's own context does not show it) -/
section
variable {X : Cx} {K : PySem.W.Frag}
theorem ix_listK (e : X.K = K) : IxR X (rIxL K) := by subst e; exact ix_list
theorem ix_tupK (e : X.K = K) : IxR X (rIxT K) := by subst e; exact ix_tup
theorem op_neDK (e : X.K = K) (hu : X.A.units + 64 < cLine) : OpR X (compareOp .NotEq) (rEqD K true) := by subst e; exact op_neD hu
theorem op_inDK (e : X.K = K) (hu : X.A.units + 65 < cLine) : OpR X (compareOp .In) (rInD K false) := by subst e; exact op_inD hu
theorem op_notInDK (e : X.K = K) (hu : X.A.units + 65 < cLine) : OpR X (compareOp .NotIn) (rInD K true) := by subst e; exact op_notInD hu
def rLen (K : PySem.W.Frag) : List V → Hp → VK → Prop := fun xs H Q => ∃ p ys, xs = [.ref p] ∧ (SqL K H p ys ∨ SqT K H p ys) ∧ Q (.int ys.length) H
theorem call_lenK (e : X.K = K) : CallR X (.builtin "len") (rLen K) := by subst e; exact call_len_seq
def rListOf (K : PySem.W.Frag) : List V → Hp → VK → Prop := fun xs H Q => ∃ p ys, xs = [.ref p] ∧ (SqL K H p ys ∨ SqT K H p ys) ∧ ∀ l, H l = none → Q (.ref l) (upd H l (.lst ys))
theorem call_listK (e : X.K = K) : CallR X (.type "list") (rListOf K) := by subst e; exact call_list_of
def rIsin (K : PySem.W.Frag) : List V → Hp → VK → Prop := fun xs H Q => ∃ x c cv t b, xs = [x, c] ∧ clsV c = some cv ∧ TyOf K H x t ∧ PySem.W.kitOne K t cv = some b ∧ Q (.bl b) H
theorem call_isinstK (e : X.K = K) : CallR X (.builtin "isinstance") (rIsin K) := by subst e; exact call_isinst
theorem pi_listK {tg l : Expr} {tl : TE} (e : X.K = K) (hl : PE X l tl) : PI X tg l (iList K tl) := by subst e; exact pi_list hl
def tTru (K : PySem.W.Frag) (ta : TE) : TT := fun σ H Q => ta σ H fun x H' => ∃ k, TruV K x H' k ∧ Q k H'
theorem pt_truthK {a : Expr} {ta : TE} (e : X.K = K) (ha : PE X a ta) (he : ∀ whole, isTrue a X.env whole = (do let v ← whole; standAt a.pos; holding [v] (truthy v))) : PT X a (tTru K ta) := by subst e; exact pt_truth ha he
theorem pg_tupK {es : List Expr} {k : Nat} {t : TGs} {n : Nat} {pos : Pos} (e : X.K = K) (hc : X.calm = true) (h : PGs X es t)
    (hn : (assignEach es X.env).length = n := by rfl) (hst : (assignEach es X.env).findIdx? (·.1) = none := by rfl) : PG X (.Tuple es k pos) (gTup K n t) := by subst e; exact pg_tup hc h hn hst
theorem pe_bmK {o e : Expr} {es : List Expr} {to : TE} {t : TA} {name : Str} {apos cpos : Pos} {T id : String} {r : V → List V → Hp → VK → Prop} (e0 : X.K = K) (pa : PlainAttrs T) (slot : Slot T name id) (hty : typeOf (.builtin id) = pure (.type "method_descriptor")) (hm : MtR X id r) (ho : PE X o to) (ha : PA X (e :: es) t)
    (hbase : attributeBase o name X.env (eval o X.env) = eval o X.env := by rfl)
    (hfew : ((backTo cpos (starEach (e :: es) X.env)).all (fun x => !x.1) && (backToKw cpos (keywordEach [] X.env)).all (fun x => x.1.isSome)
      && decide ((e :: es).length + ([] : List Keyword).length + (if ([] : List Keyword).isEmpty then 0 else 1) < 30)) = true := by rfl)
    (hline : (apos.endLine == cpos.line) = true := by rfl) (hs : starEach (e :: es) X.env = (false, eval e X.env) :: starEach es X.env := by rfl) (hplain : (backTo cpos (starEach es X.env)).any (·.1) = false := by rfl) :
    PE X (.Call (.Attribute o name apos) (e :: es) [] cpos) (tBM K T r to t) := by subst e0; exact pe_bm pa slot hty hm ho ha hbase hfew hline hs hplain

/-! ### xs.insert(i, v) -/
def rInsert : V → List V → Hp → VK → Prop := fun x vs H Q => ∃ l xs i y, x = .ref l ∧ vs = [.int i, y] ∧ H l = some (.lst xs) ∧ xs.length < 1000 ∧ 0 ≤ i ∧ i ≤ (xs.length : Int) ∧ Q .non (upd H l (.lst (xs.take i.toNat ++ y :: xs.drop i.toNat)))
theorem mt_insert : MtM X "list.insert" rInsert := by
  intro pins s σ H x vs v us Q I rx rv h
  obtain ⟨l, xs, i, y, rfl, rfl, hH, hz, h0, h1, q⟩ := h
  cases rx
  obtain ⟨u1, u2, rfl, ru1, ru2⟩ := rv.two
  obtain ⟨t, rfl⟩ := ru1
  obtain ⟨z, its, n, r, hl, e⟩ := I.lstM hH
  have hlen := r.length
  have hs : sizeLine = 16777216 := sizeLine_eq
  have hfit : ¬(!Builtin.List.listFitsIndex i) = true := by
    unfold Builtin.List.listFitsIndex
    simp
    omega
  refine call_meets F.slot_list_insert ⟨_, e, rfl⟩ F.entry_list_insert (F.args_list_insert_3 _ _ _) (AutoSeq1.list_insert_list_int_val_1 l its.toArray n i t u2 hfit (by rw [List.size_toArray]; omega)) ⟨e, ?_⟩
  refine ⟨.non, _, I.lset (its' := its.take i.toNat ++ u2 :: its.drop i.toNat) hH e ?_ ((r.take i.toNat).append (.cons ru2 (r.drop i.toNat))) ?_, rfl, q⟩
  · have hk : min i.toNat its.length = i.toNat := by omega
    simp [show ¬ i < 0 by omega, hk]
    exact List.take_of_length_le (by simp)
  · rw [List.length_append, List.length_cons, List.length_take, List.length_drop]
    omega
end
end L2

namespace L2
open PySem PySem.Spec PyProof.Rows
end L2

namespace L2
open PySem PySem.Spec PyProof.Rows
/-- o has been laid at p -/
structure New (H : Hp) (p : Addr) (o : HO) (H' : Hp) : Prop where
  fresh : H p = none
  here : H' p = some o
  rest : ∀ b, b ≠ p → H' b = H b
theorem New.mk0 {H : Hp} {p : Addr} {o : HO} (h : H p = none) : New H p o (upd H p o) := ⟨h, upd_same, fun _ hb => upd_ne hb⟩
theorem New.same {H H' : Hp} {p : Addr} {o : HO} (n : New H p o H') : Same H H' := fun b u e => (n.rest b (ne_of_none e n.fresh)).trans e
/-- the object at l has been changed into o -/
structure Chg (H : Hp) (l : Addr) (o : HO) (H' : Hp) : Prop where
  here : H' l = some o
  rest : ∀ b, b ≠ l → H' b = H b
theorem Chg.mk0 {H : Hp} {l : Addr} {o : HO} : Chg H l o (upd H l o) := ⟨upd_same, fun _ hb => upd_ne hb⟩
section
variable {X : Cx} {K : PySem.W.Frag} {es : List Expr} {t : TA} {pos : Pos}
def tTupN (t : TA) : TE := fun σ H Q => t σ H fun xs H1 => xs.length ≤ 1000 ∧ ∀ p H', New H1 p (.tup xs) H' → Q (.ref p) H'
def tLstN (t : TA) : TE := fun σ H Q => t σ H fun xs H1 => xs.length ≤ 1000 ∧ ∀ p H', New H1 p (.lst xs) H' → Q (.ref p) H'
theorem pe_tupN {x1} (h : PA X es t) : PE X (.Tuple es x1 pos) (tTupN t) := by
  intro pins s σ H Q I hq
  refine wpAny_Tuple_spliced (thn (h pos pins s σ H _ I hq) fun us s1 ⟨xs, H1, I1, r, z, q⟩ => ?_)
  have z' : xs.length ≤ sizeLine := Nat.le_of_lt (small1000 z)
  refine ⟨by rw [← r.length]; exact z', ?_⟩
  have hf : H1 s1.heap.objs.size = none := I1.hok.fresh (Nat.le_refl _)
  refine ⟨.ref s1.heap.objs.size, upd H1 s1.heap.objs.size (.tup xs), I1.laid (t' := s1.toks) (fun b u e => Heap.get?_push_of_some _ e) (Nat.le_refl _) ?_, rfl, q _ _ (New.mk0 hf)⟩
  exact ⟨z', us, r, ⟨_, Heap.get?_push_size _ rfl, rfl, _, rfl⟩⟩
theorem pe_lstN (h : PA X es t) : PE X (.List es pos) (tLstN t) := by
  intro pins s σ H Q I hq
  refine wpAny_List_spliced (thn (h pos pins s σ H _ I hq) fun us s1 ⟨xs, H1, I1, r, z, q⟩ => ?_)
  have z' : xs.length ≤ sizeLine := Nat.le_of_lt (small1000 z)
  refine ⟨by rw [← r.length]; exact z', ?_⟩
  have hf : H1 s1.heap.objs.size = none := I1.hok.fresh (Nat.le_refl _)
  refine ⟨.ref s1.heap.objs.size, upd H1 s1.heap.objs.size (.lst xs), I1.laid (t' := s1.toks) (fun b u e => Heap.get?_push_of_some _ e) (Nat.le_refl _) ?_, rfl, q _ _ (New.mk0 hf)⟩
  exact ⟨z', us, 0, r, Heap.get?_push_size _ rfl⟩
theorem OpR.weak {f : Value → Value → Sem Value} {r r' : R2} (h : OpR X f r) (m : ∀ x y H Q, r' x y H Q → r x y H Q) : OpR X f r' := fun pins s σ H x y v u Q I rx ry q => h pins s σ H x y v u Q I rx ry (m x y H Q q)
theorem CallR.weak {f : Value} {r r' : List V → Hp → VK → Prop} (h : CallR X f r) (m : ∀ xs H Q, r' xs H Q → r xs H Q) : CallR X f r' := fun pins s σ H xs us Q I rs q => h pins s σ H xs us Q I rs (m xs H Q q)
def rCatN : R2 := fun x y H Q => ∃ l b xs zs, x = .ref l ∧ y = .ref b ∧ H l = some (.lst xs) ∧ H b = some (.lst zs) ∧ xs.length + zs.length ≤ 1000 ∧ ∀ p H', New H p (.lst (xs ++ zs)) H' → Q (.ref p) H'
theorem op_catN : OpR X (binaryOp .Add) rCatN := op_cat.weak fun x y H Q ⟨l, b, xs, zs, e1, e2, h1, h2, z, q⟩ => ⟨l, b, xs, zs, e1, e2, h1, h2, Nat.le_of_lt (small1000 z), fun p hp => q p _ (New.mk0 hp)⟩
def rSlN (K : PySem.W.Frag) : V → Option Int → Option Int → Hp → VK → Prop := fun x lo hi H Q => ∃ a xs, x = .ref a ∧ SqL K H a xs ∧ ∀ p H', New H p (.lst (cutV xs lo hi)) H' → Q (.ref p) H'
theorem sl_listN (e : X.K = K) : SlR X (rSlN K) := by
  subst e
  exact fun pins s σ H x v vl vu lo hi sl Q I rx hs pl pu ⟨a, xs, e, h, q⟩ => sl_list pins s σ H x v vl vu lo hi sl Q I rx hs pl pu ⟨a, xs, e, h, fun p hp => q p _ (New.mk0 hp)⟩
def rListN (K : PySem.W.Frag) : List V → Hp → VK → Prop := fun xs H Q => ∃ p ys, xs = [.ref p] ∧ (SqL K H p ys ∨ SqT K H p ys) ∧ ∀ l H', New H l (.lst ys) H' → Q (.ref l) H'
theorem call_listN (e : X.K = K) : CallR X (.type "list") (rListN K) := (call_listK e).weak fun xs H Q ⟨p, ys, e, h, q⟩ => ⟨p, ys, e, h, fun l hl => q l _ (New.mk0 hl)⟩
theorem MtM.weak {id : String} {r r' : V → List V → Hp → VK → Prop} (h : MtM X id r) (m : ∀ x xs H Q, r' x xs H Q → r x xs H Q) : MtM X id r' := fun pins s σ H x xs v us Q I rx rs q => h pins s σ H x xs v us Q I rx rs (m x xs H Q q)
def rAppN : V → List V → Hp → VK → Prop := fun x vs H Q => ∃ l xs y, x = .ref l ∧ vs = [y] ∧ H l = some (.lst xs) ∧ xs.length < 1000 ∧ ∀ H', Chg H l (.lst (xs ++ [y])) H' → Q .non H'
theorem mt_appendN : MtM X "list.append" rAppN := mt_append.weak fun x vs H Q ⟨l, xs, y, e1, e2, h, z, q⟩ => ⟨l, xs, y, e1, e2, h, small1000 (Nat.le_of_lt z), q _ Chg.mk0⟩
def rInsN : V → List V → Hp → VK → Prop := fun x vs H Q => ∃ l xs i y, x = .ref l ∧ vs = [.int i, y] ∧ H l = some (.lst xs) ∧ xs.length < 1000 ∧ 0 ≤ i ∧ i ≤ (xs.length : Int) ∧ ∀ H', Chg H l (.lst (xs.take i.toNat ++ y :: xs.drop i.toNat)) H' → Q .non H'
theorem mt_insertN : MtM X "list.insert" rInsN := mt_insert.weak fun x vs H Q ⟨l, xs, i, y, e1, e2, h, z, h0, h1, q⟩ => ⟨l, xs, i, y, e1, e2, h, z, h0, h1, q _ Chg.mk0⟩
end
theorem lc_fmN {K : PySem.W.Frag} {a : Addr} {xs : List V} {ix : List (Option Nat)} {g : TG} {tt : TT} {te : TE} {σ : St} {H1 : Hp} {Q : VK} (f : V → Option V) (hx : SqL K H1 a xs) (hz : xs.length ≤ 1000)
    (hs : ∀ x H (N : Option V → Hp → Prop), x ∈ xs → Same H1 H → (∀ H', Same H1 H' → N (f x) H') → g x (capt ix σ) H fun σ2 H2 => tt σ2 H2 fun b H3 => if b = true then te σ2 H3 fun v H4 => N (some v) H4 else N none H3)
    (hd : ∀ H p H', Same H1 H → New H p (.lst (xs.filterMap f)) H' → Q (.ref p) H') : LcGoal ix g tt te σ H1 Q (Itl K a) :=
  lc_fm f hx (Nat.le_of_lt (small1000 hz)) hs fun H p s hp => hd H p _ s (New.mk0 hp)
end L2

/-! the law's own draws, as functions -/
namespace Lw
open PySem L2
theorem at_ints {ns : List Int} {k : Int} (h0 : 0 ≤ k) (h : k < (ns.length : Int)) : atI (ns.map V.int) k = some (.int (ns.getD k.toNat 0)) := by
  have hk : k.toNat < ns.length := by omega
  have ek : k = ((k.toNat : Nat) : Int) := by omega
  have q : atI (ns.map V.int) ((k.toNat : Nat) : Int) = some (.int (ns.getD k.toNat 0)) := atI_nat (by
    rw [List.getElem?_map, List.getElem?_eq_getElem hk, List.getD_eq_getElem?_getD, List.getElem?_eq_getElem hk]; rfl)
  rw [← ek] at q
  exact q
/-- the script: frozen, or the module's own -/
def Scr (K : PySem.W.Frag) (H : Hp) (a : Addr) (ns : List Int) : Prop := (∃ o, H a = some (.frz o (.lst (ns.map V.int)))) ∨
  ∃ (o : Obj) (its : Array Value) (n : Nat), K.lookup a = some o ∧ o.cls = .type "list" ∧ o.dict = none ∧ o.data = .seq its n ∧ its.size ≤ sizeLine ∧ Vals (ns.map V.int) its.toList
theorem Scr.seq {K : PySem.W.Frag} {H : Hp} {a : Addr} {ns : List Int} (h : Scr K H a ns) : SqL K H a (ns.map V.int) := by
  rcases h with ⟨o, h⟩ | h
  · exact .inl (.inr ⟨o, h⟩)
  · exact .inr h
theorem Scr.of {K : PySem.W.Frag} {H : Hp} {a : Addr} {ns : List Int} (hO : Only H) (h : SqL K H a (ns.map V.int)) : Scr K H a ns := by
  rcases h with (h | ⟨o, h⟩) | h
  · rcases hO a with z | ⟨ob, xs, z⟩
    · rw [z] at h; cases h
    · rw [z] at h; cases h
  · exact .inl ⟨o, h⟩
  · exact .inr h
theorem Scr.same {K : PySem.W.Frag} {H H' : Hp} {a : Addr} {ns : List Int} (e : Same H H') (h : Scr K H a ns) : Scr K H' a ns := by
  rcases h with ⟨o, h⟩ | h
  · exact .inl ⟨o, e _ _ h⟩
  · exact .inr h
/-- the script, and law's promise -/
def spLaw (K : PySem.W.Frag) : Sp := fun vs H Q _ => ∃ (a : Addr) (ns : List Int), vs = [.ref a] ∧ Scr K H a ns ∧ ns.length ≤ 63 ∧ ∀ H', Q (.bl true) H'
end Lw

namespace L2
open PySem PySem.Spec PyProof.Rows
theorem dn_mk {K : PySem.W.Frag} {h : Heap} {mg : Str → Option Value} {x : Str} {st : Stmt} {ps : List Str} {f : Addr} {oc : Value} {od an : Option Addr} {osl : Array (Option Value)} {kV doc pm cdv ct : Value} (X : K.In h) (G : h.Ns mainGlobals mg)
    (a : PySem.W.nsIn K mainGlobals x = some (some (.ref f))) (l : K.lookup f = some ⟨oc, od, .func (PySem.W.fnOf x x (defArgs st) (defBody st) (defScope st) .none kV doc pm an cdv ct), osl⟩) (c : PySem.W.codeIn K cdv x = true) (k : PySem.W.keepIn K (.ref f) = true)
    (hb : ∀ (kV doc pm : Value) (an : Option Addr) (cdv ct : Value) (us : List Value), us.length = ps.length → bindArgs (PySem.W.fnOf x x (defArgs st) (defBody st) (defScope st) .none kV doc pm an cdv ct) ⟨us, []⟩ = pure (ps.zip us)) :
    Nonempty (Dn K mg x st ps) :=
  have F := fun_mk (st := st) l c k
  ⟨⟨f, _, F, F.binds hb, PySem.W.mg_of X G a, fun s us hl => .of_eq (hb _ _ _ _ _ _ us hl)⟩⟩
theorem bl_mk {K : PySem.W.Frag} {h : Heap} {mg : Str → Option Value} (X : K.In h) (G : h.Ns mainGlobals mg)
    (z1 : PySem.W.nsIn K mainGlobals "len" = some none) (z2 : PySem.W.nsIn K mainGlobals "range" = some none) (z3 : PySem.W.nsIn K mainGlobals "list" = some none) (z4 : PySem.W.nsIn K mainGlobals "isinstance" = some none) (z5 : PySem.W.nsIn K mainGlobals "int" = some none)
    (z6 : PySem.W.nsIn K mainGlobals "bool" = some none) (z7 : PySem.W.nsIn K mainGlobals "str" = some none) (z8 : PySem.W.nsIn K mainGlobals "all" = some none) (z9 : PySem.W.nsIn K mainGlobals "any" = some none) (z10 : PySem.W.nsIn K mainGlobals "sorted" = some none)
    (z11 : PySem.W.nsIn K mainGlobals "set" = some none) (z12 : PySem.W.nsIn K mainGlobals "min" = some none) (z13 : PySem.W.nsIn K mainGlobals "max" = some none) (z14 : PySem.W.nsIn K mainGlobals "tuple" = some none) (z15 : PySem.W.nsIn K mainGlobals "enumerate" = some none)
    (z16 : PySem.W.nsIn K mainGlobals "dict" = some none) (z17 : PySem.W.nsIn K mainGlobals "ValueError" = some none) : Bl mg := by
  refine ⟨fun x hx => ?_⟩
  simp only [List.mem_cons, List.not_mem_nil, or_false] at hx
  rcases hx with rfl | rfl | rfl | rfl | rfl | rfl | rfl | rfl | rfl | rfl | rfl | rfl | rfl | rfl | rfl | rfl | rfl
  · exact PySem.W.mg_none_of X G z1
  · exact PySem.W.mg_none_of X G z2
  · exact PySem.W.mg_none_of X G z3
  · exact PySem.W.mg_none_of X G z4
  · exact PySem.W.mg_none_of X G z5
  · exact PySem.W.mg_none_of X G z6
  · exact PySem.W.mg_none_of X G z7
  · exact PySem.W.mg_none_of X G z8
  · exact PySem.W.mg_none_of X G z9
  · exact PySem.W.mg_none_of X G z10
  · exact PySem.W.mg_none_of X G z11
  · exact PySem.W.mg_none_of X G z12
  · exact PySem.W.mg_none_of X G z13
  · exact PySem.W.mg_none_of X G z14
  · exact PySem.W.mg_none_of X G z15
  · exact PySem.W.mg_none_of X G z16
  · exact PySem.W.mg_none_of X G z17
/-- law's own call: the promise of a def d is the promise at its address -/
theorem law_at {P : Program} {w : World} {K : PySem.W.Frag} {mg : Str → Option Value} {fa : Addr} {st : Stmt} {k : Nat} {sp : Sp} {x : Str} (hfa : mg "law" = some (.ref fa)) (d : Dn K mg "law" st [x]) (F : ∀ base : Heap, FnOk P w K mg base CX0 k d.f d.fd [x] sp) :
    ∃ fd : FuncData, (∀ (s : Shared) (u : Value), BindsTo s fd ⟨[u], []⟩ [(x, u)]) ∧ ∀ base : Heap, K.In base → base.Ns mainGlobals mg → FnOk P w K mg base CX0 k fa fd [x] sp := by
  have e : fa = d.f := by
    have := hfa.symm.trans d.m
    have := Option.some.inj this
    cases this
    rfl
  subst e
  exact ⟨d.fd, fun s u => d.bd s [u] rfl, fun base _ _ => F base⟩
end L2

namespace L2
open PySem PySem.Spec PyProof.Rows
/-! ### for k, x in enumerate(xs) -/
section
variable {X : Cx} {K : PySem.W.Frag}
end
/-- a comprehension over a list, by a function of the place -/
theorem lc_ixN {K : PySem.W.Frag} {a : Addr} {xs : List V} {ix : List (Option Nat)} {g : TG} {tt : TT} {te : TE} {σ : St} {H1 : Hp} {Q : VK} (f : Nat → Option V) (hx : SqL K H1 a xs) (hz : xs.length ≤ 1000)
    (hs : ∀ (i : Nat) x H (N : Option V → Hp → Prop), xs[i]? = some x → Same H1 H → (∀ H', Same H1 H' → N (f i) H') → g x (capt ix σ) H fun σ2 H2 => tt σ2 H2 fun b H3 => if b = true then te σ2 H3 fun v H4 => N (some v) H4 else N none H3)
    (hd : ∀ H p H', Same H1 H → New H p (.lst ((List.range xs.length).filterMap f)) H' → Q (.ref p) H') : LcGoal ix g tt te σ H1 Q (Itl K a) := by
  refine lc_list (K := K) (a := a) (xs := xs) (fun i ys H => ys = (List.range i).filterMap f ∧ Same H1 H) ⟨rfl, Same.refl _⟩ (fun i ys H hi ⟨e, s⟩ => ⟨s.seq hx, ?_⟩) (fun i x ys H hi ⟨e, s⟩ => ?_) fun ys H ⟨e, s⟩ p hp => ?_
  · subst e
    refine Nat.le_trans (List.length_filterMap_le _ _) ?_
    rw [List.length_range]; exact Nat.le_trans hi (Nat.le_of_lt (small1000 hz))
  · refine hs i x H (fun o H' => match o with | some v => (ys ++ [v] = (List.range (i + 1)).filterMap f ∧ Same H1 H') | none => (ys = (List.range (i + 1)).filterMap f ∧ Same H1 H')) hi s fun H' s' => ?_
    cases ef : f i with
    | some v =>
      refine ⟨?_, s'⟩
      rw [e, List.range_succ, List.filterMap_append]
      simp [ef]
    | none =>
      refine ⟨?_, s'⟩
      rw [e, List.range_succ, List.filterMap_append]
      simp [ef]
  · subst e
    exact hd H p _ s (New.mk0 hp)
end L2

/-! the program's answers as functions, and how rows and graphs lie in the heap -/
namespace Bg
open PySem L2 Lw
def belowF (n : Int) : Option Int → Bool
  | none => false
  | some i => decide (0 ≤ i ∧ i < n)
inductive Flt where
  | ok | row (k : Nat) | place (v : Nat) | tie (a b : Int) | apart (v j k : Nat)
  deriving DecidableEq
/-! ### in the heap -/
def upV : Option Int → V
  | none => .non
  | some i => .int i
def TieV (K : PySem.W.Frag) (H : Hp) (v : V) (t : Int × Int) : Prop := ∃ p, v = .ref p ∧ SqT K H p [.int t.1, .int t.2]
def TiesAt (K : PySem.W.Frag) (H : Hp) (a : Addr) (ts : List (Int × Int)) : Prop := ∃ xs, SqL K H a xs ∧ Paired (TieV K H) xs ts ∧ ts.length ≤ 1000
def GraphV (K : PySem.W.Frag) (H : Hp) (v : V) (n : Int) (ts : List (Int × Int)) : Prop := ∃ p a, v = .ref p ∧ SqT K H p [.int n, .ref a] ∧ TiesAt K H a ts
theorem TiesAt.same {K : PySem.W.Frag} {H H' : Hp} {a : Addr} {ts : List (Int × Int)} (e : Same H H') (h : TiesAt K H a ts) : TiesAt K H' a ts := by
  obtain ⟨xs, h1, h2, h3⟩ := h
  exact ⟨xs, e.seq h1, Paired.mapP h2 fun _ _ ⟨p, q1, q2⟩ => ⟨p, q1, e.tupq q2⟩, h3⟩
theorem GraphV.same {K : PySem.W.Frag} {H H' : Hp} {v : V} {n : Int} {ts : List (Int × Int)} (e : Same H H') (h : GraphV K H v n ts) : GraphV K H' v n ts := by
  obtain ⟨p, a, h1, h2, h3⟩ := h
  exact ⟨p, a, h1, e.tupq h2, h3.same e⟩
theorem paired_get {α β : Type} {F : α → β → Prop} : ∀ {xs : List α} {ys : List β} {i : Nat} {x : α}, Paired F xs ys → xs[i]? = some x → ∃ y, ys[i]? = some y ∧ F x y
  | _, _, _, _, .nil, h => by simp at h
  | _, _, 0, _, .cons h r, e => by
    simp at e; subst e
    exact ⟨_, rfl, h⟩
  | _, _, i + 1, _, .cons h r, e => by
    obtain ⟨d, e1, q⟩ := paired_get (i := i) r (by simpa using e)
    exact ⟨d, by simpa using e1, q⟩
theorem paired_getr {α β : Type} {F : α → β → Prop} : ∀ {xs : List α} {ys : List β} {i : Nat} {y : β}, Paired F xs ys → ys[i]? = some y → ∃ x, xs[i]? = some x ∧ F x y
  | _, _, _, _, .nil, h => by simp at h
  | _, _, 0, _, .cons h r, e => by
    simp at e; subst e
    exact ⟨_, rfl, h⟩
  | _, _, i + 1, _, .cons h r, e => by
    obtain ⟨d, e1, q⟩ := paired_getr (i := i) r (by simpa using e)
    exact ⟨d, by simpa using e1, q⟩
/-! ### data -/
theorem any_int (ns : List Int) (v : Int) : (ns.map PyData.int).any (fun e => PyData.eqv e (.int v)) = decide (v ∈ ns) := by
  induction ns with
  | nil => rfl
  | cons a r ih =>
    rw [List.map_cons, List.any_cons, ih, PyData.eqv]
    by_cases h : a = v
    · subst h; simp
    · have h' : ¬ v = a := fun z => h z.symm
      simp [h, h']
theorem depth_ints (ns : List Int) : PyData.depthAll (ns.map PyData.int) = 0 := by
  induction ns with
  | nil => rfl
  | cons a r ih => rw [List.map_cons, PyData.depthAll, ih]; rfl
theorem can_ints (ns : List Int) : PyData.canLayAll0 (ns.map PyData.int) = true := by
  induction ns with
  | nil => rfl
  | cons a r ih => rw [List.map_cons, PyData.canLayAll0, ih]; rfl
theorem shaped_ints (ns : List Int) : SeqAt.shaped (.list (ns.map PyData.int)) = true := by
  unfold SeqAt.shaped
  rw [PyData.canLay0, can_ints, PyData.depth, depth_ints]
  decide
/-- v in a list of ints -/
theorem inInts {K : PySem.W.Frag} {H : Hp} {b : Addr} {ns : List Int} {v : Int} {Q : VK} (hS : SqL K H b (ns.map V.int)) (q : Q (.bl (decide (v ∈ ns))) H) : rInD K false (.int v) (.ref b) H Q :=
  ⟨_, _, .int v, .lst hS (IsDs.ints ns), rfl, shaped_ints ns, by rw [any_int]; exact q⟩
theorem notInInts {K : PySem.W.Frag} {H : Hp} {b : Addr} {ns : List Int} {v : Int} {Q : VK} (hS : SqL K H b (ns.map V.int)) (q : Q (.bl (!decide (v ∈ ns))) H) : rInD K true (.int v) (.ref b) H Q :=
  ⟨_, _, .int v, .lst hS (IsDs.ints ns), rfl, shaped_ints ns, by rw [any_int]; exact q⟩
end Bg

namespace L2
open PySem PySem.Spec PyProof.Rows
def rSetN : V → V → V → Hp → (Hp → Prop) → Prop := fun o i v H Q => ∃ p xs k j, o = .ref p ∧ i = .int k ∧ H p = some (.lst xs) ∧ ixN xs.length k = some j ∧ ∀ H', Chg H p (.lst (xs.set j v)) H' → Q H'
theorem set_listN {X : Cx} : PSet X rSetN := fun pins s σ H o i v ov iv u Q I ro ri rv ⟨p, xs, k, j, e1, e2, h1, h2, q⟩ => set_list pins s σ H o i v ov iv u Q I ro ri rv ⟨p, xs, k, j, e1, e2, h1, h2, q _ Chg.mk0⟩
theorem ixN_nat {n j : Nat} (h : j < n) : ixN n (j : Int) = some j := by
  unfold ixN
  rw [if_pos (by omega), if_pos (by omega)]; simp
theorem Same.chg {H H' : Hp} {l : Addr} {o : HO} {H0 : Hp} (s : Same H0 H) (h0 : H0 l = none) (c : Chg H l o H') : Same H0 H' := fun b u e => (c.rest b (ne_of_none e h0)).trans (s b u e)
end L2
namespace Bg
open PySem L2 Lw
/-! ### sets of places -/
/-! ### rows and ties as they are made -/
def TieL (H : Hp) (v : V) (t : Int × Int) : Prop := ∃ p, v = .ref p ∧ H p = some (.tup [.int t.1, .int t.2])
theorem TieL.v {K : PySem.W.Frag} {H : Hp} {v : V} {t : Int × Int} (h : TieL H v t) : TieV K H v t := by
  obtain ⟨p, e, q⟩ := h
  exact ⟨p, e, SqT.of q⟩
theorem TieL.same {H H' : Hp} {v : V} {t : Int × Int} (s : Same H H') (h : TieL H v t) : TieL H' v t := by
  obtain ⟨p, e, q⟩ := h
  exact ⟨p, e, s _ _ q⟩
theorem paired_snoc {α β : Type} {F : α → β → Prop} : ∀ {xs : List α} {ys : List β} {x : α} {y : β}, Paired F xs ys → F x y → Paired F (xs ++ [x]) (ys ++ [y])
  | _, _, _, _, .nil, h => .cons h .nil
  | _, _, _, _, .cons h r, q => .cons h (paired_snoc r q)
/-! ### data -/
def tieD (t : Int × Int) : PyData := .tuple [.int t.1, .int t.2]
theorem TieV.isD {K : PySem.W.Frag} {H : Hp} {v : V} {t : Int × Int} (h : TieV K H v t) : IsD K H v (tieD t) := by
  obtain ⟨p, rfl, q1⟩ := h
  exact .tup q1 (.cons (.int _) (.cons (.int _) .nil))
theorem isDs_of {K : PySem.W.Frag} {H : Hp} {α : Type} {F : V → α → Prop} {f : α → PyData} (hf : ∀ v x, F v x → IsD K H v (f x)) : ∀ {xs : List V} {ys : List α}, Paired F xs ys → IsDs K H xs (ys.map f)
  | _, _, .nil => .nil
  | _, _, .cons h r => .cons (hf _ _ h) (isDs_of hf r)
def tiesD (ts : List (Int × Int)) : PyData := .list (ts.map tieD)
theorem TiesAt.isD {K : PySem.W.Frag} {H : Hp} {a : Addr} {ts : List (Int × Int)} (h : TiesAt K H a ts) : IsD K H (.ref a) (tiesD ts) := by
  obtain ⟨xs, h1, h2, _⟩ := h
  exact .lst h1 (isDs_of (fun v x q => q.isD) h2)
def webD (n : Int) (ts : List (Int × Int)) : PyData := .tuple [.int n, tiesD ts]
theorem GraphV.isD {K : PySem.W.Frag} {H : Hp} {v : V} {n : Int} {ts : List (Int × Int)} (h : GraphV K H v n ts) : IsD K H v (webD n ts) := by
  obtain ⟨p, a, rfl, q1, q2⟩ := h
  exact .tup q1 (.cons (.int _) (.cons q2.isD .nil))
theorem can_all {α : Type} {f : α → PyData} (h : ∀ x, (f x).canLay0 = true) : ∀ l : List α, PyData.canLayAll0 (l.map f) = true
  | [] => rfl
  | x :: r => by rw [List.map_cons, PyData.canLayAll0, h x, can_all h r]; rfl
theorem depth_all {α : Type} {f : α → PyData} {k : Nat} (h : ∀ x, (f x).depth ≤ k) : ∀ l : List α, PyData.depthAll (l.map f) ≤ k
  | [] => Nat.zero_le _
  | x :: r => by
    rw [List.map_cons, PyData.depthAll]
    exact Nat.max_le.mpr ⟨h x, depth_all h r⟩
theorem can_tie (t : Int × Int) : (tieD t).canLay0 = true := rfl
theorem depth_tie (t : Int × Int) : (tieD t).depth ≤ 1 := by
  unfold tieD
  simp [PyData.depth, PyData.depthAll]
theorem shaped_ties (ts : List (Int × Int)) : SeqAt.shaped (tiesD ts) = true := by
  unfold SeqAt.shaped tiesD
  rw [PyData.canLay0, can_all can_tie, PyData.depth, Bool.true_and]
  exact decide_eq_true (by have := depth_all depth_tie ts; omega)
theorem shaped_web (n : Int) (ts : List (Int × Int)) : SeqAt.shaped (webD n ts) = true := by
  have h := shaped_ties ts
  unfold SeqAt.shaped at h ⊢
  rw [Bool.and_eq_true] at h
  have h2 : (tiesD ts).depth ≤ 2 := by
    unfold tiesD
    rw [PyData.depth]
    have := depth_all depth_tie ts; omega
  unfold webD
  rw [PyData.canLay0, PyData.canLayAll0, PyData.canLayAll0, h.1, PyData.depth, PyData.depthAll, PyData.depthAll, PyData.depthAll, PyData.depth]
  simp only [PyData.canLay0, PyData.canLayAll0, Bool.and_true, Bool.true_and]
  refine decide_eq_true ?_
  omega
theorem eqv_self {d : PyData} (h : SeqAt.shaped d = true) : PyData.eqv d d = true := SeqAt.eqv_refl d (SeqAt.canLay_of_shaped h)
end Bg

set_option maxHeartbeats 4100000
namespace L2
open PySem PySem.Spec PyProof.Rows
section
variable {X : Cx} {K : PySem.W.Frag} {a b : Expr} {rest : List Expr} {pos : Pos} {ta tb : TE}
end
end L2

set_option maxHeartbeats 4100000
namespace L2
open PySem PySem.Spec PyProof.Rows
section
variable {K : PySem.W.Frag} {a : Addr} {xs : List V} {ix : List (Option Nat)} {g : TG} {tt : TT} {te : TE} {σ : St} {H1 : Hp} {Q : VK}
end
section
variable {X : Cx} {K : PySem.W.Frag}
end
end L2

namespace Srt
open PySem PySem.W PyProof.Rows
/-- a tree of questions, answered by a key: all asked places are below n, and the end is as wished -/
def Ok (n : Nat) (key : Nat → Int) {α : Type} : KasT α → (α → Prop) → Prop
  | .ret a, Q => Q a
  | .ask i j k, Q => i < n ∧ j < n ∧ Ok n key (k (decide (key i < key j))) Q
section
variable {n : Nat} {key : Nat → Int} {α β : Type}
theorem Ok.mono {Q Q' : α → Prop} (h : ∀ a, Q a → Q' a) : ∀ {t : KasT α}, Ok n key t Q → Ok n key t Q'
  | .ret _, x => h _ x
  | .ask _ _ _, ⟨a, b, x⟩ => ⟨a, b, Ok.mono h x⟩
theorem Ok.bind {f : α → KasT β} {Q : β → Prop} : ∀ {t : KasT α}, Ok n key t (fun a => Ok n key (f a) Q) → Ok n key (t.bind f) Q
  | .ret _, x => x
  | .ask _ _ _, ⟨a, b, x⟩ => ⟨a, b, Ok.bind x⟩
theorem Ok.wp {cmp : Nat → Nat → (Bool → Shared → Prop) → Shared → Prop} {s : Shared} {Q : α → Prop} {R : α → Shared → Prop} (hc : ∀ i j (C : Bool → Shared → Prop), i < n → j < n → C (decide (key i < key j)) s → cmp i j C s) (hq : ∀ a, Q a → R a s) :
    ∀ {t : KasT α}, Ok n key t Q → t.kasWp cmp R s
  | .ret _, x => hq _ x
  | .ask i j k, ⟨a, b, x⟩ => hc i j _ a b (Ok.wp hc hq x)
/-- the places, in some order -/
structure Pm (n : Nat) (p : Array Nat) : Prop where
  perm : p.Perm (List.range n).toArray
theorem Pm.size {p : Array Nat} (h : Pm n p) : p.size = n := by
  have := h.perm.size_eq
  simpa using this
theorem Pm.lt {p : Array Nat} (h : Pm n p) {i : Nat} (hi : i < n) : p.getD i 0 < n := by
  have hs := h.size
  have hi' : i < p.size := by omega
  have hm : p[i] ∈ (List.range n) := by
    have := (Array.perm_iff_toList_perm.mp h.perm).mem_iff (a := p[i])
    simpa using this
  have : p.getD i 0 = p[i] := by simp [Array.getD, hi']
  rw [this]; exact List.mem_range.mp hm
theorem Pm.of {p q : Array Nat} (h : Pm n p) (e : q.Perm p) : Pm n q := ⟨e.trans h.perm⟩
def KK (key : Nat → Int) (p : Array Nat) (i : Nat) : Int := key (p.getD i 0)
theorem getD_q (p : Array Nat) (i : Nat) : p.getD i 0 = (p[i]?).getD 0 := by simp [Array.getD_eq_getD_getElem?]
theorem KK_rev {p : Array Nat} {i j : Nat} (hj : j ≤ p.size) (k : Nat) : KK key (kas_rev p i j) k = if i ≤ k ∧ k < j then KK key p (i + j - 1 - k) else KK key p k := by
  unfold KK kas_rev
  rw [getD_q, getElem?_mirror_all hj]
  split <;> rw [getD_q]
theorem KK_bub {p : Array Nat} {k d : Nat} (hk : k < p.size) (hd : d ≤ k) (i : Nat) : KK key (bubble p k d) i = if i = k - d then KK key p k else if k - d < i ∧ i ≤ k then KK key p (i - 1) else KK key p i := by
  unfold KK
  rw [getD_q, getD_q p k, getD_q p (i - 1), getD_q p i, getElem?_bubble hk d hd]
  split
  · rfl
  · split <;> rfl
def Srtd (key : Nat → Int) (p : Array Nat) (m : Nat) : Prop := ∀ i j, i ≤ j → j < m → KK key p i ≤ KK key p j
def Down (key : Nat → Int) (p : Array Nat) (m : Nat) : Prop := ∀ i j, i ≤ j → j < m → KK key p j ≤ KK key p i
theorem Pm.rev {p : Array Nat} (h : Pm n p) (i j : Nat) : Pm n (kas_rev p i j) := h.of (mirror_perm _ _ _ _)
theorem ok_asc {p : Array Nat} (hp : Pm n p) : ∀ (f m : Nat), 1 ≤ m → m + f ≤ n → Srtd key p m → Ok n key (kas_asc p f m) (fun r => m ≤ r ∧ r ≤ m + f ∧ Srtd key p r ∧ (r = m + f ∨ KK key p r < KK key p (r - 1)))
  | 0, m, _, _, hs => ⟨Nat.le_refl _, Nat.le_refl _, hs, .inl rfl⟩
  | f + 1, m, h1, hm, hs => by
    refine ⟨hp.lt (by omega), hp.lt (by omega), ?_⟩
    by_cases c : key (p.getD m 0) < key (p.getD (m - 1) 0)
    · rw [decide_eq_true c]; dsimp only; rw [if_pos rfl]
      exact ⟨Nat.le_refl _, by omega, hs, .inr c⟩
    · rw [decide_eq_false c]; dsimp only; rw [if_neg Bool.false_ne_true]
      refine Ok.mono (fun r ⟨a, b, d, e⟩ => ⟨by omega, by omega, d, ?_⟩) (ok_asc hp f (m + 1) (by omega) (by omega) ?_)
      · intro i j hij hj
        by_cases hjm : j < m
        · exact hs i j hij hjm
        · have : j = m := by omega
          subst this
          by_cases hi : i = j
          · subst hi; exact Int.le_refl _
          · have q := hs i (j - 1) (by omega) (by omega)
            have c' : KK key p (j - 1) ≤ KK key p j := by unfold KK; omega
            omega
      · rcases e with e | e
        · exact .inl (by omega)
        · exact .inr e
theorem ok_tail3 {p : Array Nat} (hp : Pm n p) {m : Nat} (h1 : 1 ≤ m) (hm : m ≤ n) (hd : Down key p m) : Ok n key (kas_tail3 m n p) (fun r => Pm n r.2 ∧ 1 ≤ r.1 ∧ r.1 ≤ n ∧ Srtd key r.2 r.1) := by
  refine Ok.bind (Ok.mono (fun r ⟨a, b, c, _⟩ => ?_) (ok_asc (hp.rev 0 m) (n - m) m h1 (by omega) ?_))
  · intro i j hij hj
    have hs := hp.size
    rw [KK_rev (by omega), KK_rev (by omega), if_pos (by omega), if_pos (by omega)]
    exact hd _ _ (by omega) (by omega)
  · exact ⟨hp.rev 0 m, by show 1 ≤ r; omega, by show r ≤ n; omega, c⟩
theorem KK_rev_eq {p : Array Nat} {m q : Nat} (hm : m ≤ p.size) (he : ∀ i, m - (q + 1) ≤ i → i < m → KK key p i = KK key p (m - 1)) (k : Nat) : KK key (kas_rev p (m - (q + 1)) m) k = KK key p k := by
  rw [KK_rev hm]
  by_cases c : m - (q + 1) ≤ k ∧ k < m
  · rw [if_pos c, he k c.1 c.2, he _ (by omega) (by omega)]
  · rw [if_neg c]
theorem ok_desc : ∀ (f : Nat) {p : Array Nat} (m q : Nat), Pm n p → 1 ≤ m → m + f ≤ n → Down key p m → q + 1 ≤ m → (∀ i, m - (q + 1) ≤ i → i < m → KK key p i = KK key p (m - 1)) →
    Ok n key (kas_desc f p m q) (fun r => Pm n r.1 ∧ 1 ≤ r.2.1 ∧ r.2.1 ≤ n ∧ Down key r.1 r.2.1 ∧ r.2.2 + 1 ≤ r.2.1 ∧ ∀ i, r.2.1 - (r.2.2 + 1) ≤ i → i < r.2.1 → KK key r.1 i = KK key r.1 (r.2.1 - 1))
  | 0, p, m, q, hp, h1, hm, hd, hq, he => ⟨hp, h1, by show m ≤ n; omega, hd, hq, he⟩
  | f + 1, p, m, q, hp, h1, hm, hd, hq, he => by
    refine ⟨hp.lt (by omega), hp.lt (by omega), ?_⟩
    have hs := hp.size
    have one : ∀ (p' : Array Nat), (∀ k, KK key p' k = KK key p k) → KK key p m ≤ KK key p (m - 1) → Down key p' (m + 1) := fun p' hk c i j hij hj => by
      rw [hk, hk]
      by_cases hjm : j < m
      · exact hd i j hij hjm
      · have : j = m := by omega
        subst this
        by_cases hi : i = j
        · subst hi; exact Int.le_refl _
        · have := hd i (j - 1) (by omega) (by omega); omega
    by_cases c : key (p.getD m 0) < key (p.getD (m - 1) 0)
    · rw [decide_eq_true c]; dsimp only; rw [if_pos rfl]
      have c1 : KK key p m ≤ KK key p (m - 1) := by unfold KK; omega
      by_cases hq0 : q > 0
      · rw [if_pos hq0]
        exact ok_desc f (m + 1) 0 (hp.rev _ _) (by omega) (by omega) (one _ (KK_rev_eq (by omega) he) c1) (by omega) fun i a b => by congr 1; omega
      · rw [if_neg hq0]
        exact ok_desc f (m + 1) 0 hp (by omega) (by omega) (one _ (fun _ => rfl) c1) (by omega) fun i a b => by congr 1; omega
    · rw [decide_eq_false c]; dsimp only; rw [if_neg Bool.false_ne_true]
      refine ⟨hp.lt (by omega), hp.lt (by omega), ?_⟩
      by_cases d : key (p.getD (m - 1) 0) < key (p.getD m 0)
      · rw [decide_eq_true d]; dsimp only; rw [if_pos rfl]
        exact ⟨hp, h1, by show m ≤ n; omega, hd, hq, he⟩
      · rw [decide_eq_false d]; dsimp only; rw [if_neg Bool.false_ne_true]
        have e : KK key p m = KK key p (m - 1) := by unfold KK; omega
        refine ok_desc f (m + 1) (q + 1) hp (by omega) (by omega) (one _ (fun _ => rfl) (by omega)) (by omega) fun i a b => ?_
        rw [show m + 1 - 1 = m by omega]
        by_cases hi : i = m
        · subst hi; rfl
        · rw [e]; exact he i (by omega) (by omega)
theorem ok_descPart {p : Array Nat} (hp : Pm n p) {m : Nat} (hm : m + 1 ≤ n) (hd : Down key p (m + 1)) : Ok n key (kas_descPart m n p) (fun r => Pm n r.2 ∧ 1 ≤ r.1 ∧ r.1 ≤ n ∧ Srtd key r.2 r.1) := by
  refine Ok.bind (Ok.mono (fun r ⟨a, b, c, d, e, g⟩ => ?_) (ok_desc (n - (m + 1)) (m + 1) 0 hp (by omega) (by omega) hd (by omega) fun i x y => by congr 1; omega))
  have hs := a.size
  by_cases q : r.2.2 > 0
  · rw [if_pos q]
    exact ok_tail3 (a.rev _ _) b c fun i j x y => by rw [KK_rev_eq (by omega) g, KK_rev_eq (by omega) g]; exact d i j x y
  · rw [if_neg q]
    exact ok_tail3 a b c d
theorem ok_count {p : Array Nat} (hp : Pm n p) (h1 : 1 ≤ n) : Ok n key (kas_count n p) (fun r => Pm n r.2 ∧ 1 ≤ r.1 ∧ r.1 ≤ n ∧ Srtd key r.2 r.1) := by
  refine Ok.bind (Ok.mono (fun m ⟨a, b, c, d⟩ => ?_) (ok_asc hp (n - 1) 1 (Nat.le_refl _) (by omega) fun i j x y => by have : i = j := (by omega); subst this; exact Int.le_refl _))
  by_cases e : m = n
  · rw [if_pos (by simpa using e)]
    exact ⟨hp, a, by omega, c⟩
  · rw [if_neg (by simpa using e)]
    have lt : KK key p m < KK key p (m - 1) := by
      rcases d with d | d
      · omega
      · exact d
    have hs := hp.size
    by_cases g : m > 1
    · rw [if_pos g]
      refine ⟨hp.lt (by omega), hp.lt (by omega), ?_⟩
      by_cases z : key (p.getD 0 0) < key (p.getD (m - 1) 0)
      · rw [decide_eq_true z]; dsimp only; rw [if_pos rfl]
        exact ⟨hp, a, by show m ≤ n; omega, c⟩
      · rw [decide_eq_false z]; dsimp only; rw [if_neg Bool.false_ne_true]
        refine ok_descPart (hp.rev _ _) (by omega) ?_
        have z' : KK key p (m - 1) ≤ KK key p 0 := by unfold KK; omega
        have all : ∀ i, i < m → KK key p i = KK key p 0 := fun i hi => by
          have q1 := c 0 i (by omega) hi
          have q2 := c i (m - 1) (by omega) (by omega)
          omega
        intro i j hij hj
        rw [KK_rev (by omega), KK_rev (by omega)]
        by_cases hjm : j < m
        · rw [if_pos (by omega), if_pos (by omega)]
          have u1 := all (0 + m - 1 - j) (by omega)
          have u2 := all (0 + m - 1 - i) (by omega)
          omega
        · have : j = m := by omega
          subst this
          rw [if_neg (by omega)]
          by_cases hi : i < j
          · rw [if_pos (by omega)]
            have u1 := all (j - 1) (by omega)
            have u2 := all (0 + j - 1 - i) (by omega)
            omega
          · rw [if_neg (by omega)]
            have : i = j := by omega
            subst this; exact Int.le_refl _
    · rw [if_neg g]
      have m1 : m = 1 := by omega
      subst m1
      refine ok_descPart hp (by omega) fun i j hij hj => ?_
      by_cases hi : i = j
      · subst hi; exact Int.le_refl _
      · have i0 : i = 0 := by omega
        have j1 : j = 1 := by omega
        subst i0; subst j1
        exact Int.le_of_lt lt
theorem ok_place {p : Array Nat} (hp : Pm n p) {k : Nat} (hk : k < n) (hs : Srtd key p k) : ∀ (f l r : Nat), l ≤ r → r ≤ k → r - l ≤ f → (∀ i, i < l → KK key p i ≤ KK key p k) → (∀ i, r ≤ i → i < k → KK key p k < KK key p i) →
    Ok n key (kas_place p k f l r) (fun l => l ≤ k ∧ (∀ i, i < l → KK key p i ≤ KK key p k) ∧ ∀ i, l ≤ i → i < k → KK key p k < KK key p i)
  | 0, l, r, h1, h2, h3, lo, hi => ⟨by omega, lo, fun i a b => hi i (by omega) b⟩
  | f + 1, l, r, h1, h2, h3, lo, hi => by
    unfold kas_place
    by_cases c : l ≥ r
    · rw [if_pos c]
      exact ⟨by omega, lo, fun i a b => hi i (by omega) b⟩
    · rw [if_neg c]
      refine ⟨hp.lt hk, hp.lt (by omega), ?_⟩
      by_cases d : key (p.getD k 0) < key (p.getD ((l + r) / 2) 0)
      · rw [decide_eq_true d]; dsimp only; rw [if_pos rfl]
        refine ok_place hp hk hs f l ((l + r) / 2) (by omega) (by omega) (by omega) lo fun i a b => ?_
        have := hs ((l + r) / 2) i a b
        have d' : KK key p k < KK key p ((l + r) / 2) := d
        omega
      · rw [decide_eq_false d]; dsimp only; rw [if_neg Bool.false_ne_true]
        refine ok_place hp hk hs f ((l + r) / 2 + 1) r (by omega) h2 (by omega) (fun i a => ?_) hi
        have := hs i ((l + r) / 2) (by omega) (by omega)
        have d' : KK key p ((l + r) / 2) ≤ KK key p k := by unfold KK; omega
        omega
theorem ok_bin : ∀ (f : Nat) {p : Array Nat} (k : Nat), Pm n p → k + f = n → Srtd key p k → Ok n key (kas_bin f p k) (fun p => Pm n p ∧ Srtd key p n)
  | 0, p, k, hp, hk, hs => ⟨hp, by have : k = n := (by omega); rw [← this]; exact hs⟩
  | f + 1, p, k, hp, hk, hs => by
    refine Ok.bind (Ok.mono (fun l ⟨a, lo, hi⟩ => ?_) (ok_place hp (by omega) hs k 0 k (by omega) (Nat.le_refl _) (by omega) (fun i h => by omega) fun i h1 h2 => by omega))
    have hz := hp.size
    refine ok_bin f (k + 1) (hp.of (bubble_perm _ _ _)) (by omega) fun i j hij hj => ?_
    rw [KK_bub (by omega) (by omega), KK_bub (by omega) (by omega)]
    rw [show k - (k - l) = l by omega]
    by_cases i1 : i = l
    · rw [if_pos i1]
      by_cases j1 : j = l
      · rw [if_pos j1]; exact Int.le_refl _
      · rw [if_neg j1, if_pos (by omega)]
        exact Int.le_of_lt (hi (j - 1) (by omega) (by omega))
    · rw [if_neg i1]
      by_cases i2 : l < i ∧ i ≤ k
      · rw [if_pos i2, if_neg (by omega), if_pos (by omega)]
        exact hs (i - 1) (j - 1) (by omega) (by omega)
      · rw [if_neg i2]
        by_cases j1 : j = l
        · rw [if_pos j1]; exact lo i (by omega)
        · rw [if_neg j1]
          by_cases j2 : l < j ∧ j ≤ k
          · rw [if_pos j2]; exact hs i (j - 1) (by omega) (by omega)
          · rw [if_neg j2]; exact hs i j hij (by omega)
/-- the sort by questions: the places in some order, rising by the key -/
theorem ok_sort (h1 : 1 ≤ n) : Ok n key (kas_sort n) (fun p => Pm n p ∧ Srtd key p n) := by
  refine Ok.bind (Ok.mono (fun r ⟨a, b, c, d⟩ => ?_) (ok_count ⟨Array.Perm.refl _⟩ h1))
  by_cases e : r.1 < n
  · rw [if_pos e]
    refine ok_bin _ _ a (by omega) ?_
    rw [show max r.1 1 = r.1 by omega]
    exact d
  · rw [if_neg e]
    exact ⟨a, by have : r.1 = n := (by omega); rw [← this]; exact d⟩
end
end Srt

set_option maxHeartbeats 4100000
namespace Srt
open PySem PyProof.Rows PySem.Calls PySem.W
section
variable {prog : Program} {wo : World} {A : Around} {E : Value → Shared → Prop} {s : Shared}
/-- how the things of zs are asked for at a heap: their kind, and each two by the key -/
def Asks (prog : Program) (wo : World) (A : Around) (κ : SortKind) (zs : List Value) (key : Nat → Int) (s : Shared) : Prop :=
  (∀ (E : Value → Shared → Prop) (R : SortKind → Shared → Prop), R κ s → wpAny (model prog wo) A (keyKind' zs.toArray) R E s) ∧
  ∀ (i j : Nat) (C : Bool → Shared → Prop), i < zs.length → j < zs.length → C (decide (key i < key j)) s → kas_ask prog wo A κ zs i j C s
abbrev outOf (zs : List Value) (p : Array Nat) : Array Value := List.toArray (p.toList.map fun i => zs.getD i Value.none)
theorem out_id (zs : List Value) : outOf zs (List.range zs.length).toArray = zs.toArray := by
  unfold outOf
  congr 1
  apply List.ext_getElem?
  intro i
  by_cases h : i < zs.length
  · simp [h]
  · simp [h]
theorem list_sort_by {a : Addr} {zs : List Value} {n : Nat} {κ : SortKind} {key : Nat → Int} {P : PySem.Fin → Shared → Prop} (oa : s.heap.get? a = some (seqObj "list" zs.toArray n)) (h64 : zs.length < 64)
    (hk : 2 ≤ zs.length → ∀ h', (∀ b o, b ≠ a → s.heap.get? b = some o → h'.get? b = some o) → Asks prog wo A κ zs key { s with heap := h' })
    (h : ∀ p, Pm zs.length p → Srtd key p zs.length → P (.done (.ret .none)) { s with heap := sortedHeap s.heap a zs (outOf zs p) }) :
    wpAny (model prog wo) A (Builtin.«list.sort» ⟨[.ref a], []⟩) P E s := by
  rw [list_sort_plain]
  have la : a < s.heap.objs.size := Heap.lt_size oa
  refine wpAny_bind (listItems_at oa rfl ?_)
  refine wpAny_bind (listUpdate_at oa rfl ?_ (by rw [List.size_toArray, sizeLine_eq]; omega) (Nat.zero_le _))
  obtain ⟨ep, oa1⟩ : ∃ ep, (s.heap.update a (Obj.mapSeq fun _ => #[])).get? a = some (seqObj "list" #[] ep) := ⟨_, get?_update_seq oa (fun _ => #[])⟩
  refine wpAny_bind (seqEpoch_at oa1 rfl ?_)
  refine wpAny_bind (wpAny_newTuple ?_ (by show zs.length ≤ _; rw [sizeLine_eq]; omega))
  refine wpAny_bind (wpAny_newList (wpAny_holding ?_) (Nat.zero_le _))
  have oa6 : (((s.heap.update a (Obj.mapSeq fun _ => #[])).push (seqObj "tuple" zs.toArray 0)).push (seqObj "list" #[] 0)).get? a = some (seqObj "list" #[] ep) := by
    rw [Heap.get?_push_ne _ _ _ (by rw [size_push', Heap.size_update]; exact Nat.ne_of_lt (Nat.lt_succ_of_lt la)), Heap.get?_push_ne _ _ _ (by rw [Heap.size_update]; exact Nat.ne_of_lt la)]
    exact oa1
  show wpAny (model prog wo) A _ P E { s with heap := ((s.heap.update a (Obj.mapSeq fun _ => #[])).push (seqObj "tuple" zs.toArray 0)).push (seqObj "list" #[] 0) }
  dsimp only
  have lz : zs.toArray.size = zs.length := by simp
  by_cases g2 : zs.toArray.size < 2
  · rw [if_pos g2, if_pos g2]
    refine wpAny_bind (wpAny_pure ?_); rw [StateT.run_pure]; refine wpAny_bind (wpAny_pure ?_); dsimp only
    refine wpAny_bind (seqEpoch_at oa6 rfl ?_)
    refine wpAny_bind (listUpdate_at oa6 rfl ?_ (Nat.zero_le _) (by rw [Array.size_map]; show (pairsOf zs).size ≤ _; rw [pairsOf_size, sizeLine_eq]; omega))
    simp only [if_false, Bool.false_eq_true, bne_self_eq_false]
    have q := h (List.range zs.length).toArray ⟨Array.Perm.refl _⟩ (fun i j hij hj => by have : i = j := (by omega); subst this; exact Int.le_refl _)
    rw [out_id] at q
    refine wpAny_pure ?_
    have e : (arrOf (SortSt.mk' general' (zs.toArray.zip zs.toArray) #[] 7 none)).map (·.2) = zs.toArray := by
      show (zs.toArray.zip zs.toArray).map (·.2) = zs.toArray
      rw [Array.map_snd_zip]
      exact Nat.le_refl _
    rw [e]
    exact q
  · rw [if_neg g2, if_neg g2]
    have h2' : 2 ≤ zs.length := by omega
    obtain ⟨ak, ac⟩ := hk h2' (((s.heap.update a (Obj.mapSeq fun _ => #[])).push (seqObj "tuple" zs.toArray 0)).push (seqObj "list" #[] 0)) fun b o hb e => Heap.get?_push_of_some _ (Heap.get?_push_of_some _ (by rw [Heap.get?_update_ne _ _ _ _ hb]; exact e))
    refine wpAny_bind (ak _ _ ?_)
    have ask : (kas_sort zs.length).kasWp (kas_ask prog wo A κ zs) (fun p s' => s' = { s with heap := ((s.heap.update a (Obj.mapSeq fun _ => #[])).push (seqObj "tuple" zs.toArray 0)).push (seqObj "list" #[] 0) } ∧ Pm zs.length p ∧ Srtd key p zs.length)
        { s with heap := ((s.heap.update a (Obj.mapSeq fun _ => #[])).push (seqObj "tuple" zs.toArray 0)).push (seqObj "list" #[] 0) } :=
      Ok.wp (n := zs.length) (key := key) ac (fun p hp => ⟨rfl, hp⟩) (ok_sort (by omega))
    rw [kas_ask_eq] at ask
    have est : SortSt.mk' κ (zs.toArray.zip zs.toArray) #[] 7 none = kas_st κ (pairsOf zs) (List.toArray (List.range zs.length)) := by
      have e := kas_range (pairsOf zs)
      rw [pairsOf_size] at e
      show SortSt.mk' κ (pairsOf zs) #[] 7 none = SortSt.mk' κ ((List.toArray (List.range zs.length)).map (kas_item (pairsOf zs))) #[] 7 none
      rw [e]
    have rn := kas_runs (E := E) (Q := fun _ st' s' => ∃ p : Array Nat, p.size = zs.length ∧ arrOf st' = p.map (kas_item (pairsOf zs)) ∧ failedOf st' = none ∧ (s' = { s with heap := ((s.heap.update a (Obj.mapSeq fun _ => #[])).push (seqObj "tuple" zs.toArray 0)).push (seqObj "list" #[] 0) } ∧ Pm zs.length p ∧ Srtd key p zs.length))
      h2' h64 (fun p' st' s' a1 a2 a3 a4 => ⟨p', a1, a2, a3, a4⟩) ask
    rw [← est] at rn
    refine wpAny_bind (wpAny_mono rn ?_ fun _ _ e => e)
    rintro ⟨⟨⟩, st'⟩ s' ⟨p, hp, ra, hf, rfl, pm, sr⟩
    dsimp only
    have hout : (arrOf st').map (·.2) = outOf zs p := by
      apply Array.toList_inj.mp
      rw [ra, Array.map_map, Array.toList_map]
      exact List.map_congr_left fun i _ => by show (kas_item (pairsOf zs) i).2 = _; rw [kas_item_eq]
    have hso : (outOf zs p).size = zs.length := by rw [List.size_toArray, List.length_map, Array.length_toList, hp]
    rw [hout]
    refine wpAny_bind (seqEpoch_at oa6 rfl ?_)
    refine wpAny_bind (listUpdate_at oa6 rfl ?_ (Nat.zero_le _) (Nat.le_trans (Nat.le_of_eq hso) (by rw [sizeLine_eq]; omega)))
    rw [hf]
    simp only [if_false, Bool.false_eq_true, bne_self_eq_false]
    exact wpAny_pure (h p pm sr)
end
end Srt

set_option maxHeartbeats 4100000
namespace Srt
open PySem PyProof.Rows PySem.Calls PySem.W
/-! ### lists of ints by their order: a rank -/
theorem countP_le {α : Type} {p q : α → Bool} (h : ∀ x, p x = true → q x = true) (l : List α) : l.countP p ≤ l.countP q := by
  induction l with
  | nil => exact Nat.le_refl _
  | cons a r ih =>
    rw [List.countP_cons, List.countP_cons]
    by_cases c : p a = true
    · rw [if_pos c, if_pos (h a c)]; omega
    · rw [if_neg c]; omega
theorem countP_lt {α : Type} {p q : α → Bool} (h : ∀ x, p x = true → q x = true) {x : α} : ∀ {l : List α}, x ∈ l → p x = false → q x = true → l.countP p < l.countP q
  | a :: r, hx, h1, h2 => by
    rw [List.countP_cons, List.countP_cons]
    have le := countP_le h r
    rcases List.mem_cons.mp hx with rfl | hx
    · rw [if_neg (by rw [h1]; exact Bool.false_ne_true), if_pos h2]; omega
    · have ih := countP_lt h hx h1 h2
      by_cases c : p a = true
      · rw [if_pos c, if_pos (h a c)]; omega
      · rw [if_neg c]; omega
def rank (ls : List (List Int)) (i : Nat) : Int := (ls.countP fun z => decide (z < ls.getD i []) : Nat)
theorem lt_le {x y z : List Int} (h : z < y) (h2 : ¬ x < y) : z < x := by
  by_cases c : z < x
  · exact c
  · exact absurd (List.lt_of_le_of_lt (List.not_lt.mp c) h) h2
theorem rank_lt {ls : List (List Int)} {i j : Nat} (hi : i < ls.length) : decide (rank ls i < rank ls j) = decide (ls.getD i [] < ls.getD j []) := by
  have hm : ls.getD i [] ∈ ls := by
    rw [List.getD_eq_getElem?_getD, List.getElem?_eq_getElem hi]; exact List.getElem_mem hi
  unfold rank
  by_cases c : ls.getD i [] < ls.getD j []
  · rw [decide_eq_true c]
    refine decide_eq_true (Int.ofNat_lt.mpr (countP_lt (fun z hz => ?_) hm ?_ ?_))
    · exact decide_eq_true (List.lt_trans (of_decide_eq_true hz) c)
    · exact decide_eq_false (List.lt_irrefl _)
    · exact decide_eq_true c
  · rw [decide_eq_false c]
    refine decide_eq_false fun z => ?_
    have := countP_le (p := fun z => decide (z < ls.getD j [])) (q := fun z => decide (z < ls.getD i [])) (fun z hz => decide_eq_true (lt_le (of_decide_eq_true hz) c)) ls
    omega
/-! ### tuples of ints -/
section
variable {prog : Program} {w : World} {A : Around} {E : Value → Shared → Prop} {s : Shared} {Q : Bool → Shared → Prop}
theorem kat_ints : ∀ {xs ys : List Value} {ns ms : List Int} (i : Nat), IntsAre xs ns → IntsAre ys ms → Q (decide (ns < ms)) s → KatLex prog w A true (decide (xs.length < ys.length)) Q (xs.zip ys) i s
  | _, _, _, _, i, .nil, .nil, h => by
    refine kat_nil ?_
    exact h
  | _, _, _, _, i, .nil, .cons (vs := ys) (ns := ms) m u y, h => by
    refine kat_nil ?_
    have e : decide (([] : List Int) < m :: ms) = true := decide_eq_true (List.Lex.nil)
    rw [e] at h
    have e2 : decide (([] : List Value).length < (Value.int m u :: ys).length) = true := by simp
    rw [e2]; exact h
  | _, _, _, _, i, .cons (vs := xs) (ns := ns) n t x, .nil, h => by
    refine kat_nil ?_
    have e : decide (n :: ns < ([] : List Int)) = false := decide_eq_false (List.not_lt_nil _)
    rw [e] at h
    have e2 : decide ((Value.int n t :: xs).length < ([] : List Value).length) = false := by simp
    rw [e2]; exact h
  | _, _, _, _, i, .cons (vs := xs) (ns := ns) n t x, .cons (vs := ys) (ns := ms) m u y, h => by
    have ef : decide ((Value.int n t :: xs).length < (Value.int m u :: ys).length) = decide (xs.length < ys.length) := by
      simp only [List.length_cons, Nat.add_lt_add_iff_right]
    rw [ef]
    refine kat_cons (wpAny_eqBool_int ?_)
    by_cases c : n = m
    · subst c
      rw [beq_self_eq_true]
      refine kat_yes (kat_ints (i + 1) x y ?_)
      have e : decide (n :: ns < n :: ms) = decide (ns < ms) := by
        have : (n :: ns < n :: ms) ↔ ns < ms := by rw [List.cons_lt_cons_iff]; simp
        simp only [this]
      rw [e] at h; exact h
    · rw [beq_eq_false_iff_ne.mpr c]
      refine kat_no ?_
      have e : decide (n :: ns < m :: ms) = decide (n < m) := by
        have : (n :: ns < m :: ms) ↔ n < m := by rw [List.cons_lt_cons_iff]; simp [c]
        simp only [this]
      rw [e] at h
      cases z : (true && i == 0) with
      | true => exact oneLt_int h
      | false => exact kat_one _ _ (lt_int h)
/-- the tuples at a heap -/
structure TupI (h : Heap) (v : Value) (ns : List Int) : Prop where
  at' : ∃ a o xs n, v = .ref a ∧ h.get? a = some o ∧ o.cls = .type "tuple" ∧ o.data = .seq xs n ∧ IntsAre xs.toList ns
  ne : ns ≠ []
inductive TupsI (h : Heap) : List Value → List (List Int) → Prop
  | nil : TupsI h [] []
  | cons {v ns vs ls} : TupI h v ns → TupsI h vs ls → TupsI h (v :: vs) (ns :: ls)
theorem TupsI.keep {h h' : Heap} (k : ∀ b o, h.get? b = some o → h'.get? b = some o) : ∀ {vs ls}, TupsI h vs ls → TupsI h' vs ls
  | _, _, .nil => .nil
  | _, _, .cons ⟨⟨a, o, xs, n, e, ho, r⟩, ne⟩ t => .cons ⟨⟨a, o, xs, n, e, k _ _ ho, r⟩, ne⟩ (TupsI.keep k t)
theorem TupsI.len {h : Heap} : ∀ {vs ls}, TupsI h vs ls → vs.length = ls.length
  | _, _, .nil => rfl
  | _, _, .cons _ t => by rw [List.length_cons, List.length_cons, t.len]
theorem TupsI.get {h : Heap} : ∀ {vs ls}, TupsI h vs ls → ∀ {i}, i < vs.length → TupI h (vs.getD i .none) (ls.getD i [])
  | _, _, .cons a t, 0, _ => a
  | _, _, .cons a t, i + 1, hi => by
    have := t.get (i := i) (by simpa using hi)
    simpa using this
theorem TupsI.kat {h : Heap} : ∀ {vs ls}, TupsI h vs ls → ∃ fs, KatTups h vs fs ∧ fs.length = vs.length ∧ ∀ v ∈ fs, ∃ n t, v = Value.int n t
  | _, _, .nil => ⟨[], KatTups.nil, rfl, fun v hv => absurd hv List.not_mem_nil⟩
  | _, _, .cons (ns := ns) ⟨⟨a, o, xs, n, e, ho, hc, hd, hi⟩, ne⟩ t => by
    obtain ⟨fs, k, l, q⟩ := t.kat
    subst e
    obtain ⟨xl⟩ := xs
    have hi : IntsAre xl ns := hi
    cases hi with
    | nil => exact absurd rfl ne
    | cons m u r =>
      refine ⟨.int m u :: fs, KatTups.cons ho hc hd rfl k, by rw [List.length_cons, List.length_cons, l], fun v hv => ?_⟩
      rcases List.mem_cons.mp hv with rfl | hv
      · exact ⟨m, u, rfl⟩
      · exact q v hv
theorem asks_tups {vs : List Value} {ls : List (List Int)} (h : TupsI s.heap vs ls) (h2 : 2 ≤ vs.length) : Asks prog w A (tuples' true) vs (rank ls) s := by
  refine ⟨fun E Q q => ?_, fun i j C hi hj q => ?_⟩
  · obtain ⟨fs, k, l, ty⟩ := h.kat
    refine kat_kind (T := .type "int") k (by omega) (fun v hv => ?_) rfl q
    obtain ⟨n, t, rfl⟩ := ty v hv
    exact Looks.of_pure rfl
  · obtain ⟨⟨a, o, xs, n, e1, ho, hc, hd, hx⟩, _⟩ := h.get hi
    obtain ⟨⟨a', o', ys, n', e2, ho', hc', hd', hy⟩, _⟩ := h.get hj
    unfold kas_ask
    rw [e1, e2]
    refine kat_lt ho hd ho' hd' ?_
    rw [rank_lt (by rw [← h.len]; exact hi)] at q
    exact kat_ints 0 hx hy q
end
end Srt

set_option maxHeartbeats 4100000
namespace L2
open PySem PySem.Spec PyProof.Rows Bg Srt
def TupV (K : PySem.W.Frag) (H : Hp) (v : V) (ns : List Int) : Prop := ∃ p, v = .ref p ∧ SqT K H p (ns.map V.int)
theorem ints_of : ∀ {ns : List Int} {us : List Value}, Vals (ns.map V.int) us → IntsAre us ns
  | [], _, .nil => .nil
  | n :: ns, _, .cons r t => by
    obtain ⟨k, rfl⟩ := r
    exact .cons n k (ints_of t)
section
variable {X : Cx} {K : PySem.W.Frag}
theorem tups_of {pins : List (Addr × Obj)} {σ : St} {H : Hp} {s : Shared} (I : Inv X pins σ H s) : ∀ {vs : List V} {us : List Value} {ls : List (List Int)}, Vals vs us → Paired (TupV X.K H) vs ls → (∀ ns ∈ ls, ns ≠ []) → TupsI s.heap us ls
  | _, _, _, .nil, p, _ => by
    cases p
    exact .nil
  | _, _, _, .cons r t, p, ne => by
    cases p with
    | cons a b =>
      obtain ⟨pt, rfl, hT⟩ := a
      obtain ⟨its, ri, ⟨o, ho, hc, n, hd⟩, _⟩ := I.tuple hT
      cases r
      exact .cons ⟨⟨pt, o, its.toArray, n, rfl, ho, hc, hd, by simpa using ints_of ri⟩, ne _ List.mem_cons_self⟩ (tups_of I t b fun ns h => ne ns (List.mem_cons_of_mem _ h))
theorem getD_vals : ∀ {vs : List V} {us : List Value}, Vals vs us → ∀ i, i < vs.length → RelV (vs.getD i .non) (us.getD i .none)
  | _, _, .cons r t, 0, _ => r
  | _, _, .cons r t, i + 1, hi => by
    have := getD_vals t i (by simpa using hi)
    simpa using this
theorem vals_map {vs : List V} {us : List Value} (r : Vals vs us) : ∀ (q : List Nat), (∀ i ∈ q, i < vs.length) → Vals (q.map fun i => vs.getD i .non) (q.map fun i => us.getD i .none)
  | [], _ => .nil
  | i :: q, h => .cons (getD_vals r i (h i List.mem_cons_self)) (vals_map r q fun j hj => h j (List.mem_cons_of_mem _ hj))
end
end L2

set_option maxHeartbeats 4100000
namespace Srt
open PySem PySem.W PySem.Calls PySem.Spec PyProof.Rows PySem.MeetsSeq
end Srt

namespace L2
open PySem PySem.Spec PyProof.Rows Srt
section
variable {X : Cx} {K : PySem.W.Frag}
end
end L2

set_option maxHeartbeats 4100000
namespace L2
open PySem PySem.Spec PyProof.Rows
section
variable {X : Cx} {K : PySem.W.Frag}
end
end L2

namespace L2
open PySem PySem.Spec PyProof.Rows
section
variable {X : Cx} {K : PySem.W.Frag}
end
end L2

set_option maxHeartbeats 4100000
namespace L2
open PySem PySem.Spec PyProof.Rows

section
variable {prog : Program} {w : World} {A : Around} {R : Result → Shared → Prop} {I : Addr} {fp wr : List Addr} {n : Nat} {P : Nat → Value → Prop} {St : Nat → Heap → Prop} {kw : List (Str × Value)}
end
section
variable {prog : Program} {w : World} {A : Around} {E : Value → Shared → Prop} {s : Shared} {xs : Array (Int × Tok)} {l : Addr}
end
section
variable {X : Cx} {K : PySem.W.Frag}
end
end L2

namespace L2
open PySem PySem.Spec PySem.Calls PyProof.Rows
section
variable {X : Cx}
/-- l.index(v) of whole numbers, where v is there -/
def rIdxN : V → List V → Hp → VK → Prop := fun x vs H Q => ∃ (l : Addr) (ns : List Int) (v : Int) (j : Nat), x = .ref l ∧ vs = [.int v] ∧ H l = some (.lst (List.map V.int ns)) ∧ ns[j]? = some v ∧ (∀ m : Nat, m < j → ns[m]? ≠ some v) ∧ ns.length ≤ 1000 ∧ Q (.int (j : Int)) H
def isV (v : Int) : Value → Bool
  | .int a _ => a == v
  | _ => false
theorem mt_indexN : MtM X "list.index" rIdxN := by
  intro pins s σ H x vs w us Q I rx rv h
  obtain ⟨l, ns, v, j, rfl, rfl, hH, hj, hno, hz, q⟩ := h
  cases rx
  obtain ⟨u, rfl, ru⟩ := vals1 rv
  obtain ⟨t, rfl⟩ := (show ∃ t, u = Value.int v t from ru)
  obtain ⟨z, its, n, r, hl, e⟩ := I.lstM hH
  have hi := ints_of r
  have len := hi.length
  have at_ : ∀ m (hm : m < its.length), ∃ k tk, its[m] = Value.int k tk ∧ ns[m]? = some k := fun m hm => by
    have hm2 : m < ns.length := by omega
    obtain ⟨tk, e⟩ := hi.get m ns[m] (List.getElem?_eq_getElem hm2)
    rw [List.getElem?_eq_getElem hm] at e
    injection e with e
    exact ⟨ns[m], tk, e, List.getElem?_eq_getElem hm2⟩
  have jl : j < its.length := by have := (List.getElem?_eq_some_iff.mp hj).1; omega
  refine call_meets F.slot_list_index ⟨_, e, rfl⟩ F.entry_list_index (F.args_list_index_2 _ _) (MeetsSeq.list_index l its.toArray n (.int v t) (isV v) (fun y hy => ?_) j (by simpa using jl) (by omega) ?_ fun m hm hmj => ?_) ⟨e, ?_⟩
  · obtain ⟨m, hm, em⟩ := List.getElem_of_mem (show y ∈ its by simpa using hy)
    obtain ⟨k, tk, e1, _⟩ := at_ m hm
    rw [← em, e1]
    exact MeetsSeq.EqGives.int k v tk t
  · obtain ⟨k, tk, e1, e2⟩ := at_ j jl
    rw [hj] at e2
    injection e2 with e2
    simp only [List.getElem_toArray]
    rw [e1, ← e2]
    exact beq_self_eq_true v
  · have hm' : m < its.length := by simpa using hm
    obtain ⟨k, tk, e1, e2⟩ := at_ m hm'
    simp only [List.getElem_toArray]
    rw [e1]
    show (k == v) = false
    have : k ≠ v := fun z => hno m hmj (by rw [e2, z])
    simpa using this
  · exact ⟨.int j, H, I.tok _, ⟨_, rfl⟩, q⟩
end
end L2

namespace L2
open PySem PySem.Spec PyProof.Rows
section
variable {X : Cx}
end
end L2

namespace L2
open PySem PySem.Spec PyProof.Rows
end L2

set_option maxHeartbeats 1000000
namespace Sm
open PySem

def BelowOk (xs : Array Nat) (j k : Nat) : Prop := k ≤ xs.size ∧ ∀ i (h : i < xs.size), xs[i] < j ↔ i < k

theorem up_lt {xs : Array Nat} (h : xs.toList.Pairwise (· < ·)) {i k : Nat} (hi : i < xs.size) (hk : k < xs.size) (ik : i < k) : xs[i] < xs[k] := by
  have := List.pairwise_iff_getElem.mp h i k (by simpa using hi) (by simpa using hk) ik
  simpa using this

theorem go_ok {xs : Array Nat} {j : Nat} (h : xs.toList.Pairwise (· < ·)) : ∀ (fuel lo hi : Nat), hi - lo ≤ fuel → lo ≤ hi → hi ≤ xs.size →
    (∀ i (z : i < xs.size), i < lo → xs[i] < j) → (∀ i (z : i < xs.size), hi ≤ i → j ≤ xs[i]) → BelowOk xs j (SetTable.below.go xs j fuel lo hi) := by
  intro fuel
  induction fuel with
  | zero =>
    intro lo hi a b c d e
    unfold SetTable.below.go
    have : lo = hi := by omega
    subst this
    exact ⟨c, fun i z => ⟨fun q => by
      rcases Nat.lt_or_ge i lo with g | g
      · exact g
      · have := e i z g
        omega, fun q => d i z q⟩⟩
  | succ f ih =>
    intro lo hi a b c d e
    unfold SetTable.below.go
    by_cases q : lo < hi
    · rw [if_pos q]
      dsimp only
      have m1 : lo ≤ (lo + hi) / 2 := by omega
      have m2 : (lo + hi) / 2 < hi := by omega
      have m3 : (lo + hi) / 2 < xs.size := by omega
      have ge : xs.getD ((lo + hi) / 2) j = xs[(lo + hi) / 2] := by simp [Array.getD, m3]
      rw [ge]
      by_cases r : xs[(lo + hi) / 2] < j
      · rw [if_pos r]
        refine ih _ _ (by omega) (by omega) c (fun i z hi' => ?_) e
        rcases Nat.lt_or_ge i ((lo + hi) / 2) with g | g
        · have := up_lt h z m3 g
          omega
        · have : i = (lo + hi) / 2 := by omega
          subst this
          exact r
      · rw [if_neg r]
        refine ih _ _ (by omega) (by omega) (by omega) d (fun i z hi' => ?_)
        rcases Nat.lt_or_ge ((lo + hi) / 2) i with g | g
        · have := up_lt h m3 z g
          omega
        · have : i = (lo + hi) / 2 := by omega
          subst this
          omega
    · rw [if_neg q]
      have : lo = hi := by omega
      subst this
      exact ⟨c, fun i z => ⟨fun q => by
        rcases Nat.lt_or_ge i lo with g | g
        · exact g
        · have := e i z g
          omega, fun q => d i z q⟩⟩

theorem below_ok {xs : Array Nat} (h : xs.toList.Pairwise (· < ·)) (j : Nat) : BelowOk xs j (SetTable.below xs j) :=
  go_ok h _ _ _ (by omega) (Nat.zero_le _) (Nat.le_refl _) (fun i z q => absurd q (Nat.not_lt_zero _)) (fun i z q => absurd z (by omega))

theorem below_at {xs : Array Nat} (h : xs.toList.Pairwise (· < ·)) {k : Nat} (hk : k < xs.size) : SetTable.below xs (xs[k]) = k := by
  obtain ⟨a, b⟩ := below_ok h xs[k]
  rcases Nat.lt_trichotomy (SetTable.below xs xs[k]) k with g | g | g
  · have c := (b (SetTable.below xs xs[k]) (by omega)).mp (up_lt h (by omega) hk g)
    omega
  · exact g
  · have c := (b k hk).mpr g
    omega

theorem below_zero {xs : Array Nat} (h : xs.toList.Pairwise (· < ·)) : SetTable.below xs 0 = 0 := by
  obtain ⟨a, b⟩ := below_ok h 0
  rcases Nat.eq_zero_or_pos (SetTable.below xs 0) with g | g
  · exact g
  · have := (b 0 (by omega)).mpr g
    omega

theorem below_next {xs : Array Nat} (h : xs.toList.Pairwise (· < ·)) {k : Nat} (hk : k < xs.size) : SetTable.below xs (xs[k] + 1) = k + 1 := by
  obtain ⟨a, b⟩ := below_ok h (xs[k] + 1)
  have c := (b k hk).mp (by omega)
  rcases Nat.lt_or_ge (k + 1) (SetTable.below xs (xs[k] + 1)) with g | g
  · have e := (b (k + 1) (by omega)).mpr g
    have := up_lt h hk (show k + 1 < xs.size by omega) (Nat.lt_succ_self _)
    omega
  · omega

theorem has_nil (j : Nat) : SetTable.has #[] j = false := by
  unfold SetTable.has
  simp

theorem slot_empty {t : SetTable} (dm : t.dummies = #[]) {j : Nat} (h : j ∉ t.place.toList) : t.slot j = .empty := by
  unfold SetTable.slot
  have e : (t.place[SetTable.below t.place j]? == some j) = false := by
    rw [beq_eq_false_iff_ne]
    intro c
    exact h (by simpa using Array.mem_of_getElem? c)
  dsimp only
  rw [e, dm, has_nil]
  rfl
theorem slot_live {t : SetTable} (up : t.place.toList.Pairwise (· < ·)) {j : Nat} (h : j ∈ t.place.toList) : ∃ i, t.slot j = .live i := by
  obtain ⟨k, hk, e⟩ := List.getElem_of_mem h
  have hk' : k < t.place.size := by simpa using hk
  have e' : t.place[k] = j := by simpa using e
  unfold SetTable.slot
  have q : SetTable.below t.place j = k := by rw [← e']; exact below_at up hk'
  dsimp only
  rw [q]
  have : (t.place[k]? == some j) = true := by simp [hk', e']
  rw [this]
  exact ⟨k, rfl⟩

/-- the going on of a search, by the mask alone -/
def adv (mask : Nat) (p : SetTable.Probe) : SetTable.Probe :=
  if 0 < p.more then { p with more := p.more - 1, j := p.j + 1 } else
  { p with j := (SetTable.leap mask p.i p.perturb).1, more := SetTable.runEnd mask (SetTable.leap mask p.i p.perturb).1 - (SetTable.leap mask p.i p.perturb).1, i := (SetTable.leap mask p.i p.perturb).1, perturb := (SetTable.leap mask p.i p.perturb).2 }
theorem adv_eq (t : SetTable) (p : SetTable.Probe) : t.advance p = adv t.mask p := by
  unfold SetTable.advance adv
  rfl
def nth (mask : Nat) (p : SetTable.Probe) : Nat → SetTable.Probe
  | 0 => p
  | k + 1 => nth mask (adv mask p) k
theorem adv_dummy (m : Nat) (p : SetTable.Probe) : (adv m p).dummy = p.dummy := by
  unfold adv
  split <;> rfl
theorem go_finds {t : SetTable} (dm : t.dummies = #[]) (up : t.place.toList.Pairwise (· < ·)) (h : Int) : ∀ (k fuel : Nat) (p : SetTable.Probe), k < fuel → p.dummy = none → (nth t.mask p k).j ∉ t.place.toList →
    ∃ j, j ∉ t.place.toList ∧ SetTable.probe.go t (fun _ => h + 1) h fuel p = some (.empty j none) := by
  intro k
  induction k with
  | zero =>
    intro fuel p hf hd hn
    obtain ⟨f, rfl⟩ : ∃ f, fuel = f + 1 := ⟨fuel - 1, by omega⟩
    unfold SetTable.probe.go
    have hn' : p.j ∉ t.place.toList := hn
    refine ⟨p.j, hn', ?_⟩
    rw [slot_empty dm hn', hd]
  | succ k ih =>
    intro fuel p hf hd hn
    obtain ⟨f, rfl⟩ : ∃ f, fuel = f + 1 := ⟨fuel - 1, by omega⟩
    unfold SetTable.probe.go
    by_cases c : p.j ∈ t.place.toList
    · obtain ⟨i, e⟩ := slot_live up c
      rw [e]
      dsimp only
      have : (h + 1 == h) = false := by rw [beq_eq_false_iff_ne]; omega
      rw [this]
      rw [adv_eq]
      exact ih f (adv t.mask p) (by omega) (by rw [adv_dummy]; exact hd) hn
    · rw [slot_empty dm c, hd]
      exact ⟨p.j, c, rfl⟩
def start7 (v : Nat) : SetTable.Probe := { j := v % 8, more := 0, i := v % 8, perturb := v, dummy := none }
theorem seven : ∀ v, v < 16 → ∀ j, j < 8 → ∃ k, k < 16 ∧ (nth 7 (start7 v) k).j = j := by decide +kernel
theorem bits_of {v : Nat} (h : v < 16) : SetTable.bits (v : Int) = v := by
  unfold SetTable.bits
  omega
theorem free_of {t : SetTable} (dm : t.dummies = #[]) (up : t.place.toList.Pairwise (· < ·)) {v k : Nat} (hk : k < 10 * SetTable.turns t.mask) (hn : (nth t.mask (t.probeStart (v : Int)) k).j ∉ t.place.toList) :
    ∃ j, j ∉ t.place.toList ∧ t.freeSlot (v : Int) = some (j, false) := by
  obtain ⟨j, hj, e⟩ := go_finds dm up (v : Int) k (10 * SetTable.turns t.mask) (t.probeStart (v : Int)) hk rfl hn
  refine ⟨j, hj, ?_⟩
  unfold SetTable.freeSlot SetTable.probe
  rw [e]
  rfl
theorem len_le : ∀ (l m : List Nat), l.Nodup → (∀ x ∈ l, x ∈ m) → l.length ≤ m.length
  | [], _, _, _ => Nat.zero_le _
  | a :: r, m, nd, h => by
    have am : a ∈ m := h a List.mem_cons_self
    obtain ⟨n1, n2⟩ := List.nodup_cons.mp nd
    have q := len_le r (m.erase a) n2 fun x hx => (List.mem_erase_of_ne (fun e => n1 (by rw [← e]; exact hx))).mpr (h x (List.mem_cons_of_mem _ hx))
    rw [List.length_erase_of_mem am] at q
    have := List.length_pos_of_mem am
    rw [List.length_cons]
    omega
theorem pigeon {l : List Nat} (h : l.length ≤ 4) : ∃ j, j < 8 ∧ j ∉ l := by
  apply Classical.byContradiction
  intro c
  have q : ∀ j, j < 8 → j ∈ l := fun j hj => Classical.byContradiction fun d => c ⟨j, hj, d⟩
  have := len_le (List.range 8) l List.nodup_range (fun j hj => q j (List.mem_range.mp hj))
  rw [List.length_range] at this
  omega
theorem own_free {t : SetTable} (dm : t.dummies = #[]) {v : Nat} (hv : v < 16) (hm : 15 ≤ t.mask) (hn : v ∉ t.place.toList) : t.freeSlot (v : Int) = some (v, false) := by
  unfold SetTable.freeSlot SetTable.probe
  have e : (t.probeStart (v : Int)).j = v := by
    unfold SetTable.probeStart
    dsimp only
    rw [bits_of hv]
    exact Nat.mod_eq_of_lt (by omega)
  obtain ⟨f, hf⟩ : ∃ f, 10 * SetTable.turns t.mask = f + 1 := ⟨10 * SetTable.turns t.mask - 1, by unfold SetTable.turns; omega⟩
  rw [hf]
  unfold SetTable.probe.go
  rw [e, slot_empty dm hn]
  rfl

def Es (es : Array (Int × Value)) (L : List Nat) : Prop := Paired (fun e v => e.1 = ((v : Nat) : Int) ∧ ∃ tk, e.2 = Value.int ((v : Nat) : Int) tk) es.toList L
structure Tb (B : Bool) (t : SetTable) (L : List Nat) : Prop where
  dm : t.dummies = #[]
  pl : t.plain = true
  led : t.led = !B
  up : t.place.toList.Pairwise (· < ·)
  sz : t.place.size = L.length
  nd : L.Nodup
  lt : ∀ v ∈ L, v < 16
  sh : (t.mask = 7 ∧ L.length ≤ 4) ∨ (15 ≤ t.mask ∧ t.place.toList = L ∧ L.length * 5 < t.mask * 3)

theorem ins_up {xs : Array Nat} (up : xs.toList.Pairwise (· < ·)) {j : Nat} (h : j ∉ xs.toList) : (SetTable.insertAt xs (SetTable.below xs j) j).toList.Pairwise (· < ·) := by
  obtain ⟨a, b⟩ := below_ok up j
  rw [SetTable.toList_insertAt]
  have z : ∀ i (hi : i < xs.toList.length), xs.toList[i] < j ↔ i < SetTable.below xs j := fun i hi => by
    have := b i (by simpa using hi)
    simpa using this
  rw [List.pairwise_append]
  refine ⟨up.sublist (List.take_sublist _ _), ?_, ?_⟩
  · rw [List.pairwise_cons]
    refine ⟨fun y hy => ?_, up.sublist (List.drop_sublist _ _)⟩
    obtain ⟨i, hi, e⟩ := List.getElem_of_mem hy
    rw [List.getElem_drop] at e
    have hl : SetTable.below xs j + i < xs.toList.length := by rw [List.length_drop] at hi; omega
    have q := z _ hl
    rw [e] at q
    have ne : y ≠ j := fun c => h (by rw [← c, ← e]; exact List.getElem_mem hl)
    rcases Nat.lt_or_ge y j with g | g
    · have := q.mp g
      omega
    · omega
  · intro x hx y hy
    obtain ⟨i, hi, e⟩ := List.getElem_of_mem hx
    rw [List.getElem_take] at e
    have hl : i < xs.toList.length := by rw [List.length_take] at hi; omega
    have hb : i < SetTable.below xs j := by rw [List.length_take] at hi; omega
    have x1 : x < j := by rw [← e]; exact (z i hl).mpr hb
    rcases List.mem_cons.mp hy with rfl | hy
    · exact x1
    · obtain ⟨k, hk, e2⟩ := List.getElem_of_mem hy
      rw [List.getElem_drop] at e2
      have hl2 : SetTable.below xs j + k < xs.toList.length := by rw [List.length_drop] at hk; omega
      have q := z _ hl2
      rw [e2] at q
      rcases Nat.lt_or_ge y j with g | g
      · have := q.mp g
        omega
      · omega

theorem Es.len {es : Array (Int × Value)} {L : List Nat} (h : Es es L) : es.size = L.length := by
  have := Paired.length h
  simpa using this
theorem paired_take {α β : Type} {R : α → β → Prop} : ∀ {xs : List α} {ys : List β} (n : Nat), Paired R xs ys → Paired R (xs.take n) (ys.take n)
  | _, _, 0, _ => .nil
  | _, _, _ + 1, .nil => .nil
  | _, _, n + 1, .cons r t => .cons r (paired_take n t)
theorem paired_drop {α β : Type} {R : α → β → Prop} : ∀ {xs : List α} {ys : List β} (n : Nat), Paired R xs ys → Paired R (xs.drop n) (ys.drop n)
  | _, _, 0, r => r
  | _, _, _ + 1, .nil => .nil
  | _, _, n + 1, .cons _ t => paired_drop n t
theorem paired_app {α β : Type} {R : α → β → Prop} : ∀ {xs xs' : List α} {ys ys' : List β}, Paired R xs ys → Paired R xs' ys' → Paired R (xs ++ xs') (ys ++ ys')
  | _, _, _, _, .nil, s => s
  | _, _, _, _, .cons r t, s => .cons r (paired_app t s)
theorem paired_get {α β : Type} {R : α → β → Prop} : ∀ {xs : List α} {ys : List β}, Paired R xs ys → ∀ (i : Nat) (h : i < ys.length), ∃ x, xs[i]? = some x ∧ R x ys[i]
  | _, _, .nil, i, h => by simp at h
  | _, _, .cons r t, 0, h => ⟨_, rfl, r⟩
  | _, _, .cons r t, i + 1, h => by
    obtain ⟨x, e, q⟩ := paired_get t i (by simpa using h)
    exact ⟨x, by simpa using e, by simpa using q⟩

/-- one more laid -/
theorem lay_ok {B : Bool} {t : SetTable} {L : List Nat} {es : Array (Int × Value)} {v : Nat} {x : Value} (T : Tb B t L) (hE : Es es L) (hv : v < 16) (hn : v ∉ L) (hx : ∃ tk, x = Value.int ((v : Nat) : Int) tk) :
    ∃ t1 es1 p, layNew t es ((v : Nat) : Int) x = (es1, t1, false, false) ∧ Es es1 (L.take p ++ v :: L.drop p) ∧ t1.dummies = #[] ∧ t1.plain = true ∧ (t1.led = !B) ∧ t1.mask = t.mask ∧ t1.finger = t.finger ∧ t1.moves = t.moves ∧
      t1.place.toList.Pairwise (· < ·) ∧ t1.place.size = L.length + 1 ∧ (15 ≤ t.mask → t1.place.toList = L.take p ++ v :: L.drop p) := by
  have main : ∃ j, j ∉ t.place.toList ∧ t.freeSlot ((v : Nat) : Int) = some (j, false) ∧ (15 ≤ t.mask → j = v) := by
    rcases T.sh with ⟨m7, l4⟩ | ⟨m15, pe, fl⟩
    · have lp : t.place.toList.length ≤ 4 := by rw [Array.length_toList, T.sz]; exact l4
      obtain ⟨j, hj, nj⟩ := pigeon lp
      obtain ⟨k, hk, e⟩ := seven v hv j hj
      have st : t.probeStart ((v : Nat) : Int) = start7 v := by
        unfold SetTable.probeStart start7
        rw [bits_of hv, m7]
        unfold SetTable.runEnd
        have : ¬ v % (7 + 1) + 9 ≤ 7 := by omega
        simp only [if_neg this]
        simp
      obtain ⟨j', hj', e'⟩ := free_of (v := v) (k := k) T.dm T.up (by unfold SetTable.turns; omega) (by rw [st, m7, e]; exact nj)
      exact ⟨j', hj', e', fun c => by omega⟩
    · have nv : v ∉ t.place.toList := by rw [pe]; exact hn
      exact ⟨v, nv, own_free T.dm hv m15 nv, fun _ => rfl⟩
  obtain ⟨j, nj, ef, ej⟩ := main
  have sz1 : (SetTable.insertAt t.place (SetTable.below t.place j) j).size = L.length + 1 := by
    have := congrArg List.length (SetTable.toList_insertAt t.place (SetTable.below t.place j) j)
    rw [Array.length_toList] at this
    rw [this, List.length_append, List.length_cons, List.length_take, List.length_drop, Array.length_toList, T.sz]
    omega
  have es1 : (SetTable.insertAt es (SetTable.below t.place j) (((v : Nat) : Int), x)).size = L.length + 1 := by
    have := congrArg List.length (SetTable.toList_insertAt es (SetTable.below t.place j) (((v : Nat) : Int), x))
    rw [Array.length_toList] at this
    rw [this, List.length_append, List.length_cons, List.length_take, List.length_drop, Array.length_toList, hE.len]
    omega
  have mk : L.length + 1 ≤ t.mask := by
    rcases T.sh with ⟨m7, l4⟩ | ⟨m15, pe, fl⟩ <;> omega
  refine ⟨{ t with place := SetTable.insertAt t.place (SetTable.below t.place j) j }, SetTable.insertAt es (SetTable.below t.place j) (((v : Nat) : Int), x), SetTable.below t.place j, ?_, ?_, T.dm, T.pl, T.led, rfl, rfl, rfl, ins_up T.up nj, sz1, ?_⟩
  · unfold layNew
    rw [ef]
    dsimp only
    unfold SetTable.put
    have hd : SetTable.has t.dummies j = false := by rw [T.dm]; exact has_nil j
    dsimp only
    rw [hd]
    have ft : SetTable.fits { t with place := SetTable.insertAt t.place (SetTable.below t.place j) j } (SetTable.insertAt es (SetTable.below t.place j) (((v : Nat) : Int), x)).size = true := by
      unfold SetTable.fits SetTable.fill
      dsimp only
      rw [sz1, es1, T.dm]
      simp
      omega
    unfold SetTable.orStandIn
    simp only [if_false, Bool.false_eq_true]
    rw [if_pos ft, ft]
    rfl
  · unfold Es
    rw [SetTable.toList_insertAt]
    exact paired_app (paired_take _ hE) (.cons ⟨rfl, hx⟩ (paired_drop _ hE))
  · intro hm
    dsimp only
    have := ej hm
    subst this
    rcases T.sh with ⟨m7, l4⟩ | ⟨m15, pe, fl⟩
    · omega
    · rw [SetTable.toList_insertAt, pe]
end Sm

set_option maxHeartbeats 1000000
namespace Sm
open PySem

/-- who stands where: as told by the list so far -/
def Owns (m : Nat) (owner : Array (Option Nat)) (L : List Nat) : Prop := owner.size = m + 1 ∧ ∀ j, j ≤ m → owner.getD j none = if j ∈ L then some (L.idxOf j) else none

theorem free_own {m : Nat} {owner : Array (Option Nat)} {L : List Nat} (O : Owns m owner L) {v f : Nat} (hv : v ≤ m) (hn : v ∉ L) : SetTable.layClean.free m owner (f + 1) v v = some v := by
  unfold SetTable.layClean.free
  obtain ⟨k, hk⟩ : ∃ k, SetTable.runEnd m v + 1 - v = k + 1 := ⟨SetTable.runEnd m v - v, by unfold SetTable.runEnd; split <;> omega⟩
  rw [hk, List.range_succ_eq_map]
  have g : owner.getD (v + 0) (some 0) = none := by
    have a := O.2 v hv
    rw [if_neg hn] at a
    have hs : v < owner.size := by rw [O.1]; omega
    simp [Array.getD, hs] at a ⊢
    exact a
  rw [List.find?_cons_of_pos (by rw [g]; rfl)]
  rfl

theorem clean_go {m : Nat} (hm : 15 ≤ m) : ∀ (R L : List Nat) (owner : Array (Option Nat)), Owns m owner L → (L ++ R).Nodup → (∀ v ∈ R, v < 16) →
    ∃ owner', Owns m owner' (L ++ R) ∧ (R.map fun v => ((v : Nat) : Int)).foldl (fun (acc : Option (Array (Option Nat) × Nat)) h => do
      let (owner, k) ← acc
      let j ← SetTable.layClean.free m owner (SetTable.turns m) (SetTable.bits h % (m + 1)) (SetTable.bits h)
      pure (owner.setIfInBounds j (some k), k + 1)) (some (owner, L.length)) = some (owner', (L ++ R).length) := by
  intro R
  induction R with
  | nil => intro L owner O _ _; exact ⟨owner, by simpa using O, by simp⟩
  | cons v R ih =>
    intro L owner O nd hlt
    have hv : v < 16 := hlt v List.mem_cons_self
    have hn : v ∉ L := fun c => by
      have := List.nodup_append.mp nd
      exact this.2.2 v c v List.mem_cons_self rfl
    have O' : Owns m (owner.setIfInBounds v (some L.length)) (L ++ [v]) := by
      refine ⟨by rw [Array.size_setIfInBounds]; exact O.1, fun j hj => ?_⟩
      have hs : v < owner.size := by rw [O.1]; omega
      have hs' : j < owner.size := by rw [O.1]; omega
      have a := O.2 j hj
      by_cases e : j = v
      · subst e
        rw [if_pos (List.mem_append_right _ (List.mem_singleton.mpr rfl)), List.idxOf_append, if_neg hn]
        simp [Array.getD, hs]
      · have e1 : (owner.setIfInBounds v (some L.length)).getD j none = owner.getD j none := by
          simp only [Array.getD, Array.size_setIfInBounds, hs']
          simp [Array.getElem_setIfInBounds, hs', Ne.symm e]
        rw [e1, a]
        by_cases c : j ∈ L
        · rw [if_pos c, if_pos (List.mem_append_left _ c), List.idxOf_append, if_pos c]
        · rw [if_neg c, if_neg]
          intro d
          rcases List.mem_append.mp d with d | d
          · exact c d
          · exact e (List.mem_singleton.mp d)
    obtain ⟨o2, O2, e2⟩ := ih (L ++ [v]) _ O' (by simpa using nd) (fun u hu => hlt u (List.mem_cons_of_mem _ hu))
    refine ⟨o2, by simpa using O2, ?_⟩
    rw [List.map_cons, List.foldl_cons]
    have st : (do
      let (owner, k) ← some (owner, L.length)
      let j ← SetTable.layClean.free m owner (SetTable.turns m) (SetTable.bits ((v : Nat) : Int) % (m + 1)) (SetTable.bits ((v : Nat) : Int))
      pure (owner.setIfInBounds j (some k), k + 1) : Option (Array (Option Nat) × Nat)) = some (owner.setIfInBounds v (some L.length), (L ++ [v]).length) := by
      rw [bits_of hv, Nat.mod_eq_of_lt (by omega)]
      have : SetTable.turns m = (m + 14) + 1 := rfl
      rw [this]
      show (SetTable.layClean.free m owner (m + 14 + 1) v v).bind _ = _
      rw [free_own O (by omega) hn]
      simp
    rw [st]
    have e3 : (L ++ v :: R) = L ++ [v] ++ R := by simp
    rw [e3]
    exact e2

def upTo (m : Nat) (L : List Nat) : List Nat := (List.range (m + 1)).filter fun j => decide (j ∈ L)
theorem upTo_up (m : Nat) (L : List Nat) : (upTo m L).Pairwise (· < ·) := List.Pairwise.filter _ List.pairwise_lt_range
theorem mem_upTo {m : Nat} {L : List Nat} (h : ∀ v ∈ L, v ≤ m) {j : Nat} : j ∈ upTo m L ↔ j ∈ L := by
  unfold upTo
  rw [List.mem_filter, List.mem_range]
  constructor
  · rintro ⟨_, b⟩; exact of_decide_eq_true b
  · intro b; exact ⟨Nat.lt_succ_of_le (h j b), decide_eq_true b⟩
theorem nodup_of_up {L : List Nat} (h : L.Pairwise (· < ·)) : L.Nodup := h.imp fun h => Nat.ne_of_lt h
theorem upTo_perm {m : Nat} {L : List Nat} (h : ∀ v ∈ L, v ≤ m) (nd : L.Nodup) : (upTo m L).Perm L :=
  (List.perm_ext_iff_of_nodup (nodup_of_up (upTo_up m L)) nd).mpr fun j => mem_upTo h
theorem map_idx {L : List Nat} (nd : L.Nodup) : L.map (fun v => L.idxOf v) = List.range L.length := by
  apply List.ext_getElem
  · simp
  · intro i h1 h2
    rw [List.getElem_map, List.getElem_range]
    exact List.Nodup.idxOf_getElem nd i _
theorem fm_if {α β : Type} (p : α → Bool) (f : α → β) : ∀ l : List α, l.filterMap (fun a => if p a = true then some (f a) else none) = (l.filter p).map f
  | [] => rfl
  | a :: r => by
    rw [List.filter_cons]
    cases e : p a with
    | true => rw [List.filterMap_cons_some (b := f a) (by rw [e]; rfl), fm_if p f r]; simp
    | false => rw [List.filterMap_cons_none (by rw [e]; rfl), fm_if p f r]; simp

theorem fm_congr {α β : Type} {f g : α → Option β} : ∀ {l : List α}, (∀ a ∈ l, f a = g a) → l.filterMap f = l.filterMap g
  | [], _ => rfl
  | a :: r, h => by
    have e := h a List.mem_cons_self
    have q := fm_congr (l := r) fun b hb => h b (List.mem_cons_of_mem _ hb)
    cases c : f a with
    | none => rw [List.filterMap_cons_none c, List.filterMap_cons_none (by rw [← e]; exact c), q]
    | some b => rw [List.filterMap_cons_some c, List.filterMap_cons_some (by rw [← e]; exact c), q]
theorem Es.hashes {es : Array (Int × Value)} {L : List Nat} (h : Es es L) : (es.map (·.1)).toList = L.map fun v => ((v : Nat) : Int) := by
  rw [Array.toList_map]
  unfold Es at h
  generalize es.toList = l at h
  induction h with
  | nil => rfl
  | cons r _ ih => rw [List.map_cons, List.map_cons, ih, r.1]
theorem Es.at {es : Array (Int × Value)} {L : List Nat} (h : Es es L) {v : Nat} (hv : v ∈ L) : ∃ e, es[L.idxOf v]? = some e ∧ e.1 = ((v : Nat) : Int) ∧ ∃ tk, e.2 = Value.int ((v : Nat) : Int) tk := by
  have hi := List.idxOf_lt_length_of_mem hv
  obtain ⟨x, e, q⟩ := paired_get h (L.idxOf v) hi
  rw [List.getElem_idxOf hi] at q
  exact ⟨x, by simpa using e, q⟩
theorem es_re {es : Array (Int × Value)} {L : List Nat} (h : Es es L) : ∀ S : List Nat, (∀ v ∈ S, v ∈ L) → Paired (fun e v => e.1 = ((v : Nat) : Int) ∧ ∃ tk, e.2 = Value.int ((v : Nat) : Int) tk) ((S.map fun v => L.idxOf v).filterMap fun i => es[i]?) S
  | [], _ => .nil
  | v :: S, hs => by
    obtain ⟨e, a, b⟩ := h.at (hs v List.mem_cons_self)
    rw [List.map_cons, List.filterMap_cons_some a]
    exact .cons b (es_re h S fun u hu => hs u (List.mem_cons_of_mem _ hu))

theorem laid_ok {es : Array (Int × Value)} {L : List Nat} {m f mv : Nat} {led plain : Bool} (hm : 15 ≤ m) (hE : Es es L) (nd : L.Nodup) (hlt : ∀ v ∈ L, v < 16) :
    ∃ order : Array Nat, SetTable.laid m f mv led plain (es.map (·.1)) = some ({ mask := m, place := (upTo m L).toArray, dummies := #[], finger := f, led := led, moves := mv, plain := plain }, order) ∧
      Es (order.filterMap (es[·]?)) (upTo m L) ∧ coversAll order es.size = true := by
  have hle : ∀ v ∈ L, v ≤ m := fun v hv => by have := hlt v hv; omega
  have O0 : Owns m (Array.replicate (m + 1) none) [] := ⟨by simp, fun j hj => by simp [Array.getD]⟩
  obtain ⟨ow, O, e⟩ := clean_go hm L [] _ O0 (by simpa using nd) hlt
  rw [List.nil_append] at O e
  have ec : SetTable.layClean m (es.map (·.1)) = some ow := by
    unfold SetTable.layClean
    rw [← Array.foldl_toList, hE.hashes]
    have e' := e
    rw [List.length_nil] at e'
    show Option.map _ (List.foldl _ _ _) = _
    refine Eq.trans (congrArg (Option.map (·.1)) (Eq.trans ?_ e')) rfl
    rfl
  have lv : (List.range (m + 1)).filterMap (fun j => (ow.getD j none).map (fun k => (j, k))) = (upTo m L).map fun j => (j, L.idxOf j) := by
    unfold upTo
    rw [← fm_if]
    apply fm_congr
    intro j hj
    rw [O.2 j (by have := List.mem_range.mp hj; omega)]
    by_cases c : j ∈ L
    · simp [c]
    · simp [c]
  refine ⟨((upTo m L).map fun j => L.idxOf j).toArray, ?_, ?_, ?_⟩
  · unfold SetTable.laid
    rw [ec]
    show some _ = some _
    have : (List.range (m + 1)).filterMap (fun j => (ow.getD j none).map (j, ·)) = (upTo m L).map fun j => (j, L.idxOf j) := lv
    rw [this, List.map_map, List.map_map]
    have i1 : ((fun (x : Nat × Nat) => x.1) ∘ fun j => (j, L.idxOf j)) = fun j => j := rfl
    have i2 : ((fun (x : Nat × Nat) => x.2) ∘ fun j => (j, L.idxOf j)) = fun j => L.idxOf j := rfl
    rw [i1, i2, List.map_id']
  · unfold Es
    rw [Array.toList_filterMap]
    exact es_re hE (upTo m L) fun v hv => (mem_upTo hle).mp hv
  · unfold coversAll
    rw [List.isPerm_iff, hE.len]
    have p := (upTo_perm hle nd).map fun v => L.idxOf v
    rw [map_idx nd] at p
    exact p
theorem up_len {m : Nat} {L : List Nat} (h : ∀ v ∈ L, v < 16) (hm : 15 ≤ m) (nd : L.Nodup) : (upTo m L).length = L.length := (upTo_perm (fun v hv => by have := h v hv; omega) nd).length_eq

theorem sizeAbove_gt {n : Nat} (h : n < 2 ^ 40) : n < SetTable.sizeAbove n := by
  have go : ∀ fuel size, n < size * 2 ^ fuel → n < SetTable.sizeAbove.go n fuel size := by
    intro fuel
    induction fuel with
    | zero => intro size h; unfold SetTable.sizeAbove.go; simpa using h
    | succ f ih =>
      intro size h
      unfold SetTable.sizeAbove.go
      split
      · exact ih _ (by rw [Nat.pow_succ] at h; rw [Nat.mul_assoc, Nat.mul_comm 2]; exact h)
      · omega
  exact go 64 8 (by omega)
theorem sizeAbove_16 {n : Nat} (h : 8 ≤ n) : 16 ≤ SetTable.sizeAbove n := by
  have go : ∀ fuel size, 16 ≤ size → 16 ≤ SetTable.sizeAbove.go n fuel size := by
    intro fuel
    induction fuel with
    | zero => intro size h; unfold SetTable.sizeAbove.go; exact h
    | succ f ih =>
      intro size h
      unfold SetTable.sizeAbove.go
      split
      · exact ih _ (by omega)
      · exact h
  unfold SetTable.sizeAbove
  unfold SetTable.sizeAbove.go
  rw [if_pos h]
  exact go 63 _ (by omega)
theorem Tb.fits {B : Bool} {t : SetTable} {L : List Nat} (T : Tb B t L) : t.fits L.length = true := by
  unfold SetTable.fits SetTable.fill
  have := T.sz
  rw [T.dm]
  rcases T.sh with ⟨a, b⟩ | ⟨a, b, c⟩ <;> simp [this] <;> omega
theorem tb_laid {B : Bool} {L : List Nat} {m f mv : Nat} (hm : 15 ≤ m) (nd : L.Nodup) (hlt : ∀ v ∈ L, v < 16) (hr : L.length * 5 < m * 3) :
    Tb B { mask := m, place := (upTo m L).toArray, dummies := #[], finger := f, led := !B, moves := mv, plain := true } (upTo m L) where
  dm := rfl
  pl := rfl
  led := rfl
  up := by simpa using upTo_up m L
  sz := by simp
  nd := nodup_of_up (upTo_up m L)
  lt := fun v hv => hlt v ((mem_upTo (fun v hv => by have := hlt v hv; omega)).mp hv)
  sh := .inr ⟨hm, by simp, by rw [up_len hlt hm nd]; exact hr⟩
/-- laid anew by a grown table -/
theorem relay_ok {B : Bool} {t : SetTable} {es : Array (Int × Value)} {L : List Nat} {n : Nat} (hp : t.plain = true) (hl : t.led = !B) (hE : Es es L) (nd : L.Nodup) (hlt : ∀ v ∈ L, v < 16) (hn : 8 ≤ n) (h2 : 2 * L.length ≤ n) (hb : n < 2 ^ 40) :
    ∃ es' t' L', relayAll t es n = (es', t', false) ∧ Es es' L' ∧ Tb B t' L' ∧ L'.Perm L := by
  have a1 := sizeAbove_gt hb
  have a2 := sizeAbove_16 hn
  have hm : 15 ≤ SetTable.sizeAbove n - 1 := by omega
  obtain ⟨order, e, hE', hc⟩ := laid_ok (f := t.finger) (mv := t.movedTo (SetTable.sizeAbove n - 1)) (led := !B) (plain := true) hm hE nd hlt
  have T := tb_laid (B := B) (f := t.finger) (mv := t.movedTo (SetTable.sizeAbove n - 1)) hm nd hlt (by omega)
  refine ⟨_, _, _, ?_, hE', T, upTo_perm (fun v hv => by have := hlt v hv; omega) nd⟩
  unfold relayAll SetTable.relaid
  rw [hp, hl, e]
  dsimp only
  have z := hE'.len
  rw [hc, z, T.fits]
  rfl
end Sm

set_option maxHeartbeats 1000000
namespace Sm
open PySem

abbrev setO (es : Array (Int × Value)) (ep : Nat) (t : SetTable) : Obj := { cls := .type "set", dict := none, data := .set es ep t, slots := #[] }
/-- a set of small numbers stands there, in the order of L -/
def SetAt (B : Bool) (h : Heap) (a : Addr) (L : List Nat) : Prop := ∃ es ep t, h.get? a = some (setO es ep t) ∧ Es es L ∧ Tb B t L
/-- the table is no greater than it grows by itself -/
def Dense (h : Heap) (a : Addr) : Prop := ∃ es ep t, h.get? a = some (setO es ep t) ∧ (t.mask = 7 ∨ 5 ≤ es.size)
theorem Dense.keep {h h' : Heap} {a : Addr} (S : Dense h a) (k : ∀ o, h.get? a = some o → h'.get? a = some o) : Dense h' a :=
  let ⟨es, ep, t, ho, r⟩ := S; ⟨es, ep, t, k _ ho, r⟩
theorem SetAt.keep {B : Bool} {h h' : Heap} {a : Addr} {L : List Nat} (S : SetAt B h a L) (k : ∀ o, h.get? a = some o → h'.get? a = some o) : SetAt B h' a L :=
  let ⟨es, ep, t, ho, r⟩ := S; ⟨es, ep, t, k _ ho, r⟩
theorem Tb.len {B : Bool} {t : SetTable} {L : List Nat} (T : Tb B t L) : L.length ≤ 16 := by
  have := len_le L (List.range 16) T.nd fun x hx => List.mem_range.mpr (T.lt x hx)
  simpa using this
theorem hash16 : ∀ v : Nat, v < 16 → hashInt ((v : Nat) : Int) = ((v : Nat) : Int) := by decide +kernel
theorem Es.elems {prog : Program} {w : World} {es : Array (Int × Value)} {L : List Nat} (h : Es es L) (lt : ∀ v ∈ L, v < 16) : ElemsOf (intKind prog w) es.toList := by
  unfold Es at h
  generalize es.toList = l at h
  induction h with
  | nil => intro e he; simp at he
  | @cons x y xs ys r _ ih =>
    intro e he
    rcases List.mem_cons.mp he with rfl | he
    · obtain ⟨tk, e2⟩ := r.2
      refine ⟨⟨((y : Nat) : Int), ?_, ?_⟩, ?_⟩
      · show Value.isInt _ _ = true
        rw [e2]; simp [Value.isInt]
      · rw [r.1]; exact (hash16 y (lt y List.mem_cons_self)).symm
      · rw [e2]; rfl
    · exact ih (fun v hv => lt v (List.mem_cons_of_mem _ hv)) e he
theorem Es.find {es : Array (Int × Value)} {L : List Nat} (h : Es es L) (v : Nat) : (es.toList.findIdx? fun e => Value.isInt ((v : Nat) : Int) e.2).isSome = decide (v ∈ L) := by
  unfold Es at h
  generalize es.toList = l at h
  induction h with
  | nil => simp
  | @cons x y xs ys r _ ih =>
    obtain ⟨tk, e2⟩ := r.2
    rw [List.findIdx?_cons, e2]
    by_cases c : v = y
    · subst c; simp [Value.isInt]
    · have : Value.isInt ((v : Nat) : Int) (.int ((y : Nat) : Int) tk) = false := by simp [Value.isInt]; omega
      rw [this]
      simp only [Bool.false_eq_true, if_false, Option.isSome_map]
      rw [ih]
      simp [c]
section
variable {prog : Program} {w : World} {A : Around} {E : Value → Shared → Prop} {s : Shared} {B : Bool} {a : Addr} {L : List Nat}
theorem scan_at {es : Array (Int × Value)} {ep : Nat} {t : SetTable} {v tk : Nat} {ad : Bool} {Q : ScanMet → Shared → Prop} (ho : s.heap.get? a = some (setO es ep t)) (hE : Es es L) (T : Tb B t L) (hv : v < 16)
    (h1 : v ∈ L → ∀ j, Q (.found j) s) (h2 : v ∉ L → Q .absent s) : wpAny (model prog w) A (setScan a (.int ((v : Nat) : Int) tk) ((v : Nat) : Int) ad es) Q E s := by
  have hf : t.fits es.size = true := by rw [hE.len]; exact T.fits
  have sc := wpAny_setScan_of (prog := prog) (w := w) (A := A) (E := E) (s := s) (knd := intKind prog w) (k := ((v : Nat) : Int)) (x := .int ((v : Nat) : Int) tk) (adding := ad) (Q := Q) (by simp [intKind, Value.isInt]) ho rfl hf (hE.elems T.lt) (by
    have q := hE.find v
    have e : (fun e : Int × Value => (intKind prog w).is ((v : Nat) : Int) e.2) = fun e => Value.isInt ((v : Nat) : Int) e.2 := rfl
    rw [e]
    cases c : es.toList.findIdx? (fun e => Value.isInt ((v : Nat) : Int) e.2) with
    | none => rw [c] at q; exact h2 (of_decide_eq_false q.symm)
    | some j => rw [c] at q; exact h1 (of_decide_eq_true q.symm) _)
  have e : (intKind prog w).hash ((v : Nat) : Int) = ((v : Nat) : Int) := hash16 v hv
  rw [e] at sc
  exact sc
theorem put_get {h : Heap} {es es' : Array (Int × Value)} {ep : Nat} {t t' : SetTable} (ho : h.get? a = some (setO es ep t)) : (h.update a (Obj.putSet es' t')).get? a = some (setO es' (ep + 1) t') := by
  have := Heap.get?_update_self (Obj.putSet es' t') ho (by rw [putSet_of es' t' rfl]; rfl)
  rw [putSet_of es' t' rfl] at this
  exact this
theorem scan_ok (prog : Program) (w : World) {es : Array (Int × Value)} {t : SetTable} {v tk : Nat} (hE : Es es L) (T : Tb B t L) : byScan (.int ((v : Nat) : Int) tk) es = true :=
  byScan_of (knd := intKind prog w) rfl (by rw [hE.len]; have := T.len; unfold scanBound; omega) (hE.elems T.lt)
/-- a small number put to a set -/
theorem add_at {v tk : Nat} {Q : Bool → Shared → Prop} (S : SetAt B s.heap a L) (hv : v < 16)
    (h : ∀ b h' L', Heap.SameBut a s.heap h' → SetAt B h' a L' → (∀ u, u ∈ L' ↔ u = v ∨ u ∈ L) → (Dense s.heap a → Dense h' a) → Q b { s with heap := h' }) :
    wpAny (model prog w) A (setAddHashed a (.int ((v : Nat) : Int) tk) ((v : Nat) : Int)) Q E s := by
  obtain ⟨es, ep, t, ho, hE, T⟩ := S
  have hf : t.fits es.size = true := by rw [hE.len]; exact T.fits
  unfold setAddHashed setAddHashedIn
  refine wpAny_holding (wpAny_bind (wpAny_setState_of ho rfl hf ?_))
  dsimp only
  rw [scan_ok prog w hE T]
  simp only [↓reduceIte]
  unfold setAddByScan
  refine wpAny_bind ?_
  refine wpAny_bind (wpAny_rule ?_)
  refine wpAny_bind (scan_at ho hE T hv (fun hm j => ?_) fun hm => ?_)
  · dsimp only
    refine wpAny_pure (wpAny_pure ?_)
    have q := h false s.heap L (Heap.SameBut.refl a s.heap) ⟨es, ep, t, ho, hE, T⟩ (fun u => ⟨.inr, fun c => c.elim (fun e => e ▸ hm) id⟩) id
    exact q
  · dsimp only
    obtain ⟨t1, es1, p, e1, hE1, dm, pl, ld, mk, _, _, up, sz, own⟩ := lay_ok (x := .int ((v : Nat) : Int) tk) T hE hv hm ⟨tk, rfl⟩
    rw [e1]
    dsimp only
    refine wpAny_bind (wpAny_pure ?_)
    rw [pl]
    refine wpAny_bind (wpAny_pure ?_)
    simp only [↓reduceIte]
    have mem : ∀ u, u ∈ L.take p ++ v :: L.drop p ↔ u = v ∨ u ∈ L := fun u => by
      rw [List.mem_append, List.mem_cons]
      have e : u ∈ L ↔ u ∈ L.take p ∨ u ∈ L.drop p := by rw [← List.mem_append, List.take_append_drop]
      rw [e]
      constructor
      · rintro (c | c | c)
        · exact .inr (.inl c)
        · exact .inl c
        · exact .inr (.inr c)
      · rintro (c | c | c)
        · exact .inr (.inl c)
        · exact .inl c
        · exact .inr (.inr c)
    have nd1 : (L.take p ++ v :: L.drop p).Nodup := by
      have pm : (L.take p ++ v :: L.drop p).Perm (v :: L) := by
        have : L.take p ++ L.drop p = L := List.take_append_drop p L
        exact List.perm_middle.trans (by rw [this])
      exact pm.nodup_iff.mpr (List.nodup_cons.mpr ⟨hm, T.nd⟩)
    have lt1 : ∀ u ∈ L.take p ++ v :: L.drop p, u < 16 := fun u hu => ((mem u).mp hu).elim (fun e => e ▸ hv) (T.lt u)
    have ln1 : (L.take p ++ v :: L.drop p).length = L.length + 1 := by
      rw [List.length_append, List.length_cons, List.length_take, List.length_drop]; omega
    have fl : t1.fill = L.length + 1 := by unfold SetTable.fill; rw [dm, sz]; rfl
    have l16 := T.len
    have z1 : es1.size = L.length + 1 := by rw [hE1.len, ln1]
    refine wpAny_bind (wpAny_storeSet_of ho rfl ?_ (by rw [z1, sizeLine_eq]; omega))
    have ho1 := put_get (es' := es1) (t' := t1) ho
    cases tf : t1.tooFull with
    | false =>
      simp only [Bool.not_false, Bool.and_false, Bool.false_eq_true, if_false]
      refine wpAny_pure (wpAny_pure ?_)
      refine h true _ _ (Heap.SameBut.update ..) ⟨es1, ep + 1, t1, ho1, hE1, ⟨dm, pl, ld, up, by rw [ln1, sz], nd1, lt1, ?_⟩⟩ mem (fun ⟨es0, ep0, t0, ho0, d⟩ => ⟨es1, ep + 1, t1, ho1, by
        rw [ho] at ho0; cases ho0
        rw [mk, z1]; have := hE.len; omega⟩)
      unfold SetTable.tooFull at tf
      have tf' := of_decide_eq_false tf
      rw [fl, mk] at tf'
      rw [ln1, mk]
      rcases T.sh with ⟨m7, l4⟩ | ⟨m15, pe, _⟩
      · refine .inl ⟨m7, by omega⟩
      · exact .inr ⟨m15, own m15, by omega⟩
    | true =>
      simp only [Bool.not_false, Bool.and_self, if_true]
      unfold SetTable.tooFull at tf
      have tf' := of_decide_eq_true tf
      rw [fl, mk] at tf'
      have five : 5 ≤ L.length + 1 := by
        rcases T.sh with ⟨m7, l4⟩ | ⟨m15, pe, _⟩ <;> omega
      have gr : SetTable.grown es1.size = (L.length + 1) * 4 := by
        unfold SetTable.grown
        rw [z1, if_neg (by omega)]
      obtain ⟨es2, t2, L2, e2, hE2, T2, pm⟩ := relay_ok (t := t1) (n := SetTable.grown es1.size) pl ld hE1 nd1 lt1 (by rw [gr]; omega) (by rw [gr, ln1]; omega) (by rw [gr]; omega)
      rw [e2]
      dsimp only
      refine wpAny_bind (wpAny_pure ?_)
      refine wpAny_bind (wpAny_storeSet_of ho1 rfl ?_ (by rw [hE2.len, pm.length_eq, ln1, sizeLine_eq]; omega))
      refine wpAny_pure (wpAny_pure ?_)
      exact h true _ L2 ((Heap.SameBut.update ..).trans (Heap.SameBut.update ..)) ⟨es2, _, t2, put_get ho1, hE2, T2⟩ (fun u => (pm.mem_iff).trans (mem u)) fun _ => ⟨es2, _, t2, put_get ho1, .inr (by rw [hE2.len, pm.length_eq, ln1]; exact five)⟩
end
end Sm

set_option maxHeartbeats 2000000
namespace Sm
open PySem

/-- whether sets are walked by the text of the world -/
abbrev byT (w : World) : Bool := w.params.followText "set-order"
theorem erase_perm {α : Type} : ∀ (l : List α) (i : Nat) (h : i < l.length), (l[i] :: l.eraseIdx i).Perm l
  | _ :: r, 0, _ => .refl _
  | x :: r, i + 1, h => by
    have q := erase_perm r i (by simpa using h)
    rw [List.getElem_cons_succ, List.eraseIdx_cons_succ]
    exact (List.Perm.swap x (r[i]'(by simpa using h)) (r.eraseIdx i)).trans (q.cons x)
theorem pick_go {α : Type} (nx : Nat → Nat) : ∀ (fuel k : Nat) (left : List α) (out : Array α), left.length ≤ fuel → (pickOrder.go nx fuel k left out).toList.Perm (out.toList ++ left) := by
  intro fuel
  induction fuel with
  | zero =>
    intro k left out h
    have : left = [] := List.length_eq_zero_iff.mp (by omega)
    subst this
    unfold pickOrder.go
    simp
  | succ f ih =>
    intro k left out h
    unfold pickOrder.go
    by_cases c : left = []
    · subst c; simp
    · have pos : 0 < left.length := List.length_pos_iff.mpr c
      have lt := Nat.mod_lt (nx k) pos
      rw [List.getElem?_eq_getElem lt]
      dsimp only
      refine (ih (k + 1) _ _ (by rw [List.length_eraseIdx]; split <;> omega)).trans ?_
      rw [Array.toList_push, List.append_assoc]
      exact List.Perm.append_left _ (erase_perm left _ lt)
theorem pick_perm {α : Type} (nx : Nat → Nat) (xs : Array α) : (pickOrder nx xs).toList.Perm xs.toList := by
  have := pick_go nx xs.size 0 xs.toList #[] (by simp)
  unfold pickOrder
  simpa using this
theorem walk_eq (a : Addr) : setWalk a = (do
  let (xs, c, tb) ← setState a
  if ← setsByText then
    let q ← ask
    return pickOrder (q.params.setOrder a c) xs
  if !tb.plain && xs.size > 1 then return (← drawOrder xs.size xs.toList).toArray
  (do if !tb.led && xs.size > 1 then unsupported "set:maker-not-led" : Sem Unit)
  return xs) := rfl
section
variable {prog : Program} {w : World} {A : Around} {E : Value → Shared → Prop} {s : Shared} {a : Addr} {L : List Nat}
theorem byText_at {Q : Bool → Shared → Prop} (h : Q (byT w) s) : wpAny (model prog w) A setsByText Q E s := by
  unfold setsByText
  exact wpAny_bind (wpAny_askSetting (wpAny_pure h))
def reord (es : Array (Int × Value)) (laid : Option (SetTable × Array Nat)) : Sem (Array (Int × Value) × SetTable) := do
  let some (t, order) := laid
    | unsupported "internal:set-table-without-room"
  if (order.filterMap (es[·]?)).size != es.size then unsupported "internal:set-table-lost-an-element"
  pure (order.filterMap (es[·]?), t)
theorem relay_eq (a : Addr) (n : Nat) : setRelay a n = (do
  let (es, _, t) ← setState a
  if SetTable.sizeAbove n > sizeLine then unsupported "set:memory"
  let (es, t) ← reord es (t.relaid (es.map (·.1)) n)
  storeSet a es t) := rfl
end
end Sm

set_option maxHeartbeats 2000000
namespace Sm
open PySem
section
variable {prog : Program} {w : World} {A : Around} {E : Value → Shared → Prop} {s : Shared} {sA oA : Addr} {L1 L2 : List Nat}
end
end Sm

set_option maxHeartbeats 2000000
namespace Sm
open PySem PySem.Builtin.Frozenset
theorem sub_ss : isSubtype (.type "set") (.type "set") = pure true := by rw [isSubtype_type]; kernel_rfl
theorem entry_iter : entryFor table "set.__iter__" = some Builtin.«frozenset.__iter__» := entryFor_alias (id' := "frozenset.__iter__") (by kernel_rfl) rfl (by decide +kernel) (by kernel_rfl)
section
variable {prog : Program} {w : World} {A : Around} {E : Value → Shared → Prop} {s : Shared} {a b : Addr} {L1 L2 : List Nat}
theorem fresh_tb (B : Bool) : Tb B (.fresh 0 0 (!B)) [] := ⟨rfl, rfl, rfl, .nil, rfl, .nil, fun v h => by simp at h, .inl ⟨rfl, by simp⟩⟩
end
end Sm

set_option maxHeartbeats 4000000
namespace Sm
open PySem
theorem slot_si_next : Slot "set_iterator" "__next__" "set_iterator.__next__" := .of (owner := "set_iterator") (n := "__next__") (by rw [typeLookup_type, builtinLookup_eq_fast]; kernel_rfl) (by decide +kernel) (by decide +kernel) (by decide +kernel) (by first | exact .inl (by decide +kernel) | exact .inr (by decide +kernel)) (by rw [isSubtype_type]; kernel_rfl)
theorem entry_si_next : entryFor table "set_iterator.__next__" = some Builtin.«set_iterator.__next__» := entryFor_of_fast (by kernel_rfl)
theorem args_si_next (a : Value) : argsOk "set_iterator.__next__" ⟨[a], []⟩ := by unfold argsOk; kernel_rfl
theorem slot_si_iter : Slot "set_iterator" "__iter__" "set_iterator.__iter__" := .of (owner := "set_iterator") (n := "__iter__") (by rw [typeLookup_type, builtinLookup_eq_fast]; kernel_rfl) (by decide +kernel) (by decide +kernel) (by decide +kernel) (by first | exact .inl (by decide +kernel) | exact .inr (by decide +kernel)) (by rw [isSubtype_type]; kernel_rfl)
theorem args_si_iter (a : Value) : argsOk "set_iterator.__iter__" ⟨[a], []⟩ := by unfold argsOk; kernel_rfl
end Sm

set_option maxHeartbeats 4000000
namespace Sm
open PySem
theorem entry_si_iter : entryFor table "set_iterator.__iter__" = some Builtin.«dict_keyiterator.__iter__» := entryFor_alias (id' := "dict_keyiterator.__iter__") (by kernel_rfl) rfl (by decide +kernel) (by kernel_rfl)
/-- the entries as they are walked -/
def walked (w : World) (a : Addr) (ep : Nat) (es : Array (Int × Value)) : Array (Int × Value) := if byT w = true then pickOrder (w.params.setOrder a ep) es else es
theorem walked_perm (w : World) (a : Addr) (ep : Nat) (es : Array (Int × Value)) : (walked w a ep es).toList.Perm es.toList := by
  unfold walked
  split
  · exact pick_perm _ _
  · exact .rfl
theorem walked_size (w : World) (a : Addr) (ep : Nat) (es : Array (Int × Value)) : (walked w a ep es).size = es.size := by
  have := (walked_perm w a ep es).length_eq
  simpa using this
theorem next_eq (a : Addr) (slot given epochThen : Nat) : setNext a slot given epochThen = (do
  let (xs, c, tb) ← setState a
  if ← setsByText then
    if c != epochThen then
      unsupported "set_iterator.__next__:elements-changed"
    let zs ← setWalk a
    return (zs[given]?).map fun z => (z.2, slot)
  if !tb.plain && xs.size > 1 then
    unsupported "set_iterator.__next__:the-table-is-plain-no-more"
  (do if !tb.led && !xs.isEmpty then unsupported "set:maker-not-led" : Sem Unit)
  return match xs[SetTable.below tb.place slot]?, tb.place[SetTable.below tb.place slot]? with
    | some (_, z), some m => some (z, m + 1)
    | _, _ => none) := rfl
def slotOf (B : Bool) (t : SetTable) (i : Nat) : Nat := if B = true then 0 else if i = 0 then 0 else t.place.getD (i - 1) 0 + 1
section
variable {prog : Program} {w : World} {A : Around} {E : Value → Shared → Prop} {s : Shared} {a : Addr} {L : List Nat}
abbrev itO (sl i : Nat) (a : Addr) (n ep : Nat) : Obj := { cls := .type "set_iterator", dict := none, data := .fields #[.int (sl : Nat) 0, .int (i : Nat) 0, .ref a, .int (n : Nat) 0, .int (ep : Nat) 0], slots := #[] }
end
end Sm

set_option maxHeartbeats 4000000
namespace Sm
open PySem PyProof.Rows
section
variable {prog : Program} {w : World} {A : Around} {E : Value → Shared → Prop} {s : Shared} {a : Addr} {L : List Nat}
theorem drawn_eq (a : Addr) : setDrawn a = (do
  let (es, _, t) ← setState a
  let byText ← setsByText
  return !byText && (!t.plain && es.size > 1)) := rfl
theorem no_list : (Value.type "set" == Value.type "list") = false := by decide
theorem no_tup : (Value.type "set" == Value.type "tuple") = false := by decide
theorem len_slot : typeLookup (.type "set") "__len__" = pure (some (.builtin "set.__len__")) := F.slot_set_len.lookup
theorem split_len : splitId "set.__len__" = some ("set", "__len__") := by decide +kernel
theorem sh_old {h : Heap} {a b : Addr} {vs : List Value} {out : Array Value} {o : Obj} (lb : b < h.objs.size) (ne : b ≠ a) (e : h.get? b = some o) : (sortedHeap h a vs out).get? b = some o := by
  unfold sortedHeap
  rw [Heap.get?_update_ne _ _ _ _ ne]
  exact Heap.get?_push_of_some _ (Heap.get?_push_of_some _ (by rw [Heap.get?_update_ne _ _ _ _ ne]; exact e))
theorem sh_at {h : Heap} {a : Addr} {vs : List Value} {xs out : Array Value} {n : Nat} (e : h.get? a = some (seqObj "list" xs n)) : ∃ n', (sortedHeap h a vs out).get? a = some (seqObj "list" out n') := by
  unfold sortedHeap
  exact ⟨_, get?_update_seq (Heap.get?_push_of_some _ (Heap.get?_push_of_some _ (get?_update_seq e fun _ => #[]))) fun _ => out⟩
end
end Sm

set_option maxHeartbeats 4000000
namespace Sm
open PySem PyProof.Rows
section
variable {prog : Program} {w : World} {A : Around} {R : Result → Shared → Prop} {I : Addr} {fp wr : List Addr} {G : Array GenState → Array GenState → Prop} {n : Nat} {P : Nat → Value → Prop} {St : Nat → Shared → Prop}
theorem fill_at (W : WalksS prog w A.in1 I fp wr G n P St) (S : Addr) (nf : S ∉ fp) (val : Nat → Nat) (hv : ∀ i v, i < n → P i v → ∃ t, v = .int ((val i : Nat) : Int) t) (lt : ∀ i, i < n → val i < 16) :
    ∀ (k i : Nat) (s : Shared) (L : List Nat), n - i = k → i ≤ n → St i s → SetAt (byT w) s.heap S L → Dense s.heap S → (∀ u, u ∈ L ↔ ∃ j, j < i ∧ val j = u) →
      (∀ s' L', Moved (S :: wr) G s s' → SetAt (byT w) s'.heap S L' → Dense s'.heap S → (∀ u, u ∈ L' ↔ ∃ j, j < n ∧ val j = u) → R (.ok (.ret .none)) s') →
      codeAny (model prog w) A (.builtin "set.update.loop" ⟨[.ref S, .ref I], []⟩) R s := by
  have nw : S ∉ wr := fun h => nf (W.sub _ h)
  have up : ∀ b ∈ wr, b ∈ S :: wr := fun b hb => List.mem_cons_of_mem _ hb
  intro k
  induction k with
  | zero =>
    intro i s L hk hi st hS hD mem hR
    obtain rfl : i = n := by omega
    refine codeAny_builtin F.entry_set_update_loop ?_
    rw [Around.under_plainId F.plain_set_update_loop _]; show wpAny _ A.in1 (pyNext (.ref I) >>= _) _ _ s; refine wpAny_bind (W.done s _ _ st fun s' hm => ?_)
    exact wpAny_pure (hR s' L (hm.mono up) (hS.keep fun o e => hm.heap S o nw e) (hD.keep fun o e => hm.heap S o nw e) mem)
  | succ k ih =>
    intro i s L hk hi st hS hD mem hR
    have li : i < n := by omega
    refine codeAny_builtin F.entry_set_update_loop ?_
    rw [Around.under_plainId F.plain_set_update_loop _]; show wpAny _ A.in1 (pyNext (.ref I) >>= _) _ _ s; refine wpAny_bind (W.item i s _ _ li st fun v s' hP st' hm => ?_)
    obtain ⟨t, rfl⟩ := hv i v li hP
    have hS' := hS.keep fun o e => hm.heap S o nw e
    have hD' := hD.keep fun o e => hm.heap S o nw e
    show wpAny _ A.in1 (holding [Value.int ((val i : Nat) : Int) t] (setAdd S (.int ((val i : Nat) : Int) t)) >>= _) _ _ s'
    refine wpAny_bind (wpAny_holding ?_)
    unfold setAdd
    refine wpAny_holding (wpAny_bind ((intKind prog w).pyHash (k := ((val i : Nat) : Int)) (intKind_is _ _ _ _) ?_))
    have eh : (intKind prog w).hash ((val i : Nat) : Int) = ((val i : Nat) : Int) := hash16 _ (lt i li)
    rw [eh]
    refine add_at (s := { s' with toks := s'.toks + 1 }) hS' (lt i li) fun b h' L' sb S2 mem2 dn => ?_
    refine wpAny_pure ⟨plainId_quiet F.plain_set_update_loop _, ih (i + 1) _ L' (by omega) li (W.frame _ s' _ _ st' (Nat.le_succ _) fun c hc o e => ?_) S2 (dn hD') (fun u => ?_) fun s2 L2 hm2 h2 h3 h4 => hR s2 L2 (Moved.trans W.gtrans ((hm.mono up).then_heap (Nat.le_succ _) fun c o hc e => ?_) hm2) h2 h3 h4⟩
    · rw [sb.2 c (fun q : c = S => nf (by rw [← q]; exact hc))]; exact e
    · rw [mem2 u, mem u]
      constructor
      · rintro (rfl | ⟨j, hj, e⟩)
        · exact ⟨i, Nat.lt_succ_self _, rfl⟩
        · exact ⟨j, Nat.lt_succ_of_lt hj, e⟩
      · rintro ⟨j, hj, e⟩
        rcases Nat.lt_or_ge j i with q | q
        · exact .inr ⟨j, q, e⟩
        · obtain rfl : j = i := by omega
          exact .inl e.symm
    · rw [sb.2 c (fun q : c = S => hc (by rw [q]; exact List.mem_cons_self))]; exact e
end
section
variable {prog : Program} {w : World} {A : Around} {E : Value → Shared → Prop} {s : Shared}
theorem newS_at (a : Value) {Q : Value → Shared → Prop} (h : Q (.ref s.heap.objs.size) { s with heap := s.heap.push (setO #[] 0 (.fresh 0 0 (!byT w))) }) :
    codeAny (model prog w) A (.call (.builtin "set.__new__") ⟨[.type "set", a], []⟩) (wants Q E) s := by
  refine codeAny_of_tree ?_
  show wpAny _ A.in1 (do checkBuiltinCall "set.__new__" ⟨[.type "set", a], []⟩; again (.builtin "set.__new__" ⟨[.type "set", a], []⟩)) _ _ s; refine wpAny_bind (wpAny_of_eq (F.newCall_set_1 a) (wpAny_pure ⟨plainId_quiet F.plain_set_new _, codeAny_builtin F.entry_set_new ?_⟩))
  rw [Around.under_plainId F.plain_set_new _]
  unfold Builtin.«set.__new__» Builtin.Frozenset.newClass
  have hsub := sub_set_self
  obtain ⟨hp, g, d, tk, os⟩ := s
  dsimp only at h ⊢
  wp_walk
  refine wpAny_askSetting (wpAny_pure ?_)
  dsimp only
  simp only [newObj]
  exact wpAny_bind (wpAny_alloc (wpAny_pure (wpAny_pure h)))
set_option maxHeartbeats 8000000 in
/-- set(xs), xs a list of small numbers -/
theorem set_at {l : Addr} {items : Array Value} {vals : List Nat} {Q : Value → Shared → Prop} (hh : A.handled = none) (hl : s.heap.IsList l items) (hi : IntsAre items.toList (vals.map fun v => ((v : Nat) : Int))) (lt : ∀ v ∈ vals, v < 16)
    (h : ∀ (h' : Heap) (tk : Nat) (L : List Nat), SetAt (byT w) h' s.heap.objs.size L → Dense h' s.heap.objs.size → (∀ u, u ∈ L ↔ u ∈ vals) → (∀ b o, b < s.heap.objs.size → s.heap.get? b = some o → h'.get? b = some o) → Q (.ref s.heap.objs.size) { s with heap := h', toks := tk }) :
    wpAny (model prog w) A (call (.type "set") [.ref l]) Q E s := by
  obtain ⟨c, tl, hmro⟩ := F.called_set.mro
  have hmade := F.called_set.made
  have hsub := F.called_set.sub
  have hlen : items.size = vals.length := by
    have := hi.length
    simpa using this
  refine wpAny_call (codeAny_of_tree ?_)
  show wpAny _ _ (callAny (.type "set") _) _ _ _; refine wpAny_pure ⟨Code.quiet_builtin _ (by decide +kernel), codeAny_builtin F.entry_type_call ?_⟩
  rw [Around.under_plain (weight_type_call_type "set" [.ref l] []) rfl]; have h1 := F.called_set.notType
  have h2 := F.called_set.canCreate
  have hct := F.typeCall_set_1 (.ref l)
  repeat (any_goals (first | assumption | wp_step))
  refine codeAny_mono (newS_at (.ref l) (E := E) (Q := fun obj s₁ => obj = .ref s.heap.objs.size ∧ s₁ = { s with heap := s.heap.push (setO #[] 0 (.fresh 0 0 (!byT w))) }) ⟨rfl, rfl⟩) fun r s₁ hr => ?_
  cases r with
  | error e => exact hr
  | ok fl =>
    cases fl with
    | ret obj =>
      obtain ⟨rfl, rfl⟩ := hr
      have gS : (s.heap.push (setO #[] 0 (.fresh 0 0 (!byT w)))).get? s.heap.objs.size = some (setO #[] 0 (.fresh 0 0 (!byT w))) := Heap.get?_push_size _ rfl
      have hT : Shared.TypeIs { s with heap := s.heap.push (setO #[] 0 (.fresh 0 0 (!byT w))) } (.ref s.heap.objs.size) "set" := ⟨_, gS, rfl⟩
      have hli := F.called_set.init.lookup
      have hbi := F.called_set.init.bind (.ref s.heap.objs.size)
      repeat (any_goals (first | assumption | wp_step))
      refine codeAny_mono (codeAny_call_builtin (R := wants (fun r s₂ => r = .none ∧ ∃ h' tk L, s₂ = { s with heap := h', toks := tk } ∧ SetAt (byT w) h' s.heap.objs.size L ∧ Dense h' s.heap.objs.size ∧ (∀ u, u ∈ L ↔ u ∈ vals) ∧
          (∀ b o, b < s.heap.objs.size → s.heap.get? b = some o → h'.get? b = some o)) E) F.called_set.init.plain F.entry_set_init (check_set_init_1 hT ?_)) fun r₂ s₂ hr₂ => ?_
      · obtain ⟨ol, hol, hcl, nl, hdl⟩ := hl
        obtain ⟨ocls, odict, odata, oslots⟩ := ol
        simp only at hcl hdl
        subst hcl; subst hdl
        have hol' : (s.heap.push (setO #[] 0 (.fresh 0 0 (!byT w)))).get? l = some { cls := .type "list", dict := odict, data := .seq items nl, slots := oslots } := Heap.get?_push_of_some _ hol
        have hsls := F.sub_list_set
        have hslf := F.sub_list_frozenset
        have hne : (Value.type "list" == Value.type "dict") = false := by decide
        have hl1 : (s.heap.push (setO #[] 0 (.fresh 0 0 (!byT w)))).IsList l items := ⟨_, hol', rfl, nl, rfl⟩
        unfold Builtin.«set.__init__» noKeywords Builtin.Frozenset.updateFrom
        generalize hPI : pyIter = PI
        wp_walk
        subst hPI
        refine wpAny_pyIter_list hl1 (wpAny_bind (wpAny_runValue ?_))
        have ll : l < s.heap.objs.size := Heap.lt_size hol
        have hh3 : A.in1.in1.in1.handled = none := by simp [hh]
        have ni : l ≠ (s.heap.push (setO #[] 0 (.fresh 0 0 (!byT w)))).objs.size := by rw [Heap.size_push]; exact Nat.ne_of_lt (Nat.lt_succ_of_lt ll)
        have nf : s.heap.objs.size ∉ [(s.heap.push (setO #[] 0 (.fresh 0 0 (!byT w)))).objs.size, l] := by
          rw [Heap.size_push]; simp only [List.mem_cons, List.not_mem_nil, or_false, not_or]
          exact ⟨Nat.ne_of_lt (Nat.lt_succ_self _), Nat.ne_of_gt ll⟩
        have hval : ∀ (i : Nat) (v : Value), i < items.size → items[i]? = some v → ∃ t, v = .int (((fun i => vals.getD i 0) i : Nat) : Int) t := fun i v li hv => by
          obtain ⟨t, e⟩ := PyProof.Rows.IntsAre.int_at hi i v (by rw [Array.getElem?_toList]; exact hv)
          have lv : i < vals.length := by omega
          refine ⟨t, ?_⟩
          rw [e]
          simp [List.getD, lv]
        refine fill_at ((Walks.list hh3 _ l ni items).toS) s.heap.objs.size nf (fun i => vals.getD i 0) hval (fun i li => ?_) (items.size - 0) 0 _ [] (by omega) (Nat.zero_le _) ⟨⟨_, Heap.get?_push_size _ rfl, rfl, rfl⟩, (hl1.push _)⟩ ?hS0 ?hD0 (fun u => by simp) ?hR
        · have lv : i < vals.length := by omega
          refine lt _ ?_
          simp [List.getD, lv]
        case hS0 => exact ⟨#[], 0, _, Heap.get?_push_of_some _ gS, .nil, fresh_tb _⟩
        case hD0 => exact ⟨#[], 0, _, Heap.get?_push_of_some _ gS, .inl rfl⟩
        case hR =>
          intro s' L' hm hS' hD' mem
          obtain ⟨h', g', d', tk', os'⟩ := s'
          have eg : g' = s.gens := hm.gens
          have ed : d' = s.drawn := hm.drawn
          have eo : os' = s.os := hm.os
          subst eg; subst ed; subst eo
          show wpAny _ _ _ _ _ _
          refine wpAny_pure ?_
          show wpAny _ _ (ret Value.none) _ _ _; refine wpAny_pure ⟨rfl, h', tk', L', rfl, hS', hD', fun u => ?_, fun b o hb e => ?_⟩
          · rw [mem u]
            constructor
            · rintro ⟨j, hj, rfl⟩
              have lv : j < vals.length := by omega
              simp [List.getD, lv]
            · intro hu
              obtain ⟨j, hj, e⟩ := List.getElem_of_mem hu
              exact ⟨j, by omega, by simp [List.getD, hj, e]⟩
          · have b1 : b ≠ s.heap.objs.size := Nat.ne_of_lt hb
            have b2 : b ≠ (s.heap.push (setO #[] 0 (.fresh 0 0 (!byT w)))).objs.size := by rw [Heap.size_push]; exact Nat.ne_of_lt (Nat.lt_succ_of_lt hb)
            exact hm.heap b o (by simp only [List.mem_cons, List.not_mem_nil, or_false, not_or]; exact ⟨b1, b2⟩) (Heap.get?_push_of_some _ (Heap.get?_push_of_some _ e))
      · cases r₂ with
        | error e => exact hr₂
        | ok fl₂ =>
          cases fl₂ with
          | ret r =>
            obtain ⟨rfl, h', tk, L, rfl, q1, q2, q3, q4⟩ := hr₂
            repeat (any_goals (first | assumption | wp_step))
            exact h _ _ L q1 q2 q3 q4
          | _ => exact hr₂.elim
    | _ => exact hr.elim
end
end Sm

set_option maxHeartbeats 4100000
namespace L2
open PySem PySem.Spec PyProof.Rows Sm
/-- a set of small numbers, as a thing of the heap; d: its table is no greater than it grows by itself -/
def SetV (w : World) (a : Addr) (d : Bool) (L : List Nat) : HO := .ext fun h => SetAt (byT w) h a L ∧ (d = true → Dense h a)
def Small (ns : List Int) : Prop := ∀ n ∈ ns, 0 ≤ n ∧ n < 16
def rSetS (w : World) (K : PySem.W.Frag) : List V → Hp → VK → Prop := fun xs H Q => ∃ l ns, xs = [.ref l] ∧ SqL K H l (List.map V.int ns) ∧ Small ns ∧ ∀ p L H', New H p (SetV w p true L) H' → (∀ u : Nat, u ∈ L ↔ (u : Int) ∈ ns) → Q (.ref p) H'
section
variable {X : Cx} {K : PySem.W.Frag} {w : World}
theorem setV_ok {H : Hp} {h : Heap} {a : Addr} {d : Bool} {L : List Nat} {P : Program} {w' : World} (S : SetAt (byT w) h a L) (D : d = true → Dense h a) : ObjOk P w' H h a (SetV w a d L) := by
  refine ⟨⟨S, D⟩, ?_, ?_⟩
  · obtain ⟨_, _, _, ho, _⟩ := S
    exact ⟨_, ho⟩
  · rintro h1 h2 ⟨s1, d1⟩ k
    exact ⟨s1.keep k, fun e => (d1 e).keep k⟩
theorem call_setS (ek : X.K = K) (ew : X.w = w) (cm : X.calm = true) : CallR X (.type "set") (rSetS w K) := by
  subst ek; subst ew
  intro pins s σ H xs us Q I r h
  obtain ⟨l, ns, rfl, hL, sm, q⟩ := h
  obtain ⟨u, rfl, rx⟩ := vals1 r
  cases rx
  obtain ⟨its, r', pl, hz⟩ := I.list hL
  have hi := ints_of r'
  have e : (ns.map Int.toNat).map (fun v => ((v : Nat) : Int)) = ns := by
    rw [List.map_map]
    have : ∀ n ∈ ns, ((fun v => ((v : Nat) : Int)) ∘ Int.toNat) n = id n := fun n hn => by
      have := (sm n hn).1
      show ((n.toNat : Nat) : Int) = n
      omega
    rw [List.map_congr_left this, List.map_id]
  refine set_at (vals := ns.map Int.toNat) (I.ok.hd cm) pl.isList (by rw [e]; simpa using hi) (fun v hv => ?_) fun h' tk L S D mem k => ?_
  · obtain ⟨n, hn, rfl⟩ := List.mem_map.mp hv
    have := sm n hn
    omega
  · have hf : H s.heap.objs.size = none := I.hok.fresh (Nat.le_refl _)
    refine ⟨.ref s.heap.objs.size, _, I.laid (t' := tk) (o := SetV X.w s.heap.objs.size true L) (fun b o eo => k b o (Heap.lt_size eo) eo) (Nat.le_refl _) (setV_ok S fun _ => D), rfl, q _ L _ (New.mk0 hf) fun u => ?_⟩
    rw [mem u, List.mem_map]
    constructor
    · rintro ⟨n, hn, rfl⟩
      have := (sm n hn).1
      have e2 : ((n.toNat : Nat) : Int) = n := by omega
      rw [e2]; exact hn
    · intro hn
      exact ⟨_, hn, by omega⟩
end
end L2

namespace L2
open PySem PySem.Spec PySem.Calls PyProof.Rows
section
variable {X : Cx}
/-- the numbers of a walk, as values -/
theorem vals_range : ∀ (n : Nat) (acc : List Value), (∀ i : Nat, i < n → ∃ t, acc[i]? = some (Value.int ((i : Nat) : Int) t)) → acc.length = n → Vals ((List.range n).map fun i => V.int ((i : Nat) : Int)) acc
  | 0, acc, _, hl => by rw [List.eq_nil_of_length_eq_zero hl]; exact .nil
  | n + 1, acc, h, hl => by
    have hne : acc ≠ [] := fun z => by rw [z] at hl; cases hl
    have e := (List.dropLast_concat_getLast hne).symm
    have ld : acc.dropLast.length = n := by rw [List.length_dropLast]; omega
    rw [List.range_succ, List.map_append, e]
    refine Vals.append (vals_range n acc.dropLast (fun i hi => ?_) ld) ?_
    · obtain ⟨t, et⟩ := h i (by omega)
      rw [e, List.getElem?_append_left (by omega)] at et
      exact ⟨t, et⟩
    · obtain ⟨t, et⟩ := h n (by omega)
      rw [e, List.getElem?_append_right (by omega), ld] at et
      simp at et
      rw [et]
      exact .cons ⟨t, rfl⟩ .nil
theorem range_list {pins : List (Addr × Obj)} {σ : St} {H : Hp} {s : Shared} {Q : VK} {E : Value → Shared → Prop} {n : Nat} {t u v : Tok} {tk : Nat} (I : Inv X pins σ H s) (cm : X.calm = true) (hn : n ≤ 1000)
    (q : ∀ p H', New H p (.lst ((List.range n).map fun i => V.int ((i : Nat) : Int))) H' → Q (.ref p) H') :
    wpAny (model X.prog X.w) X.A (call (.type "list") [.ref s.heap.objs.size]) (EP X pins σ Q) E { s with heap := s.heap.push { cls := .type "range", data := .fields #[.int 0 t, .int n u, .int 1 v] }, toks := tk } := by
  have I2 : Inv X pins σ H { s with heap := s.heap.push { cls := .type "range", data := .fields #[.int 0 t, .int n u, .int 1 v] }, toks := tk } := I.kept fun b o e => Heap.get?_push_of_some _ e
  refine call_list_range (I2.ok.hd cm) (IsRange.new ..) (small_one (by omega) (by omega) (by omega) (by omega)) (n := n) (by rw [rangeSize_one]; split <;> omega) (by omega) fun h' tk' acc' c' hk hS hacc => ?_
  refine ⟨.ref _, _, I2.laid (t' := tk') hk (Nat.le_refl _) (show ObjOk X.prog X.w _ h' _ (.lst ((List.range n).map fun i => V.int ((i : Nat) : Int))) from ⟨?_, acc'.toList, c', ?_, ?_⟩), rfl, q _ _ (New.mk0 (I2.hok.fresh (Nat.le_refl _)))⟩
  · rw [List.length_map, List.length_range]; exact Nat.le_of_lt (small1000 hn)
  · refine vals_range n _ (fun i hi => ?_) ?_
    · have hlt : i < acc'.size := by have := hacc.1; omega
      obtain ⟨t, e⟩ := hacc.2 i acc'[i] (Array.getElem?_eq_getElem hlt)
      refine ⟨t, ?_⟩
      rw [Array.getElem?_toList, Array.getElem?_eq_getElem hlt, e]
      congr 2
      omega
    · rw [Array.length_toList]; exact hacc.1
  · simpa using hS
/-- list(range(n)) -/
def tListR (ta : TA) : TE := fun σ H Q => ta σ H fun vs H1 => ∃ n : Nat, vs = [.int (n : Int)] ∧ n ≤ 1000 ∧ ∀ p H', New H1 p (.lst ((List.range n).map fun i => V.int ((i : Nat) : Int))) H' → Q (.ref p) H'
theorem pe_listR {a : Expr} {ta : TA} {p p2 pos pos2 : Pos} (cm : X.calm = true) (hm : X.mg "list" = none) (hm2 : X.mg "range" = none) (ha : PA X [a] ta) (hg : Gl X "list" := by rfl) (hg2 : Gl X "range" := by rfl)
    (hs : starEach [a] X.env = [(false, eval a X.env)] := by rfl)
    (he : starEach [Expr.Call (.Name "range" p2) [a] [] pos2] X.env = [(false, eval (Expr.Call (.Name "range" p2) [a] [] pos2) X.env)] := by rfl) :
    PE X (.Call (.Name "list" p) [.Call (.Name "range" p2) [a] [] pos2] [] pos) (tListR ta) := by
  intro pins s σ H Q I h
  refine wpAny_Call_Name_kw (ld_blt I hg hm (show bootBuiltins "list" = some (.type "list") by decide +kernel) ?_)
  refine PyProof.Rows.callWith_type1 ?_ he rfl
  rw [he]
  refine Calls.spliced_cons ?_
  refine Call_ (ld_blt I hg2 hm2 boot_range (PyProof.Rows.callWith_type1 (thn (ha pos2 pins s σ H _ I h) fun us s1 ⟨vs, H1, I1, r1, q1⟩ => ?_) hs rfl))
  obtain ⟨n, e, hn, q⟩ := q1
  subst e
  cases r1 with
  | cons r rr =>
    cases rr
    obtain ⟨t, rfl⟩ := r
    refine call_range_1 ?_
    refine Calls.spliced_nil ?_
    exact range_list I1 cm hn q
end
end L2

namespace L2
open PySem PySem.Spec PyProof.Rows
theorem us1 {A : Type} {us : List A} {P : List A → Prop} (h : us.length = 1) (f : ∀ a, P [a]) : P us := by
  match us, h with
  | [a], _ => exact f a
theorem us2 {A : Type} {us : List A} {P : List A → Prop} (h : us.length = 2) (f : ∀ a b, P [a, b]) : P us := by
  match us, h with
  | [a, b], _ => exact f a b
theorem us3 {A : Type} {us : List A} {P : List A → Prop} (h : us.length = 3) (f : ∀ a b c, P [a, b, c]) : P us := by
  match us, h with
  | [a, b, c], _ => exact f a b c
theorem dn_mk1 {K : PySem.W.Frag} {h : Heap} {mg : Str → Option Value} {x : Str} {st : Stmt} {ps : List Str} {f : Addr} {oc : Value} {od an : Option Addr} {osl : Array (Option Value)} {kV doc pm cdv ct : Value} (X : K.In h) (G : h.Ns mainGlobals mg)
    (a : PySem.W.nsIn K mainGlobals x = some (some (.ref f))) (l : K.lookup f = some ⟨oc, od, .func (PySem.W.fnOf x x (defArgs st) (defBody st) (defScope st) .none kV doc pm an cdv ct), osl⟩) (c : PySem.W.codeIn K cdv x = true) (k : PySem.W.keepIn K (.ref f) = true)
    (hp : ps.length = 1)
    (hb : ∀ (kV doc pm : Value) (an : Option Addr) (cdv ct : Value) (u0 : Value), bindArgs (PySem.W.fnOf x x (defArgs st) (defBody st) (defScope st) .none kV doc pm an cdv ct) ⟨[u0], []⟩ = pure (ps.zip [u0])) :
    Nonempty (Dn K mg x st ps) :=
  dn_mk X G a l c k fun kV doc pm an cdv ct us hl => us1 (P := fun us => bindArgs (PySem.W.fnOf x x (defArgs st) (defBody st) (defScope st) .none kV doc pm an cdv ct) ⟨us, []⟩ = pure (ps.zip us)) (hl.trans hp) fun u0 => hb kV doc pm an cdv ct u0
theorem dn_mk2 {K : PySem.W.Frag} {h : Heap} {mg : Str → Option Value} {x : Str} {st : Stmt} {ps : List Str} {f : Addr} {oc : Value} {od an : Option Addr} {osl : Array (Option Value)} {kV doc pm cdv ct : Value} (X : K.In h) (G : h.Ns mainGlobals mg)
    (a : PySem.W.nsIn K mainGlobals x = some (some (.ref f))) (l : K.lookup f = some ⟨oc, od, .func (PySem.W.fnOf x x (defArgs st) (defBody st) (defScope st) .none kV doc pm an cdv ct), osl⟩) (c : PySem.W.codeIn K cdv x = true) (k : PySem.W.keepIn K (.ref f) = true)
    (hp : ps.length = 2)
    (hb : ∀ (kV doc pm : Value) (an : Option Addr) (cdv ct : Value) (u0 u1 : Value), bindArgs (PySem.W.fnOf x x (defArgs st) (defBody st) (defScope st) .none kV doc pm an cdv ct) ⟨[u0, u1], []⟩ = pure (ps.zip [u0, u1])) :
    Nonempty (Dn K mg x st ps) :=
  dn_mk X G a l c k fun kV doc pm an cdv ct us hl => us2 (P := fun us => bindArgs (PySem.W.fnOf x x (defArgs st) (defBody st) (defScope st) .none kV doc pm an cdv ct) ⟨us, []⟩ = pure (ps.zip us)) (hl.trans hp) fun u0 u1 => hb kV doc pm an cdv ct u0 u1
theorem dn_mk3 {K : PySem.W.Frag} {h : Heap} {mg : Str → Option Value} {x : Str} {st : Stmt} {ps : List Str} {f : Addr} {oc : Value} {od an : Option Addr} {osl : Array (Option Value)} {kV doc pm cdv ct : Value} (X : K.In h) (G : h.Ns mainGlobals mg)
    (a : PySem.W.nsIn K mainGlobals x = some (some (.ref f))) (l : K.lookup f = some ⟨oc, od, .func (PySem.W.fnOf x x (defArgs st) (defBody st) (defScope st) .none kV doc pm an cdv ct), osl⟩) (c : PySem.W.codeIn K cdv x = true) (k : PySem.W.keepIn K (.ref f) = true)
    (hp : ps.length = 3)
    (hb : ∀ (kV doc pm : Value) (an : Option Addr) (cdv ct : Value) (u0 u1 u2 : Value), bindArgs (PySem.W.fnOf x x (defArgs st) (defBody st) (defScope st) .none kV doc pm an cdv ct) ⟨[u0, u1, u2], []⟩ = pure (ps.zip [u0, u1, u2])) :
    Nonempty (Dn K mg x st ps) :=
  dn_mk X G a l c k fun kV doc pm an cdv ct us hl => us3 (P := fun us => bindArgs (PySem.W.fnOf x x (defArgs st) (defBody st) (defScope st) .none kV doc pm an cdv ct) ⟨us, []⟩ = pure (ps.zip us)) (hl.trans hp) fun u0 u1 u2 => hb kV doc pm an cdv ct u0 u1 u2
end L2

namespace L2
open PySem PySem.Spec PyProof.Rows

/-! ### lists of pairs as tables -/
section
variable {κ : Type} [DecidableEq κ]
def valV (kvs : List (κ × V)) (k : κ) : Option V := (kvs.find? fun kv => decide (kv.1 = k)).map (·.2)
/-- in its place, or at the end -/
def putK (kvs : List (κ × V)) (k : κ) (v : V) : List (κ × V) :=
  if (kvs.any fun kv => decide (kv.1 = k)) = true then kvs.map (fun kv => if kv.1 = k then (kv.1, v) else kv) else kvs ++ [(k, v)]

theorem valV_pos {p : κ × V} {r : List (κ × V)} {k : κ} (e : p.1 = k) : valV (p :: r) k = some p.2 := by simp [valV, List.find?_cons, e]
theorem valV_neg {p : κ × V} {r : List (κ × V)} {k : κ} (e : ¬ p.1 = k) : valV (p :: r) k = valV r k := by simp [valV, List.find?_cons, e]
theorem valV_any (k : κ) : ∀ kvs : List (κ × V), (kvs.any fun kv => decide (kv.1 = k)) = (valV kvs k).isSome
  | [] => rfl
  | p :: r => by
    rw [List.any_cons]
    by_cases e : p.1 = k
    · simp only [valV_pos e, decide_eq_true e, Bool.true_or, Option.isSome_some]
    · rw [valV_neg e, decide_eq_false e, Bool.false_or]; exact valV_any k r
theorem length_putK (kvs : List (κ × V)) (k : κ) (v : V) : (putK kvs k v).length ≤ kvs.length + 1 := by
  unfold putK
  split
  · rw [List.length_map]; omega
  · rw [List.length_append, List.length_cons, List.length_nil]; omega

theorem RelO.isSome_eq {o : Option V} {u : Option Value} (r : RelO o u) : o.isSome = u.isSome := by
  cases o with
  | none => cases u with
    | none => rfl
    | some _ => exact (show False from r).elim
  | some _ => cases u with
    | none => exact (show False from r).elim
    | some _ => rfl

theorem KV.any {kvs : List (κ × V)} {vs : List (κ × Value)} (r : KV kvs vs) (k : κ) : (kvs.any fun kv => decide (kv.1 = k)) = vs.any fun kv => decide (kv.1 = k) := by
  unfold KV at r
  induction r with
  | nil => rfl
  | cons h t ih => rw [List.any_cons, List.any_cons, ih, h.1]
theorem KV.repl {kvs : List (κ × V)} {vs : List (κ × Value)} (r : KV kvs vs) (k : κ) {y : V} {u : Value} (ry : RelV y u) :
    KV (kvs.map fun kv => if kv.1 = k then (kv.1, y) else kv) (vs.map fun kv => if kv.1 = k then (kv.1, u) else kv) := by
  unfold KV at r ⊢
  induction r with
  | nil => exact .nil
  | @cons p q ps qs h t ih =>
    rw [List.map_cons, List.map_cons]
    refine .cons ?_ ih
    obtain ⟨h1, h2⟩ := h
    by_cases e : p.1 = k
    · rw [if_pos e, if_pos (h1.symm.trans e)]; exact ⟨h1, ry⟩
    · rw [if_neg e, if_neg (fun z => e (h1.trans z))]; exact ⟨h1, h2⟩
theorem KV.put {kvs : List (κ × V)} {vs : List (κ × Value)} (r : KV kvs vs) (k : κ) {y : V} {u : Value} (ry : RelV y u) : KV (putK kvs k y) (stored vs k u) := by
  unfold putK stored
  rw [r.any k]
  by_cases e : (vs.any fun kv => decide (kv.1 = k)) = true
  · rw [if_pos e, if_pos e]; exact r.repl k ry
  · rw [if_neg e, if_neg e]; exact Paired.snoc r ⟨rfl, ry⟩
theorem KV.length {kvs : List (κ × V)} {vs : List (κ × Value)} (r : KV kvs vs) : kvs.length = vs.length := Paired.length r
end


/-! ### a tracked dict, its keys ints and texts or tuples of these -/
theorem kV_is {P : Program} {w : World} {k : Key} {u : Value} (r : RelV (kV k) u) : (mixKind P w).is k u = true := by
  cases k with
  | inl i => obtain ⟨t, e⟩ := (show ∃ t, u = Value.int i t from r); subst e; exact mixKind_int P w i t
  | inr x => obtain ⟨t, e⟩ := (show ∃ t, u = Value.str x t from r); subst e; exact mixKind_str P w x t
theorem items_are {P : Program} {w : World} : ∀ {ks : List Key} {us : List Value}, Vals (ks.map kV) us → ItemsAre (mixKind P w) ks us
  | [], _, r => by rw [List.map_nil] at r; cases r; exact .nil
  | k :: ks, _, r => by
    rw [List.map_cons] at r
    cases r with
    | cons h t => exact .cons (kV_is h) (items_are t)

/-- raw entries of a dict with tuple keys -/
abbrev KT (H : Hp) : List (List Key × V) → List (List Key × Addr × Value) → Prop := Paired fun p q => p.1 = q.1 ∧ H q.2.1 = some (.tup (p.1.map kV)) ∧ RelV p.2 q.2.2
theorem KT.val {H : Hp} {kvs : List (List Key × V)} {xs : List (List Key × Addr × Value)} (r : KT H kvs xs) (k : List Key) : RelO (valV kvs k) ((atKey xs k).map (·.2)) := by
  induction r with
  | nil => exact True.intro
  | @cons p q ps qs h t ih =>
    obtain ⟨h1, _, h2⟩ := h
    by_cases e : p.1 = k
    · have e' : q.1 = k := h1.symm.trans e
      have b : atKey (q :: qs) k = some q.2 := by simp [atKey, List.find?_cons, e']
      rw [valV_pos e, b]; exact h2
    · have e' : ¬ q.1 = k := fun z => e (h1.trans z)
      have b : atKey (q :: qs) k = atKey qs k := by simp [atKey, List.find?_cons, e']
      rw [valV_neg e, b]; exact ih
theorem KT.repl {H : Hp} {kvs : List (List Key × V)} {xs : List (List Key × Addr × Value)} (r : KT H kvs xs) (k : List Key) {y : V} {u : Value} (ry : RelV y u) :
    KT H (kvs.map fun kv => if kv.1 = k then (kv.1, y) else kv) (xs.map (putAt k u)) := by
  induction r with
  | nil => exact .nil
  | @cons p q ps qs h t ih =>
    rw [List.map_cons, List.map_cons]
    refine .cons ?_ ih
    obtain ⟨h1, h2, h3⟩ := h
    unfold putAt
    by_cases e : p.1 = k
    · rw [if_pos e, if_pos (h1.symm.trans e)]; exact ⟨h1, h2, ry⟩
    · rw [if_neg e, if_neg (fun z => e (h1.trans z))]; exact ⟨h1, h2, h3⟩
theorem KT.put {H : Hp} {kvs : List (List Key × V)} {xs : List (List Key × Addr × Value)} (r : KT H kvs xs) (k : List Key) {b : Addr} {y : V} {u : Value} (hb : H b = some (.tup (k.map kV))) (ry : RelV y u) :
    KT H (putK kvs k y) (storedH xs k b u) := by
  have e : (kvs.any fun kv => decide (kv.1 = k)) = (atKey xs k).isSome := by
    rw [valV_any, (r.val k).isSome_eq, Option.isSome_map]
  unfold putK storedH
  rw [e]
  by_cases q : (atKey xs k).isSome = true
  · rw [if_pos q, if_pos q]; exact r.repl k ry
  · rw [if_neg q, if_neg q]; exact Paired.snoc r ⟨rfl, hb, ry⟩
theorem KT.keeps {H H' : Hp} {kvs : List (List Key × V)} {xs : List (List Key × Addr × Value)} (r : KT H kvs xs) (ht : ∀ b ys, H b = some (.tup ys) → H' b = some (.tup ys)) : KT H' kvs xs :=
  Paired.mapP r fun _ _ z => ⟨z.1, ht _ _ z.2.1, z.2.2⟩

section
variable {P : Program} {w : World} {H : Hp} {h : Heap} {a : Addr}
theorem rd_of {u : HO} (ok : HOk P w H h) (e : Rd H a u) : ObjOk P w H h a u := e.ok ok
theorem dk_rd {kvs : List (Key × V)} (ok : HOk P w H h) (e : Rd H a (.dK kvs)) : kvs.length ≤ sizeLine ∧ (a == sysModules) = false ∧ ∃ vs, KV kvs vs ∧ h.DictOf (mixKind P w) a vs :=
  show ObjOk P w H h a (.dK kvs) from rd_of ok e
theorem dk_of {kvs : List (Key × V)} (ok : HOk P w H h) (e : H a = some (.dK kvs)) : kvs.length ≤ sizeLine ∧ (a == sysModules) = false ∧ ∃ vs, KV kvs vs ∧ h.DictOf (mixKind P w) a vs := dk_rd ok (.inl e)
/-- a tracked tuple of ints and texts is a key -/
theorem key_of {ks : List Key} (ok : HOk P w H h) (e : H a = some (.tup (ks.map kV))) : (tupleKind (mixKind P w)).is h ks a := by
  obtain ⟨_, its, r, o, h1, h2, n, h3⟩ := (show ObjOk P w H h a (.tup (ks.map kV)) from ok a _ e)
  exact ⟨o, its.toArray, n, h1, h2, h3, by simpa using items_are r⟩
theorem dt_rd {kvs : List (List Key × V)} (ok : HOk P w H h) (e : Rd H a (.dT kvs)) : kvs.length ≤ sizeLine ∧ (a == sysModules) = false ∧
    ∃ xs, KT H kvs xs ∧ h.DictOfH (tupleKind (mixKind P w)) a xs := by
  obtain ⟨z, y, xs, r, o, es, ep, h1, h2, h3, h4, h5⟩ := (show ObjOk P w H h a (.dT kvs) from rd_of ok e)
  refine ⟨z, y, xs, r, o, es, ep, h1, h2, h3, h4, fun x hx => ?_, h5⟩
  have all : ∀ {l : List (List Key × V)} {m : List (List Key × Addr × Value)}, KT H l m → ∀ x ∈ m, (tupleKind (mixKind P w)).is h x.1 x.2.1 := by
    intro l m q
    induction q with
    | nil => intro x hx; exact nomatch hx
    | @cons p q ps qs hq t ih =>
      intro x hx
      rcases List.mem_cons.mp hx with e | hx
      · subst e
        exact key_of ok (by rw [← hq.1]; exact hq.2.1)
      · exact ih x hx
  exact all r x hx
theorem dt_of {kvs : List (List Key × V)} (ok : HOk P w H h) (e : H a = some (.dT kvs)) : kvs.length ≤ sizeLine ∧ (a == sysModules) = false ∧
    ∃ xs, KT H kvs xs ∧ h.DictOfH (tupleKind (mixKind P w)) a xs := dt_rd ok (.inl e)
end

/-- the heap behind a[y] = v -/
def DPut (H : Hp) (a : Addr) (y v : V) (H' : Hp) : Prop :=
  (∃ kvs k, H a = some (.dK kvs) ∧ y = kV k ∧ kvs.length < sizeLine ∧ H' = upd H a (.dK (putK kvs k v))) ∨
  ∃ kvs k b, H a = some (.dT kvs) ∧ y = .ref b ∧ H b = some (.tup (k.map kV)) ∧ kvs.length < sizeLine ∧ H' = upd H a (.dT (putK kvs k v))
theorem DPut.t {H : Hp} {a b : Addr} {kvs : List (List Key × V)} {k : List Key} {v : V} (e : H a = some (.dT kvs)) (eb : H b = some (.tup (k.map kV))) (hl : kvs.length < sizeLine) :
    DPut H a (.ref b) v (upd H a (.dT (putK kvs k v))) := .inr ⟨kvs, k, b, e, rfl, eb, hl, rfl⟩


section
variable {X : Cx} {pins : List (Addr × Obj)} {σ : St} {H : Hp} {s : Shared} {a : Addr} {y v : V} {u r : Value} {o : Option V} {A : Around} {E : Value → Shared → Prop}

theorem Inv.big (I : Inv X pins σ H s) : sysModules < s.heap.objs.size := by
  have h : mainGlobals < s.heap.objs.size := (I.mod.glob.keeps I.bk).lt
  exact Nat.lt_trans (by decide) h

/-- a dict's object is replaced -/
theorem d_write {h' : Heap} {t' : Nat} {ob : HO} (I : Inv X pins σ H s) (mu : Mut (H a)) (hs : Heap.SameBut a s.heap h') (he : ∃ q, h'.get? a = some q) (new : ObjOk X.prog X.w (upd H a ob) h' a ob) :
    Inv X pins σ (upd H a ob) { s with heap := h', toks := t' } :=
  I.write (x := a) (e := a) mu (.inl rfl) (fun b q hb z => (hs.2 b hb).trans z) he new
theorem dk_new {P : Program} {w : World} {H' : Hp} {h' : Heap} {kvs : List (Key × V)} {vs : List (Key × Value)} (z : kvs.length ≤ sizeLine) (hd : (a == sysModules) = false) (rel : KV kvs vs) (dd : h'.DictOf (mixKind P w) a vs) :
    ObjOk P w H' h' a (.dK kvs) := ⟨z, hd, vs, rel, dd⟩
/-- d[y] = v -/
theorem d_setItem {H' : Hp} {Q : Unit → Shared → Prop} (hu : A.units + 1 < cLine) (I : Inv X pins σ H s) (g : DPut H a y v H') (ry : RelV y u) (rv : RelV v r) (h : ∀ s', Inv X pins σ H' s' → Q () s') :
    wpAny (model X.prog X.w) A (setItem (.ref a) u r) Q E s := by
  rcases g with ⟨kvs, k, e, ey, l, eH⟩ | ⟨kvs, k, b, e, ey, eb, l, eH⟩
  · subst ey eH
    obtain ⟨z, hd, vs, rel, dd⟩ := dk_of I.hok e
    have hz : vs.length ≤ sizeLine := by rw [← rel.length]; exact z
    have hl : (putK kvs k v).length ≤ sizeLine := by have := length_putK kvs k v; omega
    refine wpAny_setItem_pairs (hsz := hz) (kV_is ry) dd fun h' dd' hs => h _ ?_
    have he : ∃ q, h'.get? a = some q := let ⟨q, _, _, hq, _⟩ := dd'; ⟨q, hq⟩
    exact d_write I (by rw [e]; exact True.intro) hs he (dk_new hl hd (rel.put k rv) dd')
  · subst ey eH
    cases (show u = Value.ref b from ry)
    obtain ⟨z, hd, xs, rel, dd⟩ := dt_of I.hok e
    have hz : xs.length ≤ sizeLine := by rw [← Paired.length rel]; exact z
    have hl : (putK kvs k v).length ≤ sizeLine := by have := length_putK kvs k v; omega
    refine wpAny_setItem_heap (hsz := hz) (tupleKind_room_in1 hu) (key_of I.hok eb) dd fun h' dd' hs => h _ ?_
    obtain ⟨q, es, ep, hq, h2, h3, h4, _, h5⟩ := dd'
    refine d_write I (by rw [e]; exact True.intro) hs ⟨q, hq⟩ ⟨hl, hd, _, (rel.put k eb rv).keeps fun c ys ec => ?_, q, es, ep, hq, h2, h3, h4, h5⟩
    rw [upd_ne (ne_of ec e (fun z => nomatch z))]
    exact ec
end

section
variable {X : Cx} {pins : List (Addr × Obj)} {σ : St} {H : Hp} {s : Shared} {a : Addr} {kvs : List (Key × V)} {k : Key} {u : Value} {A : Around} {E : Value → Shared → Prop}
end


/-! ### readings and rules -/



section
variable {X : Cx} {o i e value : Expr} {pos pos' tpos : Pos} {td ty tv : TE}
end


/-! ### displays -/
theorem dt_empty {P : Program} {w : World} {H : Hp} (h : Heap) (hb : sysModules < h.objs.size) : ObjOk P w H (h.push { cls := .type "dict", data := .dict #[] }) h.objs.size (.dT []) :=
  ⟨Nat.zero_le _, beq_eq_false_iff_ne.mpr (Ne.symm (Nat.ne_of_lt hb)), [], .nil, _, #[], 0, Heap.get?_push_size _ rfl, ⟨rfl, rfl, rfl⟩, rfl, rfl, List.nodup_nil⟩
def tDNewT : TE := fun _ H Q => ∀ p, H p = none → Q (.ref p) (upd H p (.dT []))
section
variable {X : Cx} {pos : Pos}
theorem pe_dnewT : PE X (.Dict [] [] pos) tDNewT := fun pins s σ H Q I h =>
  wpAny_Dict_empty ⟨.ref s.heap.objs.size, _, I.laid (a := s.heap.objs.size) (o := .dT []) (t' := s.toks) (fun _ _ q => Heap.get?_push_of_some _ q) (Nat.le_refl _) (dt_empty s.heap I.big), rfl, h _ (I.hok.fresh (Nat.le_refl _))⟩
end




end L2

namespace L2
open PySem PySem.Spec PyProof.Rows
section
variable {X : Cx}
end
end L2

namespace L2
open PySem PySem.Spec PyProof.Rows
section
variable {X : Cx} {pins : List (Addr × Obj)} {σ : St} {H : Hp} {s : Shared} {d : Addr} {kvs : List (Key × V)}
/-- another word about a tracked thing, of the same object -/
theorem Inv.reword {o o' : HO} (I : Inv X pins σ H s) (e : H d = some o) (nt : ∀ xs, o ≠ .tup xs) (no : ∀ y, o ≠ .own y) (nb : ∀ ps, o ≠ .tbl ps) (nf : ∀ b u, X.H₀ d ≠ some (.frz b u)) (q : ObjOk X.prog X.w H s.heap d o') : Inv X pins σ (upd H d o') s := by
  have ne : ∀ b, H b = none → b ≠ d := fun b n z => by rw [z, e] at n; cases n
  have nn : ∀ b, H b = none → upd H d o' b = none := fun b n => by rw [upd_ne (ne b n)]; exact n
  have ho : ∀ b c, H b = some (.own c) → upd H d o' b = some (.own c) := fun b c r => by
    rw [upd_ne]
    · exact r
    · intro z; rw [z, e] at r; exact no c (Option.some.inj r)
  have ht : ∀ b xs, H b = some (.tup xs) → upd H d o' b = some (.tup xs) := fun b xs r => by
    rw [upd_ne]
    · exact r
    · intro z; rw [z, e] at r; exact nt xs (Option.some.inj r)
  refine ⟨I.ok, I.os, I.bare, ⟨I.base.keep, I.base.slot, fun b ob q1 q2 q3 => nn b (I.base.free b ob q1 q2 q3), I.base.there, fun b xs r => ht b xs (I.base.tups b xs r), fun b ob u r => ?_, fun b ps r => ?_⟩, I.loc, I.cell, nn _ I.free, fun x c r => nn c (I.freeC x c r), fun p hp => ?_, fun b u r => ?_, I.len⟩
  · rw [upd_ne]
    · exact I.base.frzs b ob u r
    · intro z; rw [z] at r; exact nf ob u r
  · obtain ⟨m, r1⟩ := I.base.tbls b ps r
    refine ⟨m, ?_⟩
    rw [upd_ne]
    · exact r1
    · intro z; rw [z, e] at r1; exact nb _ (Option.some.inj r1)
  · obtain ⟨p1, p2, p3⟩ := I.pin p hp
    exact ⟨p1, nn _ p2, p3⟩
  · by_cases c : b = d
    · subst c
      rw [upd_same] at r
      cases r
      exact q.stay (fun _ _ _ z => z) (fun c r => ho c b r) ht
    · rw [upd_ne c] at r
      exact (I.hok b u r).stay (fun _ _ _ z => z) (fun c r => ho c b r) ht
theorem Inv.nofrz {o : HO} (I : Inv X pins σ H s) (e : H d = some o) (nf : ∀ b u, o ≠ .frz b u) : ∀ b u, X.H₀ d ≠ some (.frz b u) := fun b u z => by
  have := I.base.frzs d b u z
  rw [e] at this
  exact nf b u (Option.some.inj this)
theorem Inv.thaw {o : Obj} {u : HO} (I : Inv X pins σ H s) (nf : ∀ b u, X.H₀ d ≠ some (.frz b u)) (e : H d = some (.frz o u)) : Inv X pins σ (upd H d u) s := by
  obtain ⟨_, q⟩ := I.hok d _ e
  exact I.reword e (fun _ z => by cases z) (fun _ z => by cases z) (fun _ z => by cases z) nf q
end
section
variable {X : Cx} {tg : Expr}
end
end L2

namespace L2
open PySem PySem.Spec PyProof.Rows
end L2

namespace L2
open PySem PySem.Spec PyProof.Rows
section
variable {X : Cx}
end
end L2

namespace L2
open PySem PySem.Spec PyProof.Rows
theorem it_T {c : Prop} [Decidable c] {a b : Prop} (hc : c) (h : a) : if c then a else b := by rw [if_pos hc]; exact h
theorem it_F {c : Prop} [Decidable c] {a b : Prop} (hc : ¬ c) (h : b) : if c then a else b := by rw [if_neg hc]; exact h
section
variable {X : Cx} {pos : Pos}
end
end L2

namespace L2
open PySem PySem.Spec PyProof.Rows
/-- a pair of whole numbers as a dict's key -/
def pK (t : Int × Int) : List Key := [.inl t.1, .inl t.2]
theorem pK_inj {s t : Int × Int} (h : pK s = pK t) : s = t := by
  unfold pK at h
  injection h with h1 h2
  injection h2 with h2 _
  injection h1 with h1
  injection h2 with h2
  exact Prod.ext h1 h2
/-- a dict that holds True at each of the pairs -/
def dP (ts : List (Int × Int)) : List (List Key × V) := ts.map fun t => (pK t, V.bl true)
theorem dP_any (ts : List (Int × Int)) (t : Int × Int) : ((dP ts).any fun kv => decide (kv.1 = pK t)) = decide (t ∈ ts) := by
  unfold dP
  rw [List.any_map, Bool.eq_iff_iff, List.any_eq_true, decide_eq_true_iff]
  constructor
  · rintro ⟨s, hs, e⟩
    have e' : pK s = pK t := of_decide_eq_true e
    exact pK_inj e' ▸ hs
  · exact fun h => ⟨t, h, decide_eq_true rfl⟩
def putP (ts : List (Int × Int)) (t : Int × Int) : List (Int × Int) := if t ∈ ts then ts else ts ++ [t]
theorem dP_put (ts : List (Int × Int)) (t : Int × Int) : putK (dP ts) (pK t) (.bl true) = dP (putP ts t) := by
  unfold putK putP
  rw [dP_any]
  by_cases c : t ∈ ts
  · rw [if_pos (decide_eq_true c), if_pos c]
    unfold dP
    rw [List.map_map]
    refine List.map_congr_left fun s _ => ?_
    show (if pK s = pK t then (pK s, V.bl true) else (pK s, V.bl true)) = _
    rw [ite_self]
  · rw [if_neg (fun z => c (of_decide_eq_true z)), if_neg c]
    unfold dP
    rw [List.map_append]
    rfl
theorem dP_len (ts : List (Int × Int)) : (dP ts).length = ts.length := List.length_map _
theorem putP_len (ts : List (Int × Int)) (t : Int × Int) : (putP ts t).length ≤ ts.length + 1 := by
  unfold putP
  split
  · omega
  · rw [List.length_append]; exact Nat.le_refl _
theorem mem_putP {ts : List (Int × Int)} {t s : Int × Int} : s ∈ putP ts t ↔ s ∈ ts ∨ s = t := by
  unfold putP
  split
  · rename_i h
    exact ⟨.inl, fun z => z.elim id fun e => e ▸ h⟩
  · rw [List.mem_append, List.mem_singleton]
section
variable {X : Cx}
def rPutP : TSet := fun o i v H Q => ∃ (a b : Addr) (t : Int × Int) (ts : List (Int × Int)), o = .ref a ∧ i = .ref b ∧ v = .bl true ∧ H b = some (.tup [.int t.1, .int t.2]) ∧ H a = some (.dT (dP ts)) ∧ ts.length ≤ 5000 ∧ ∀ H', Chg H a (.dT (dP (putP ts t))) H' → Q H'
theorem set_dictP (hu : X.A.units + 1 < cLine) : PSet X rPutP := by
  intro pins s σ H o i v ov iv u Q I ro ri rv h
  obtain ⟨a, b, t, ts, rfl, rfl, rfl, hb, e, z, q⟩ := h
  obtain rfl : ov = Value.ref a := ro
  refine d_setItem hu I (DPut.t (k := pK t) e hb (by rw [dP_len]; exact Nat.lt_of_le_of_lt z (by decide))) ri rv fun s' I' => ⟨_, I', ?_⟩
  rw [dP_put]
  exact q _ Chg.mk0
end
end L2

namespace Dq
open PySem PySem.Spec PyProof.Rows
variable {prog : Program} {w : World} {A : Around} {E : Value → Shared → Prop} {s : Shared}
abbrev kO (d : Addr) (i n ep : Nat) : Obj := { cls := .type "dict_keyiterator", data := .fields #[.ref d, .int (i : Nat) 0, .int (n : Nat) 0, .int (ep : Nat) 0] }
theorem args_next (a : Value) : argsOk "dict_keyiterator.__next__" ⟨[a], []⟩ := by unfold argsOk; kernel_rfl
theorem mro_key : ∃ l, mroOf (.type "dict_keyiterator") = pure l ∧ (["dict_reversekeyiterator", "dict_reversevalueiterator", "dict_reverseitemiterator"].any fun t => l.contains (Value.type t)) = false ∧ (["dict_keyiterator", "dict_reversekeyiterator"].any fun t => l.contains (Value.type t)) = true := ⟨_, rfl, by decide +kernel, by decide +kernel⟩
theorem isOne_no {Q : Bool → Shared → Prop} {I : Addr} (hT : s.TypeIs (.ref I) "dict_keyiterator") (h : Q false s) : wpAny (model prog w) A (Builtin.Dict_items.isOneOf (.ref I) ["dict_reversekeyiterator", "dict_reversevalueiterator", "dict_reverseitemiterator"]) Q E s := by
  obtain ⟨l, e, n, _⟩ := mro_key
  unfold Builtin.Dict_items.isOneOf
  refine wpAny_bind (wpAny_typeOf hT ?_)
  rw [e]
  refine wpAny_bind (wpAny_pure (wpAny_pure ?_))
  rw [n]
  exact h
theorem isOne_yes {Q : Bool → Shared → Prop} {I : Addr} (hT : s.TypeIs (.ref I) "dict_keyiterator") (h : Q true s) : wpAny (model prog w) A (Builtin.Dict_items.isOneOf (.ref I) ["dict_keyiterator", "dict_reversekeyiterator"]) Q E s := by
  obtain ⟨l, e, _, n⟩ := mro_key
  unfold Builtin.Dict_items.isOneOf
  refine wpAny_bind (wpAny_typeOf hT ?_)
  rw [e]
  refine wpAny_bind (wpAny_pure (wpAny_pure ?_))
  rw [n]
  exact h
theorem item_at {I d : Addr} {o : Obj} {es : Array DictEntry} {ep i : Nat} {e : DictEntry} {Q : Option Value → Shared → Prop} (ne : d ≠ I) (ho : s.heap.get? d = some o) (hd : o.data = .dict es ep) (hI : s.heap.get? I = some (kO d i es.size ep)) (hx : es[i]? = some e)
    (h : ∀ h', h'.get? I = some (kO d (i + 1) es.size ep) → Heap.SameBut I s.heap h' → Q (some e.key) { s with heap := h' }) : wpAny (model prog w) A (pyNext (.ref I)) Q E s := by
  have hT : s.TypeIs (.ref I) "dict_keyiterator" := ⟨_, hI, rfl⟩
  unfold pyNext
  refine wpAny_bind (wpAny_attempt (wpAny_callSpecial?_slot (name := Str.ofString "__next__") hT F.slot_dict_keyiterator_next (wpAny_call_entry F.slot_dict_keyiterator_next hT F.entry_dict_keyiterator_next ?_ (args_next _))))
  unfold Builtin.«dict_keyiterator.__next__»
  refine wpAny_bind (m := Builtin.Dict_items.slot0 "__next__" _) (wpAny_pure ?_)
  dsimp only
  refine wpAny_bind ?_
  refine wpAny_bind ?_
  refine wpAny_bind (m := typeNameOfWhole _) (wpAny_typeNameOfWhole_keyiter hT ?_)
  rw [show (if Builtin.Dict_items.ownsTuple "dict_keyiterator" = true then 2 else 0) = 0 from rfl]
  refine wpAny_pure ?_
  refine wpAny_bind (wpAny_fieldsOf hI rfl ?_)
  show wpAny _ _ (if (Value.ref d == Value.none) = true then _ else _) _ _ _
  refine wpAny_ite (L2.it_F (by simp) ?_)
  refine wpAny_bind (m := Builtin.Dict_items.addrOf _) (wpAny_pure ?_)
  refine wpAny_bind (wpAny_dictEntries ho hd ?_)
  refine wpAny_ite (L2.it_F (by simp) ?_)
  refine wpAny_bind (m := Builtin.Dict_items.addrOf _) (wpAny_pure ?_)
  refine wpAny_bind (wpAny_dictEpoch ho hd ?_)
  refine wpAny_ite (L2.it_F (by simp) ?_)
  refine wpAny_pure ?_
  dsimp only
  have e1 : (if (i : Int) < 0 then none else es[(i : Int).toNat]?) = some e := by
    rw [if_neg (by omega), Int.toNat_natCast]; exact hx
  rw [e1]
  dsimp only
  refine wpAny_bind ?_
  refine wpAny_bind (m := typeNameOfWhole _) (wpAny_typeNameOfWhole_keyiter hT ?_)
  rw [show (if Builtin.Dict_items.ownsTuple "dict_keyiterator" = true then 2 else 0) = 0 from rfl]
  refine wpAny_pure ?_
  refine wpAny_bind (isOne_no hT ?_)
  refine wpAny_bind (wpAny_setField_rec hI (by simp) fun h1 hI1 sb1 => ?_)
  have hT1 : Shared.TypeIs { s with heap := h1 } (.ref I) "dict_keyiterator" := ⟨_, hI1, rfl⟩
  refine wpAny_bind (wpAny_holding ?_)
  refine wpAny_bind (isOne_yes hT1 ?_)
  refine wpAny_ite (L2.it_T rfl ?_)
  refine wpAny_pure (wpAny_pure ⟨_, rfl, wpAny_pure (h h1 ?_ sb1)⟩)
  rw [hI1]
  simp [rawInt]
theorem end_at {I d : Addr} {o : Obj} {es : Array DictEntry} {ep : Nat} {Q : Option Value → Shared → Prop} (hh : A.handled = none) (ne : d ≠ I) (ho : s.heap.get? d = some o) (hd : o.data = .dict es ep) (hI : s.heap.get? I = some (kO d es.size es.size ep))
    (h : ∀ h', Heap.ExtBut I s.heap h' → Q none { s with heap := h' }) : wpAny (model prog w) A (pyNext (.ref I)) Q E s := by
  have hT : s.TypeIs (.ref I) "dict_keyiterator" := ⟨_, hI, rfl⟩
  unfold pyNext
  refine wpAny_bind (wpAny_attempt (wpAny_callSpecial?_slot (name := Str.ofString "__next__") hT F.slot_dict_keyiterator_next (wpAny_call_entry F.slot_dict_keyiterator_next hT F.entry_dict_keyiterator_next ?_ (args_next _))))
  unfold Builtin.«dict_keyiterator.__next__»
  refine wpAny_bind (m := Builtin.Dict_items.slot0 "__next__" _) (wpAny_pure ?_)
  dsimp only
  refine wpAny_bind ?_
  refine wpAny_bind ?_
  refine wpAny_bind (m := typeNameOfWhole _) (wpAny_typeNameOfWhole_keyiter hT ?_)
  rw [show (if Builtin.Dict_items.ownsTuple "dict_keyiterator" = true then 2 else 0) = 0 from rfl]
  refine wpAny_pure ?_
  refine wpAny_bind (wpAny_fieldsOf hI rfl ?_)
  show wpAny _ _ (if (Value.ref d == Value.none) = true then _ else _) _ _ _
  refine wpAny_ite (L2.it_F (by simp) ?_)
  refine wpAny_bind (m := Builtin.Dict_items.addrOf _) (wpAny_pure ?_)
  refine wpAny_bind (wpAny_dictEntries ho hd ?_)
  refine wpAny_ite (L2.it_F (by simp) ?_)
  refine wpAny_bind (m := Builtin.Dict_items.addrOf _) (wpAny_pure ?_)
  refine wpAny_bind (wpAny_dictEpoch ho hd ?_)
  refine wpAny_ite (L2.it_F (by simp) ?_)
  refine wpAny_pure ?_
  dsimp only
  have e1 : (if (es.size : Int) < 0 then none else es[(es.size : Int).toNat]?) = none := by
    rw [if_neg (by omega), Int.toNat_natCast]; simp
  rw [e1]
  dsimp only
  refine wpAny_bind ?_
  refine wpAny_bind (m := typeNameOfWhole _) (wpAny_typeNameOfWhole_keyiter hT ?_)
  rw [show (if Builtin.Dict_items.ownsTuple "dict_keyiterator" = true then 2 else 0) = 0 from rfl]
  refine wpAny_pure ?_
  refine wpAny_bind (wpAny_setField_rec hI (by simp) fun h1 hI1 sb1 => ?_)
  refine wpAny_bind ?_
  simp only [newExc, newTuple]
  refine wpAny_bind (wpAny_newObj_type ?_ (by size_fits))
  refine wpAny_bind (m := firstArgMember _ _) (wpAny_of_eq (a := Value.none) (by first | rfl | (simp only [firstArgMember]; rfl)) ?_); refine wpAny_newObj_type ?_ (by size_fits)
  simp only [raiseNew]
  refine wpAny_bind (wpAny_handled ?_)
  rw [show A.in1.handled = none from hh]; refine wpAny_bind (wpAny_pure (wpAny_throw ?_))
  refine wpAny_bind (wpAny_isInstance (U := "StopIteration") (T := "StopIteration") (b := true) ⟨_, Heap.get?_push_size _ rfl, rfl⟩ isSubtype_stop ?_)
  exact wpAny_pure (h _ ((sb1.extBut.push _).push _))
theorem iter_at {d : Addr} {o : Obj} {es : Array DictEntry} {ep : Nat} {Q : Value → Shared → Prop} (hs : (d == sysModules) = false) (ho : s.heap.get? d = some o) (hx : o.ExactDict) (hd : o.data = .dict es ep)
    (h : Q (.ref s.heap.objs.size) { s with heap := s.heap.push (kO d 0 es.size ep) }) : wpAny (model prog w) A (pyIter (.ref d)) Q E s := by
  have hT : s.TypeIs (.ref d) "dict" := ⟨_, ho, hx.1⟩
  refine wpAny_pyIter_slot hT F.slot_dict_iter (wpAny_call_entry F.slot_dict_iter hT F.entry_dict_iter ?_ (F.args_dict_iter_1 _))
  unfold Builtin.«dict.__iter__»
  refine wpAny_bind ?_
  unfold Builtin.Dict.dictSlotNone
  refine wpAny_bind (wpAny_notOrdered_dict hT ?_)
  refine wpAny_bind (m := slotArgs "__iter__" 0 _) (wpAny_pure (wpAny_pure ?_))
  refine wpAny_bind (m := Builtin.Dict.addrOf _) (wpAny_pure ?_)
  refine wpAny_bind ?_
  unfold Builtin.Dict.showsAll
  refine wpAny_ite (L2.it_F (by rw [hs]; decide) (wpAny_pure ?_))
  refine wpAny_bind (wpAny_dictEntries ho hd ?_)
  refine wpAny_bind (wpAny_dictEpoch ho hd ?_)
  refine wpAny_bind ?_
  unfold newFields
  refine wpAny_newObj_type ?_
  exact wpAny_pure ⟨_, rfl, "dict_keyiterator", _, ⟨_, Heap.get?_push_size _ rfl, rfl⟩, F.slot_dict_keyiterator_next.lookup, h⟩
end Dq
namespace L2
open PySem PySem.Spec PyProof.Rows Bg Srt
section
variable {X : Cx}
theorem kt_ties {H : Hp} : ∀ {ts : List (Int × Int)} {xs : List (List Key × Addr × Value)}, KT H (dP ts) xs → Paired (TieL H) (xs.map fun x => V.ref x.2.1) ts
  | [], _, h => by cases h; exact .nil
  | t :: ts, _, h => by
    cases h with
    | cons a b => exact .cons ⟨_, rfl, a.2.1⟩ (kt_ties b)
theorem tie_getD {H : Hp} {vs : List V} {ts : List (Int × Int)} (h : Paired (TieL H) vs ts) : ∀ l : List Nat, (∀ i ∈ l, i < ts.length) → Paired (TieL H) (l.map fun i => vs.getD i .non) (l.map fun i => ts.getD i (0, 0))
  | [], _ => .nil
  | i :: l, hl => by
    obtain ⟨x, hx, q⟩ := paired_getr h (List.getElem?_eq_getElem (hl i List.mem_cons_self))
    refine .cons ?_ (tie_getD h l fun j hj => hl j (List.mem_cons_of_mem _ hj))
    dsimp only
    rw [List.getD_eq_getElem?_getD, hx, List.getD_eq_getElem?_getD, List.getElem?_eq_getElem (hl i List.mem_cons_self)]
    exact q
theorem perm_getD {ts : List (Int × Int)} {l : List Nat} (h : l.Perm (List.range ts.length)) : (l.map fun i => ts.getD i (0, 0)).Perm ts := by
  have e : (List.range ts.length).map (fun i => ts.getD i (0, 0)) = ts := by
    apply List.ext_getElem?
    intro i
    rw [List.getElem?_map]
    by_cases c : i < ts.length
    · rw [List.getElem?_range c, List.getElem?_eq_getElem c]
      show some (ts.getD i (0, 0)) = _
      rw [List.getD_eq_getElem?_getD, List.getElem?_eq_getElem c]; rfl
    · rw [List.getElem?_eq_none (by rw [List.length_range]; omega), List.getElem?_eq_none (by omega)]; rfl
  have := h.map (fun i => ts.getD i (0, 0))
  rw [e] at this
  exact this
end
end L2

set_option maxHeartbeats 2000000
namespace Sm
open PySem PySem.Builtin.Frozenset
section
variable {prog : Program} {w : World} {A : Around} {E : Value → Shared → Prop} {s : Shared} {a b : Addr} {L L1 L2 : List Nat} {B : Bool}
end
end Sm

set_option maxHeartbeats 4100000
namespace L2
open PySem PySem.Spec PyProof.Rows Sm
def rLenS (w : World) : List V → Hp → VK → Prop := fun xs H Q => ∃ a d L, xs = [.ref a] ∧ H a = some (SetV w a d L) ∧ Q (.int ((L.length : Nat) : Int)) H
section
variable {X : Cx} {K : PySem.W.Frag} {w : World}
theorem call_lenS (ew : X.w = w) : CallR X (.builtin "len") (rLenS w) := by
  subst ew
  intro pins s σ H xs us Q I r h
  obtain ⟨a, d, L, rfl, hA, q⟩ := h
  obtain ⟨u, rfl, rx⟩ := vals1 r
  cases rx
  obtain ⟨⟨S, _⟩, _⟩ := I.hok a _ hA
  obtain ⟨es, ep, t, ho, hE, T⟩ := id S
  have l16 := T.len
  refine call_len_set ho ⟨rfl, rfl, rfl⟩ rfl (by rw [hE.len]; exact T.fits) (by rw [hE.len]; omega) ?_
  exact ⟨.int ((L.length : Nat) : Int), H, I.tok _, ⟨_, by rw [hE.len]⟩, q⟩
end
end L2

namespace L2
open PySem PySem.Spec PyProof.Rows Sm
/-- len(a set of small numbers): its numbers, each once -/
def rLenS2 (w : World) : List V → Hp → VK → Prop := fun xs H Q => ∃ a d L, xs = [.ref a] ∧ H a = some (SetV w a d L) ∧ (L.Nodup → Q (.int ((L.length : Nat) : Int)) H)
theorem call_lenS2 {X : Cx} {w : World} (ew : X.w = w) : CallR X (.builtin "len") (rLenS2 w) := by
  intro pins s σ H xs us Q I r h
  obtain ⟨a, d, L, rfl, hA, q⟩ := h
  obtain ⟨⟨S, _⟩, _⟩ := I.hok a _ hA
  obtain ⟨_, _, t, _, _, T⟩ := id S
  exact call_lenS ew pins s σ H _ us Q I r ⟨a, d, L, rfl, hA, q T.nd⟩
end L2

namespace L2
open PySem PySem.Spec PyProof.Rows Bg
section
variable {X : Cx} {pins : List (Addr × Obj)} {σ : St} {H : Hp} {s : Shared} {d : Addr} {ts : List (Int × Int)}
theorem Inv.freezeP (I : Inv X pins σ H s) (e : H d = some (.dT (dP ts))) : ∃ (o : Obj) (as : List Addr) (es : Array DictEntry) (ep : Nat), s.heap.get? d = some o ∧ o.ExactDict ∧ o.data = .dict es ep ∧ es.toList.map (·.key) = as.map Value.ref ∧ Paired (TieL H) (as.map V.ref) ts ∧ (d == sysModules) = false ∧ Inv X pins σ (upd H d (.frz o (.dT (dP ts)))) s := by
  obtain ⟨_, hs, xs, rel, o, es, ep, ho, hx, hdt, hes, _, _⟩ := dt_of I.hok e
  have pt := kt_ties rel
  refine ⟨o, xs.map fun x => x.2.1, es, ep, ho, hx, hdt, ?_, ?_, hs, I.reword e (fun _ z => by cases z) (fun _ z => by cases z) (fun _ z => by cases z) (I.nofrz e fun _ _ z => by cases z) ⟨ho, I.hok d _ e⟩⟩
  · rw [hes, List.map_map, List.map_map]; rfl
  · rw [List.map_map]; exact pt
end
/-- the keys of the frozen dict at d, in its order -/
def Itp (o : Obj) (d : Addr) (u : HO) (as : List Addr) : It :=
  ⟨fun i H => H d = some (.frz o u) ∧ i < as.length, fun i H x H' => H' = H ∧ (as.map V.ref)[i]? = some x, fun i H => H d = some (.frz o u) ∧ i = as.length⟩
theorem turn_pdict {P : Program} {w : World} {K : PySem.W.Frag} {tg : Expr} {o : Obj} {u : HO} (d it : Addr) {as : List Addr} {es : Array DictEntry} {ep : Nat} (hd : o.data = .dict es ep) (ek : es.toList.map (·.key) = as.map Value.ref) :
    Turn P w K tg (Itp o d u as) [it] it (fun i h => h.get? it = some (Dq.kO d i es.size ep)) where
  mem := by simp
  obj := fun i h st b hb => by
    have e : b = it := by simpa using hb
    subst e
    exact ⟨_, st, fun v z => by cases z⟩
  keep := fun i h h' st k => k it (by simp) _ st
  item := by
    intro X hP hw hK hc i pins s σ H E I hf st hg
    subst hP hw hK
    obtain ⟨hq, hi⟩ := hg
    obtain ⟨hd1, _⟩ := I.hok d _ hq
    obtain ⟨f0, f1, f2, f3, f4, f5⟩ := hf it (by simp)
    have ne : d ≠ it := fun z => by rw [z] at hq; rw [f0] at hq; cases hq
    have lz : es.size = as.length := by have := congrArg List.length ek; rwa [List.length_map, List.length_map, Array.length_toList] at this
    have he : es[i]? = some (es[i]'(by omega)) := Array.getElem?_eq_getElem (by omega)
    have ekey : (es[i]'(by omega)).key = Value.ref as[i] := by
      have := congrArg (fun l => l[i]?) ek
      try dsimp only at this
      rw [List.getElem?_map, List.getElem?_map, Array.getElem?_toList, he, List.getElem?_eq_getElem hi] at this
      exact Option.some.inj this
    refine Dq.item_at ne hd1 hd st he fun h' hI sb => ?_
    have I1 : Inv X pins σ H { s with heap := h' } := I.turned (t' := s.toks) (fun b o hb e => (sb.2 b hb).trans e) f0 f1 f3 f4 f5
    exact ⟨_, rfl, go_of (s := { s with heap := h' }) hI rfl rfl (by decide) ⟨.ref as[i], H, I1, ekey, ⟨rfl, by rw [List.getElem?_map, List.getElem?_eq_getElem hi]; rfl⟩, hI, fun b hb => (hf b hb).1⟩⟩
  done := by
    intro X hP hw hK hc i pins s σ H E I hf st hg
    subst hP hw hK
    obtain ⟨hq, hx⟩ := hg
    obtain ⟨hd1, _⟩ := I.hok d _ hq
    obtain ⟨f0, f1, f2, f3, f4, f5⟩ := hf it (by simp)
    have ne : d ≠ it := fun z => by rw [z] at hq; rw [f0] at hq; cases hq
    have lz : es.size = as.length := by have := congrArg List.length ek; rwa [List.length_map, List.length_map, Array.length_toList] at this
    rw [hx, ← lz] at st
    exact Dq.end_at (I.ok.hd hc) ne hd1 hd st fun h' eb => ⟨rfl, I.turned (t' := s.toks) (fun b o hb e => eb b o hb e) f0 f1 f3 f4 f5⟩
  self := fun _ _ _ _ _ st h => wpAny_pyIter_keyiter ⟨_, st, rfl, rfl⟩ h
section
variable {X : Cx} {tg : Expr}
/-- the dict by pairs is frozen while it is walked -/
def iDictP (td : TE) : TI := fun σ H R => td σ H fun x H1 => ∃ d ts, x = .ref d ∧ H1 d = some (.dT (dP ts)) ∧ ∀ o as, Paired (TieL H1) (List.map V.ref as) ts → R (Itp o d (.dT (dP ts)) as) (upd H1 d (.frz o (.dT (dP ts))))
theorem pi_dictP {l : Expr} {td : TE} (hl : PE X l td) : PI X tg l (iDictP td) := by
  intro pins s σ H R I h
  refine thn (hl pins s σ H _ I h) fun v s1 ⟨x, H1, I1, r1, q1⟩ => ?_
  obtain ⟨d, ts, e, hd, q⟩ := q1
  subst e
  cases r1
  obtain ⟨o, as, es, ep, ho, hx, hdt, ek, pt, ns, I2⟩ := I1.freezeP hd
  refine Dq.iter_at ns ho hx hdt ?_
  refine ⟨s1.heap.objs.size, [s1.heap.objs.size], _, _, _, rfl, I2.kept (t' := s1.toks) fun b o e => Heap.get?_push_of_some _ e, turn_pdict d _ hdt ek, Heap.get?_push_size _ rfl, fun b hb => ?_, q o as pt⟩
  have e : b = s1.heap.objs.size := by simpa using hb
  subst e
  exact I2.fpOk (Nat.le_refl _) (I2.hok.fresh (Nat.le_refl _))
def tThawP (t : TE) : TE := fun σ H Q => t σ H fun v H1 => ∃ d o ts ts', H d = some (.dT (dP ts')) ∧ H1 d = some (.frz o (.dT (dP ts))) ∧ Q v (upd H1 d (.dT (dP ts)))
theorem pe_thawP {e : Expr} {t : TE} (h : PE X e t) : PE X e (tThawP t) := by
  intro pins s σ H Q I q
  refine thn (h pins s σ H _ I q) fun v s1 ⟨x, H1, I1, r1, d, o, ts, ts', e0, e1, q1⟩ => ?_
  exact ⟨x, _, I1.thaw (I.nofrz e0 fun _ _ z => by cases z) e1, r1, q1⟩
end
theorem lc_dictP {o : Obj} {d : Addr} {u : HO} {as : List Addr} {ix : List (Option Nat)} {g : TG} {tt : TT} {te : TE} {σ : St} {H1 : Hp} {Q : VK} (Pv : Nat → List V → Hp → Prop) (h0 : Pv 0 [] H1) (hl : ∀ i ys H, i ≤ as.length → Pv i ys H → H d = some (.frz o u) ∧ ys.length ≤ 1000)
    (hs : ∀ i ys H a, as[i]? = some a → Pv i ys H → g (.ref a) (capt ix σ) H fun σ2 H2 => tt σ2 H2 fun b H3 => if b = true then te σ2 H3 fun v H4 => Pv (i + 1) (ys ++ [v]) H4 else Pv (i + 1) ys H3)
    (hd : ∀ ys H p, Pv as.length ys H → H p = none → Q (.ref p) (upd H p (.lst ys))) : LcGoal ix g tt te σ H1 Q (Itp o d u as) := by
  refine ⟨fun i m ys H => m = as.length - i ∧ i ≤ as.length ∧ Pv i ys H, ⟨as.length, by simp, Nat.zero_le _, h0⟩, ?_⟩
  rintro i m ys H ⟨rfl, hi, pp⟩
  obtain ⟨hx, z⟩ := hl i ys H hi pp
  have z' : ys.length ≤ sizeLine := Nat.le_of_lt (small1000 z)
  by_cases hlt : i < as.length
  · refine .inr ⟨⟨hx, hlt⟩, z', fun ys' H' => Pv (i + 1) ys' H', fun ys' H' p' => ⟨as.length - (i + 1), by omega, rfl, hlt, p'⟩, fun x H' y => ?_⟩
    obtain ⟨e', y⟩ := y
    subst e'
    rw [List.getElem?_map, List.getElem?_eq_getElem hlt] at y
    cases y
    exact hs i ys _ _ (List.getElem?_eq_getElem hlt) pp
  · have ei : i = as.length := by omega
    subst ei
    exact .inl ⟨⟨hx, rfl⟩, z', fun p hp => hd ys H p pp hp⟩
theorem tie_frz {H : Hp} {d : Addr} {o o' : HO} {v : V} {t : Int × Int} (hd : H d = some o) (nt : ∀ xs, o ≠ .tup xs) (h : TieL H v t) : TieL (upd H d o') v t := by
  obtain ⟨p, e, hp⟩ := h
  refine ⟨p, e, ?_⟩
  rw [upd_ne]
  · exact hp
  · intro z
    rw [z, hd] at hp
    exact nt _ (Option.some.inj hp)
end L2

set_option maxHeartbeats 2000000
namespace Sp
open PySem Sm
/-- the hash of a pair of small numbers -/
def hP (x y : Nat) : Int := reduceHash (Builtin.Tuple.tupleHashOf [hashInt (x : Int), hashInt (y : Int)])
def startP (mask : Nat) (h : Int) : SetTable.Probe := { j := SetTable.bits h % (mask + 1), more := SetTable.runEnd mask (SetTable.bits h % (mask + 1)) - SetTable.bits h % (mask + 1), i := SetTable.bits h % (mask + 1), perturb := SetTable.bits h, dummy := none }
/-- the slots met in k steps, as bits -/
def seenM (mask : Nat) : Nat → SetTable.Probe → Nat → Nat
  | 0, _, m => m
  | k + 1, p, m => seenM mask k (adv mask p) (m ||| 2 ^ p.j)
theorem hP_nd : ((List.range 100).map fun k => hP (k / 10) (k % 10)).Nodup := by decide +kernel
theorem hP_inj {x y u v : Nat} (hx : x < 10) (hy : y < 10) (hu : u < 10) (hv : v < 10) (e : hP x y = hP u v) : x = u ∧ y = v := by
  have np := List.pairwise_map.mp hP_nd
  have key : ∀ a b, a < b → b < 100 → hP (a / 10) (a % 10) ≠ hP (b / 10) (b % 10) := fun a b ab b1 => by
    have := List.pairwise_iff_getElem.mp np a b (by rw [List.length_range]; omega) (by rw [List.length_range]; exact b1) ab
    rw [List.getElem_range, List.getElem_range] at this
    exact this
  have e1 : (10 * x + y) / 10 = x := by omega
  have e2 : (10 * x + y) % 10 = y := by omega
  have e3 : (10 * u + v) / 10 = u := by omega
  have e4 : (10 * u + v) % 10 = v := by omega
  rcases Nat.lt_trichotomy (10 * x + y) (10 * u + v) with c | c | c
  · have := key _ _ c (by omega)
    rw [e1, e2, e3, e4] at this
    exact absurd e this
  · omega
  · have := key _ _ c (by omega)
    rw [e1, e2, e3, e4] at this
    exact absurd e.symm this
theorem cover7 : ∀ x, x < 10 → ∀ y, y < 10 → seenM 7 219 (startP 7 (hP x y)) 0 = 2 ^ 8 - 1 := by decide +kernel
theorem cover31 : ∀ x, x < 10 → ∀ y, y < 10 → seenM 31 459 (startP 31 (hP x y)) 0 = 2 ^ 32 - 1 := by decide +kernel
theorem cover127 : ∀ x, x < 10 → ∀ y, y < 10 → seenM 127 1419 (startP 127 (hP x y)) 0 = 2 ^ 128 - 1 := by decide +kernel
end Sp

set_option maxHeartbeats 2000000
namespace Sp
open PySem Sm
theorem nth_succ (mask : Nat) : ∀ (k : Nat) (p : SetTable.Probe), nth mask p (k + 1) = adv mask (nth mask p k)
  | 0, p => rfl
  | k + 1, p => by
    show nth mask (adv mask p) (k + 1) = adv mask (nth mask (adv mask p) k)
    exact nth_succ mask k (adv mask p)
theorem seen_bit (mask : Nat) : ∀ (k : Nat) (p : SetTable.Probe) (m j : Nat), (seenM mask k p m).testBit j = true → m.testBit j = true ∨ ∃ i, i < k ∧ (nth mask p i).j = j
  | 0, p, m, j, h => .inl h
  | k + 1, p, m, j, h => by
    rcases seen_bit mask k (adv mask p) (m ||| 2 ^ p.j) j h with h | ⟨i, hi, e⟩
    · rw [Nat.testBit_or, Nat.testBit_two_pow, Bool.or_eq_true, decide_eq_true_iff] at h
      rcases h with h | h
      · exact .inl h
      · exact .inr ⟨0, by omega, h⟩
    · exact .inr ⟨i + 1, by omega, e⟩
/-- masks that a set of pairs has -/
def MaskOk (m : Nat) : Prop := m = 7 ∨ m = 31 ∨ m = 127
theorem covered {mask x y j : Nat} (hm : MaskOk mask) (hx : x < 10) (hy : y < 10) (hj : j ≤ mask) : ∃ i, i < 10 * SetTable.turns mask - 1 ∧ (nth mask (startP mask (hP x y)) i).j = j := by
  have fin : ∀ (M K : Nat), seenM mask K (startP mask (hP x y)) 0 = 2 ^ M - 1 → j < M → ∃ i, i < K ∧ (nth mask (startP mask (hP x y)) i).j = j := fun M K e l => by
    have b : (2 ^ M - 1).testBit j = true := by rw [Nat.testBit_two_pow_sub_one]; exact decide_eq_true l
    rw [← e] at b
    rcases seen_bit mask _ _ _ _ b with h | h
    · rw [Nat.zero_testBit] at h; cases h
    · exact h
  rcases hm with rfl | rfl | rfl
  · exact fin 8 219 (cover7 x hx y hy) (by omega)
  · exact fin 32 459 (cover31 x hx y hy) (by omega)
  · exact fin 128 1419 (cover127 x hx y hy) (by omega)
/-- how a search goes -/
theorem go_walk {t : SetTable} (dm : t.dummies = #[]) (up : t.place.toList.Pairwise (· < ·)) (hashAt : Nat → Int) (h : Int) : ∀ (k0 fuel : Nat) (p : SetTable.Probe), k0 < fuel → p.dummy = none → (nth t.mask p k0).j ∉ t.place.toList →
    (∃ k, (nth t.mask p k).j ∉ t.place.toList ∧ (∀ k', k' < k → (nth t.mask p k').j ∈ t.place.toList) ∧ (∀ k', k' < k → ∀ i, t.slot (nth t.mask p k').j = .live i → hashAt i ≠ h) ∧ SetTable.probe.go t hashAt h fuel p = some (.empty (nth t.mask p k).j none)) ∨
    (∃ j i next, t.slot j = .live i ∧ hashAt i = h ∧ SetTable.probe.go t hashAt h fuel p = some (.candidate j i next)) := by
  intro k0
  induction k0 with
  | zero =>
    intro fuel p hf hd hn
    obtain ⟨f, rfl⟩ : ∃ f, fuel = f + 1 := ⟨fuel - 1, by omega⟩
    refine .inl ⟨0, hn, fun k' h => absurd h (Nat.not_lt_zero _), fun k' h => absurd h (Nat.not_lt_zero _), ?_⟩
    unfold SetTable.probe.go
    have hn' : p.j ∉ t.place.toList := hn
    rw [slot_empty dm hn', hd]
    rfl
  | succ k0 ih =>
    intro fuel p hf hd hn
    obtain ⟨f, rfl⟩ : ∃ f, fuel = f + 1 := ⟨fuel - 1, by omega⟩
    by_cases c : p.j ∈ t.place.toList
    · obtain ⟨i, e⟩ := slot_live up c
      by_cases hh : hashAt i = h
      · refine .inr ⟨p.j, i, t.advance p, e, hh, ?_⟩
        unfold SetTable.probe.go
        rw [e]
        dsimp only
        rw [beq_iff_eq.mpr hh]
        rfl
      · have st : SetTable.probe.go t hashAt h (f + 1) p = SetTable.probe.go t hashAt h f (adv t.mask p) := by
          rw [SetTable.probe.go, e]
          dsimp only
          rw [beq_eq_false_iff_ne.mpr hh, adv_eq]
          rfl
        rw [st]
        rcases ih f (adv t.mask p) (by omega) (by rw [adv_dummy]; exact hd) hn with ⟨k, h1, h2, h3, h4⟩ | h
        · refine .inl ⟨k + 1, h1, fun k' hk => ?_, fun k' hk i' e' => ?_, h4⟩
          · cases k' with
            | zero => exact c
            | succ k' => exact h2 k' (by omega)
          · cases k' with
            | zero =>
              have e'' : t.slot p.j = .live i' := e'
              rw [e] at e''
              injection e'' with e''
              rw [← e'']; exact hh
            | succ k' => exact h3 k' (by omega) i' e'
        · exact .inr h
    · refine .inl ⟨0, c, fun k' h => absurd h (Nat.not_lt_zero _), fun k' h => absurd h (Nat.not_lt_zero _), ?_⟩
      unfold SetTable.probe.go
      rw [slot_empty dm c, hd]
      rfl
end Sp

set_option maxHeartbeats 2000000
namespace Sp
open PySem Sm
abbrev Pr := Nat × Nat
abbrev hPr (p : Pr) : Int := hP p.1 p.2
/-- a slot that a search for the hash comes to, all slots ahead of it taken -/
def Rch (mask : Nat) (pl : List Nat) (h : Int) (j : Nat) : Prop := ∃ k, (nth mask (startP mask h) k).j = j ∧ ∀ k', k' < k → (nth mask (startP mask h) k').j ∈ pl
theorem Rch.more {mask : Nat} {pl pl' : List Nat} {h : Int} {j : Nat} (s : ∀ x ∈ pl, x ∈ pl') (r : Rch mask pl h j) : Rch mask pl' h j :=
  let ⟨k, e, a⟩ := r; ⟨k, e, fun k' hk => s _ (a k' hk)⟩
structure TbP (B : Bool) (t : SetTable) (L : List Pr) : Prop where
  dm : t.dummies = #[]
  pl : t.plain = true
  led : t.led = !B
  up : t.place.toList.Pairwise (· < ·)
  sz : t.place.size = L.length
  nd : L.Nodup
  lt : ∀ p ∈ L, p.1 < 10 ∧ p.2 < 10
  mok : MaskOk t.mask
  inn : ∀ j ∈ t.place.toList, j ≤ t.mask
  rch : ∀ (i j : Nat) (p : Pr), t.place.toList[i]? = some j → L[i]? = some p → Rch t.mask t.place.toList (hPr p) j
theorem slot_at {t : SetTable} (up : t.place.toList.Pairwise (· < ·)) {k : Nat} (hk : k < t.place.size) : t.slot t.place[k] = .live k := by
  unfold SetTable.slot
  dsimp only
  rw [below_at up hk]
  have : (t.place[k]? == some t.place[k]) = true := by simp [hk]
  rw [this]
  rfl
theorem slot_inv {t : SetTable} (dm : t.dummies = #[]) {j i : Nat} (h : t.slot j = .live i) : t.place[i]? = some j := by
  unfold SetTable.slot at h
  dsimp only at h
  by_cases c : (t.place[SetTable.below t.place j]? == some j) = true
  · rw [if_pos c] at h
    injection h with h
    rw [← h]
    exact beq_iff_eq.mp c
  · rw [if_neg c, dm, has_nil] at h
    cases h
def InM (mask : Nat) (p : SetTable.Probe) : Prop := p.j + p.more ≤ mask
theorem run_le {mask i : Nat} (h : i ≤ mask) : i ≤ SetTable.runEnd mask i ∧ SetTable.runEnd mask i ≤ mask := by
  unfold SetTable.runEnd
  split <;> omega
theorem inM_adv {mask : Nat} {p : SetTable.Probe} (h : InM mask p) : InM mask (adv mask p) := by
  unfold adv InM at *
  by_cases c : 0 < p.more
  · rw [if_pos c]
    show p.j + 1 + (p.more - 1) ≤ mask
    omega
  · rw [if_neg c]
    have l : (SetTable.leap mask p.i p.perturb).1 ≤ mask := by
      unfold SetTable.leap
      exact Nat.le_of_lt_succ (Nat.mod_lt _ (Nat.succ_pos _))
    have := run_le l
    show (SetTable.leap mask p.i p.perturb).1 + (SetTable.runEnd mask (SetTable.leap mask p.i p.perturb).1 - (SetTable.leap mask p.i p.perturb).1) ≤ mask
    omega
theorem inM_nth {mask : Nat} : ∀ (k : Nat) {p : SetTable.Probe}, InM mask p → InM mask (nth mask p k)
  | 0, _, h => h
  | k + 1, _, h => inM_nth k (inM_adv h)
theorem inM_start (mask : Nat) (h : Int) : InM mask (startP mask h) := by
  have l : SetTable.bits h % (mask + 1) ≤ mask := Nat.le_of_lt_succ (Nat.mod_lt _ (Nat.succ_pos _))
  have := run_le l
  show SetTable.bits h % (mask + 1) + (SetTable.runEnd mask (SetTable.bits h % (mask + 1)) - SetTable.bits h % (mask + 1)) ≤ mask
  omega
theorem nth_le (mask k : Nat) (h : Int) : (nth mask (startP mask h) k).j ≤ mask := by
  have := inM_nth k (inM_start mask h)
  unfold InM at this
  omega
section
variable {B : Bool} {t : SetTable} {L : List Pr} {hashAt : Nat → Int} {p : Pr}
/-- there is an empty slot -/
theorem TbP.gap (T : TbP B t L) (few : L.length ≤ t.mask) (hp : p.1 < 10 ∧ p.2 < 10) : ∃ k, k < 10 * SetTable.turns t.mask ∧ (nth t.mask (startP t.mask (hPr p)) k).j ∉ t.place.toList := by
  have ex : ∃ j, j ≤ t.mask ∧ j ∉ t.place.toList := by
    apply Classical.byContradiction
    intro c
    have q : ∀ j ∈ List.range (t.mask + 1), j ∈ t.place.toList := fun j hj => Classical.byContradiction fun d => c ⟨j, by have := List.mem_range.mp hj; omega, d⟩
    have := len_le _ _ List.nodup_range q
    rw [List.length_range, Array.length_toList, T.sz] at this
    omega
  obtain ⟨j, hj, nj⟩ := ex
  obtain ⟨k, hk, e⟩ := covered T.mok hp.1 hp.2 hj
  exact ⟨k, by omega, by rw [e]; exact nj⟩
theorem TbP.there (T : TbP B t L) (few : L.length ≤ t.mask) (hA : ∀ (i : Nat) (q : Pr), L[i]? = some q → hashAt i = hPr q) (hp : p ∈ L) : ∃ j i next, t.probe hashAt (hPr p) (t.probeStart (hPr p)) = some (.candidate j i next) ∧ L[i]? = some p := by
  have l10 := T.lt p hp
  obtain ⟨k0, hk0, n0⟩ := T.gap few l10
  have live : ∀ {j i : Nat}, t.slot j = .live i → ∃ q, L[i]? = some q ∧ q.1 < 10 ∧ q.2 < 10 := fun {j i} e => by
    have e' := slot_inv T.dm e
    have il : i < t.place.size := by
      rw [Array.getElem?_eq_some_iff] at e'
      exact e'.1
    have il2 : i < L.length := by rw [← T.sz]; exact il
    exact ⟨L[i], List.getElem?_eq_getElem il2, T.lt _ (List.getElem_mem il2)⟩
  rcases go_walk T.dm T.up hashAt (hPr p) k0 (10 * SetTable.turns t.mask) (startP t.mask (hPr p)) hk0 rfl n0 with ⟨k, h1, h2, h3, _⟩ | ⟨j, i, next, e1, e2, e3⟩
  · exfalso
    obtain ⟨i, hi⟩ := List.getElem?_of_mem hp
    have il : i < L.length := (List.getElem?_eq_some_iff.mp hi).1
    have il2 : i < t.place.size := by rw [T.sz]; exact il
    have hj : t.place.toList[i]? = some t.place[i] := by rw [Array.getElem?_toList]; simp [il2]
    obtain ⟨kk, ek, ak⟩ := T.rch i _ p hj hi
    rcases Nat.lt_or_ge kk k with c | c
    · have s := slot_at T.up il2
      exact h3 kk c i (by rw [ek]; exact s) (hA i p hi)
    · rcases Nat.lt_or_ge k kk with d | d
      · exact h1 (ak k d)
      · have : kk = k := by omega
        subst this
        exact h1 (by rw [ek]; exact Array.getElem_mem_toList il2)
  · obtain ⟨q, hq, q10⟩ := live e1
    have := hA i q hq
    rw [this] at e2
    obtain ⟨x1, x2⟩ := hP_inj q10.1 q10.2 l10.1 l10.2 e2
    have : q = p := Prod.ext x1 x2
    exact ⟨j, i, next, e3, by rw [hq, this]⟩
theorem TbP.free (T : TbP B t L) (few : L.length ≤ t.mask) (hA : ∀ (i : Nat) (q : Pr), L[i]? = some q → hashAt i = hPr q) (hp : p ∉ L) (l10 : p.1 < 10 ∧ p.2 < 10) : ∃ j, t.probe hashAt (hPr p) (t.probeStart (hPr p)) = some (.empty j none) ∧ j ∉ t.place.toList ∧ j ≤ t.mask ∧ Rch t.mask t.place.toList (hPr p) j := by
  obtain ⟨k0, hk0, n0⟩ := T.gap few l10
  rcases go_walk T.dm T.up hashAt (hPr p) k0 (10 * SetTable.turns t.mask) (startP t.mask (hPr p)) hk0 rfl n0 with ⟨k, h1, h2, h3, h4⟩ | ⟨j, i, next, e1, e2, e3⟩
  · exact ⟨_, h4, h1, nth_le _ _ _, k, rfl, h2⟩
  · exfalso
    have e' := slot_inv T.dm e1
    have il : i < t.place.size := by
      rw [Array.getElem?_eq_some_iff] at e'
      exact e'.1
    have il2 : i < L.length := by rw [← T.sz]; exact il
    have hq : L[i]? = some L[i] := List.getElem?_eq_getElem il2
    have q10 := T.lt _ (List.getElem_mem il2)
    rw [hA i _ hq] at e2
    obtain ⟨x1, x2⟩ := hP_inj q10.1 q10.2 l10.1 l10.2 e2
    exact hp (by rw [show p = L[i] from (Prod.ext x1 x2).symm]; exact List.getElem_mem il2)
end
end Sp

set_option maxHeartbeats 2000000
namespace Sp
open PySem Sm
theorem ins_get {α : Type} (l : List α) (q : Nat) (x : α) (hq : q ≤ l.length) (i : Nat) : (l.take q ++ x :: l.drop q)[i]? = if i < q then l[i]? else if i = q then some x else l[i - 1]? := by
  have lt : (l.take q).length = q := by rw [List.length_take]; omega
  by_cases c : i < q
  · rw [if_pos c, List.getElem?_append_left (by omega), List.getElem?_take_of_lt c]
  · rw [if_neg c, List.getElem?_append_right (by omega), lt]
    by_cases d : i = q
    · rw [if_pos d, d, Nat.sub_self]; rfl
    · rw [if_neg d]
      obtain ⟨k, ek⟩ : ∃ k, i - q = k + 1 := ⟨i - q - 1, by omega⟩
      rw [ek, List.getElem?_cons_succ, List.getElem?_drop]
      congr 1
      omega
theorem mem_ins {α : Type} {l : List α} {q : Nat} {x u : α} : u ∈ l.take q ++ x :: l.drop q ↔ u = x ∨ u ∈ l := by
  rw [List.mem_append, List.mem_cons]
  have e : u ∈ l ↔ u ∈ l.take q ∨ u ∈ l.drop q := by rw [← List.mem_append, List.take_append_drop]
  rw [e]
  constructor
  · rintro (c | c | c)
    · exact .inr (.inl c)
    · exact .inl c
    · exact .inr (.inr c)
  · rintro (c | c | c)
    · exact .inr (.inl c)
    · exact .inl c
    · exact .inr (.inr c)
theorem nd_ins {α : Type} {l : List α} {q : Nat} {x : α} (nd : l.Nodup) (h : x ∉ l) : (l.take q ++ x :: l.drop q).Nodup := by
  have pm : (l.take q ++ x :: l.drop q).Perm (x :: l) := by
    have : l.take q ++ l.drop q = l := List.take_append_drop q l
    exact List.perm_middle.trans (by rw [this])
  exact pm.nodup_iff.mpr (List.nodup_cons.mpr ⟨h, nd⟩)
theorem len_ins {α : Type} (l : List α) (q : Nat) (x : α) : (l.take q ++ x :: l.drop q).length = l.length + 1 := by
  rw [List.length_append, List.length_cons, List.length_take, List.length_drop]; omega
/-- one pair more -/
theorem TbP.put {B : Bool} {t : SetTable} {L : List Pr} {p : Pr} {j : Nat} (T : TbP B t L) (nj : j ∉ t.place.toList) (lj : j ≤ t.mask) (r : Rch t.mask t.place.toList (hPr p) j) (np : p ∉ L) (l10 : p.1 < 10 ∧ p.2 < 10) :
    (t.put j).2 ≤ L.length ∧ (t.put j).1.mask = t.mask ∧ (t.put j).1.moves = t.moves ∧ TbP B (t.put j).1 (L.take (t.put j).2 ++ p :: L.drop (t.put j).2) := by
  have hd : SetTable.has t.dummies j = false := by rw [T.dm]; exact has_nil j
  have bl := (below_ok T.up j).1
  have bl' : SetTable.below t.place j ≤ L.length := by rw [← T.sz]; exact bl
  have lp : t.place.toList.length = L.length := by rw [Array.length_toList, T.sz]
  have e1 : (t.put j).1 = { t with place := SetTable.insertAt t.place (SetTable.below t.place j) j } := by
    unfold SetTable.put
    dsimp only
    rw [hd]
    rfl
  have e2 : (t.put j).2 = SetTable.below t.place j := rfl
  have pl : (t.put j).1.place.toList = t.place.toList.take (SetTable.below t.place j) ++ j :: t.place.toList.drop (SetTable.below t.place j) := by
    rw [e1]
    exact SetTable.toList_insertAt ..
  refine ⟨by rw [e2]; exact bl', by rw [e1], by rw [e1], ?_⟩
  rw [e2]
  refine ⟨by rw [e1]; exact T.dm, by rw [e1]; exact T.pl, by rw [e1]; exact T.led, ?_, ?_, nd_ins T.nd np, fun u hu => ?_, by rw [e1]; exact T.mok, fun u hu => ?_, fun i j' p' hj hp => ?_⟩
  · rw [e1]
    exact ins_up T.up nj
  · rw [← Array.length_toList, pl, len_ins, len_ins, lp]
  · rcases mem_ins.mp hu with rfl | hu
    · exact l10
    · exact T.lt u hu
  · rw [pl] at hu
    rw [e1]
    show u ≤ t.mask
    rcases mem_ins.mp hu with rfl | hu
    · exact lj
    · exact T.inn u hu
  · rw [pl] at hj ⊢
    have em : (t.put j).1.mask = t.mask := by rw [e1]
    rw [em]
    have sub : ∀ x ∈ t.place.toList, x ∈ t.place.toList.take (SetTable.below t.place j) ++ j :: t.place.toList.drop (SetTable.below t.place j) := fun x hx => mem_ins.mpr (.inr hx)
    rw [ins_get _ _ _ (by omega)] at hj
    rw [ins_get _ _ _ bl'] at hp
    by_cases c : i < SetTable.below t.place j
    · rw [if_pos c] at hj hp
      exact Rch.more sub (T.rch i j' p' hj hp)
    · rw [if_neg c] at hj hp
      by_cases d : i = SetTable.below t.place j
      · rw [if_pos d] at hj hp
        have hj := Option.some.inj hj
        have hp := Option.some.inj hp
        subst hj
        subst hp
        exact Rch.more sub r
      · rw [if_neg d] at hj hp
        exact Rch.more sub (T.rch (i - 1) j' p' hj hp)
end Sp

set_option maxHeartbeats 2000000
namespace Sp
open PySem Sm
def wp (mask i pe : Nat) : SetTable.Probe := { j := i, more := SetTable.runEnd mask i - i, i, perturb := pe, dummy := none }
theorem win_nth {mask i pe : Nat} : ∀ e, e ≤ SetTable.runEnd mask i - i → nth mask (wp mask i pe) e = { j := i + e, more := SetTable.runEnd mask i - i - e, i, perturb := pe, dummy := none }
  | 0, _ => rfl
  | e + 1, h => by
    rw [nth_succ, win_nth e (by omega)]
    unfold adv
    rw [if_pos (by show 0 < SetTable.runEnd mask i - i - e; omega)]
    show SetTable.Probe.mk (i + e + 1) (SetTable.runEnd mask i - i - e - 1) i pe none = _
    congr 1
theorem win_next {mask i pe : Nat} : nth mask (wp mask i pe) (SetTable.runEnd mask i - i + 1) = wp mask (SetTable.leap mask i pe).1 (SetTable.leap mask i pe).2 := by
  rw [nth_succ, win_nth _ (Nat.le_refl _)]
  unfold adv
  rw [if_neg (by show ¬ 0 < SetTable.runEnd mask i - i - (SetTable.runEnd mask i - i); omega)]
  rfl
theorem nth_add (mask : Nat) : ∀ (a b : Nat) (p : SetTable.Probe), nth mask p (a + b) = nth mask (nth mask p a) b
  | 0, b, p => by rw [Nat.zero_add]; rfl
  | a + 1, b, p => by
    rw [show a + 1 + b = (a + b) + 1 by omega]
    show nth mask (adv mask p) (a + b) = _
    rw [nth_add mask a b (adv mask p)]
    rfl
abbrev Own := Array (Option Nat)
def tk (o : Own) (j : Nat) : Prop := (o.getD j (some 0)).isSome = true
theorem free_some {mask : Nat} {o : Own} : ∀ (fuel i pe j : Nat), SetTable.layClean.free mask o fuel i pe = some j → ∃ k, (nth mask (wp mask i pe) k).j = j ∧ ¬ tk o j ∧ ∀ k', k' < k → tk o (nth mask (wp mask i pe) k').j
  | 0, i, pe, j, h => by cases h
  | fuel + 1, i, pe, j, h => by
    rw [SetTable.layClean.free] at h
    cases e : (List.range (SetTable.runEnd mask i + 1 - i)).find? fun k => (o.getD (i + k) (some 0)).isNone with
    | some k =>
      rw [e] at h
      have h := Option.some.inj h
      obtain ⟨h1, h2, h3⟩ := List.find?_range_eq_some.mp e
      have kl := List.mem_range.mp h2
      have k1 : k ≤ SetTable.runEnd mask i - i := by omega
      refine ⟨k, by rw [win_nth k k1]; exact h, fun t => ?_, fun k' hk => ?_⟩
      · unfold tk at t
        rw [← h] at t
        rw [Option.isNone_iff_eq_none] at h1
        rw [h1] at t
        cases t
      · rw [win_nth k' (by omega)]
        have := h3 k' hk
        unfold tk
        show (o.getD (i + k') (some 0)).isSome = true
        cases q : o.getD (i + k') (some 0) with
        | none => rw [q] at this; cases this
        | some _ => rfl
    | none =>
      rw [e] at h
      have all : ∀ k', k' ≤ SetTable.runEnd mask i - i → tk o (i + k') := fun k' hk => by
        by_cases c : k' < SetTable.runEnd mask i + 1 - i
        · have := List.find?_eq_none.mp e k' (List.mem_range.mpr c)
          unfold tk
          cases q : o.getD (i + k') (some 0) with
          | none => rw [q] at this; exact absurd rfl this
          | some _ => rfl
        · have re : i ≤ SetTable.runEnd mask i := by unfold SetTable.runEnd; split <;> omega
          omega
      obtain ⟨k, h1, h2, h3⟩ := free_some fuel _ _ j h
      refine ⟨SetTable.runEnd mask i - i + 1 + k, by rw [nth_add, win_next]; exact h1, h2, fun k' hk => ?_⟩
      by_cases c : k' ≤ SetTable.runEnd mask i - i
      · rw [win_nth k' c]
        exact all k' c
      · obtain ⟨d, ed⟩ : ∃ d, k' = SetTable.runEnd mask i - i + 1 + d := ⟨k' - (SetTable.runEnd mask i - i + 1), by omega⟩
        rw [ed, nth_add, win_next]
        exact h3 d (by omega)
/-- the slots of the windows, as bits -/
def seenW (mask : Nat) : Nat → Nat → Nat → Nat → Nat
  | 0, _, _, m => m
  | f + 1, i, pe, m => seenW mask f (SetTable.leap mask i pe).1 (SetTable.leap mask i pe).2 (m ||| ((2 ^ (SetTable.runEnd mask i + 1 - i) - 1) * 2 ^ i))
theorem free_none {mask : Nat} {o : Own} : ∀ (fuel i pe m j : Nat), SetTable.layClean.free mask o fuel i pe = none → (seenW mask fuel i pe m).testBit j = true → m.testBit j = true ∨ tk o j
  | 0, i, pe, m, j, h, b => .inl b
  | fuel + 1, i, pe, m, j, h, b => by
    rw [SetTable.layClean.free] at h
    cases e : (List.range (SetTable.runEnd mask i + 1 - i)).find? fun k => (o.getD (i + k) (some 0)).isNone with
    | some k => rw [e] at h; cases h
    | none =>
      rw [e] at h
      rcases free_none fuel _ _ _ j h b with b | b
      · rw [Nat.testBit_or, Bool.or_eq_true] at b
        rcases b with b | b
        · exact .inl b
        · refine .inr ?_
          rw [← Nat.shiftLeft_eq, Nat.testBit_shiftLeft, Bool.and_eq_true, decide_eq_true_iff, Nat.testBit_two_pow_sub_one, decide_eq_true_iff] at b
          have := List.find?_eq_none.mp e (j - i) (List.mem_range.mpr b.2)
          have ej : i + (j - i) = j := by omega
          rw [ej] at this
          unfold tk
          cases q : o.getD j (some 0) with
          | none => rw [q] at this; exact absurd rfl this
          | some _ => rfl
      · exact .inr b
theorem wcov31 : ∀ x, x < 10 → ∀ y, y < 10 → seenW 31 (SetTable.turns 31) (SetTable.bits (hP x y) % 32) (SetTable.bits (hP x y)) 0 = 2 ^ 32 - 1 := by decide +kernel
theorem wcov127 : ∀ x, x < 10 → ∀ y, y < 10 → seenW 127 (SetTable.turns 127) (SetTable.bits (hP x y) % 128) (SetTable.bits (hP x y)) 0 = 2 ^ 128 - 1 := by decide +kernel
/-- a free slot is found where there is one -/
theorem free_at {mask : Nat} {o : Own} {p : Pr} (hm : mask = 31 ∨ mask = 127) (hp : p.1 < 10 ∧ p.2 < 10) (ex : ∃ j, j ≤ mask ∧ ¬ tk o j) :
    ∃ j, SetTable.layClean.free mask o (SetTable.turns mask) (SetTable.bits (hPr p) % (mask + 1)) (SetTable.bits (hPr p)) = some j ∧ j ≤ mask ∧ ¬ tk o j ∧ ∃ k, (nth mask (startP mask (hPr p)) k).j = j ∧ ∀ k', k' < k → tk o (nth mask (startP mask (hPr p)) k').j := by
  cases e : SetTable.layClean.free mask o (SetTable.turns mask) (SetTable.bits (hPr p) % (mask + 1)) (SetTable.bits (hPr p)) with
  | none =>
    exfalso
    obtain ⟨j, hj, nj⟩ := ex
    have key : ∀ M, seenW mask (SetTable.turns mask) (SetTable.bits (hPr p) % (mask + 1)) (SetTable.bits (hPr p)) 0 = 2 ^ M - 1 → j < M → False := fun M ew l => by
      have b : (2 ^ M - 1).testBit j = true := by rw [Nat.testBit_two_pow_sub_one]; exact decide_eq_true l
      rw [← ew] at b
      rcases free_none _ _ _ _ _ e b with h | h
      · rw [Nat.zero_testBit] at h; cases h
      · exact nj h
    rcases hm with rfl | rfl
    · exact key 32 (wcov31 p.1 hp.1 p.2 hp.2) (by omega)
    · exact key 128 (wcov127 p.1 hp.1 p.2 hp.2) (by omega)
  | some j =>
    obtain ⟨k, h1, h2, h3⟩ := free_some _ _ _ _ e
    refine ⟨j, rfl, ?_, h2, k, h1, h3⟩
    rw [← h1]
    exact nth_le mask k (hPr p)
end Sp

set_option maxHeartbeats 2000000
namespace Sp
open PySem Sm
/-- the slots given to the first n pairs -/
structure OwnI (mask : Nat) (o : Own) (L : List Pr) (n : Nat) : Prop where
  size : o.size = mask + 1
  idx : ∀ j k : Nat, o[j]? = some (some k) → k < n ∧ ∃ p, L[k]? = some p ∧ ∃ kk, (nth mask (startP mask (hPr p)) kk).j = j ∧ ∀ k', k' < kk → tk o (nth mask (startP mask (hPr p)) k').j
  all : ∀ k : Nat, k < n → ∃ j : Nat, o[j]? = some (some k)
  one : ∀ j j' k : Nat, o[j]? = some (some k) → o[j']? = some (some k) → j = j'
theorem tk_iff {mask : Nat} {o : Own} (sz : o.size = mask + 1) {j : Nat} (hj : j ≤ mask) : tk o j ↔ ∃ k, o[j]? = some (some k) := by
  have l : j < o.size := by omega
  unfold tk
  have e : o.getD j (some 0) = o[j] := by simp [Array.getD, l]
  have e2 : o[j]? = some o[j] := by simp [l]
  rw [e, e2]
  cases o[j] with
  | none => simp
  | some k => simp
theorem OwnI.gap {mask : Nat} {o : Own} {L : List Pr} {n : Nat} (I : OwnI mask o L n) (h : n ≤ mask) : ∃ j, j ≤ mask ∧ ¬ tk o j := by
  apply Classical.byContradiction
  intro c
  have all : ∀ j, j ≤ mask → ∃ k, o[j]? = some (some k) := fun j hj => (tk_iff I.size hj).mp (Classical.byContradiction fun d => c ⟨j, hj, d⟩)
  have nd : ((List.range (mask + 1)).map fun j => (o[j]?.getD none).getD 0).Nodup := by
    unfold List.Nodup
    rw [List.pairwise_map]
    refine List.Pairwise.imp_of_mem (fun {a b} ha hb ne e => ?_) List.nodup_range
    obtain ⟨k, hk⟩ := all a (by have := List.mem_range.mp ha; omega)
    obtain ⟨k', hk'⟩ := all b (by have := List.mem_range.mp hb; omega)
    rw [hk, hk'] at e
    have e' : k = k' := e
    subst e'
    exact ne (I.one a b k hk hk')
  have := len_le _ (List.range n) nd fun x hx => by
    obtain ⟨j, hj, rfl⟩ := List.mem_map.mp hx
    obtain ⟨k, hk⟩ := all j (by have := List.mem_range.mp hj; omega)
    rw [hk]
    exact List.mem_range.mpr (I.idx j k hk).1
  rw [List.length_map, List.length_range, List.length_range] at this
  omega
theorem OwnI.next {mask : Nat} {o : Own} {L : List Pr} {n j : Nat} {p : Pr} (I : OwnI mask o L n) (hj : j ≤ mask) (nj : ¬ tk o j) (hp : L[n]? = some p) (r : ∃ kk, (nth mask (startP mask (hPr p)) kk).j = j ∧ ∀ k', k' < kk → tk o (nth mask (startP mask (hPr p)) k').j) : OwnI mask (o.setIfInBounds j (some n)) L (n + 1) := by
  have jl : j < o.size := by have := I.size; omega
  have get : ∀ i, (o.setIfInBounds j (some n))[i]? = if i = j then some (some n) else o[i]? := fun i => by
    rw [Array.getElem?_setIfInBounds]
    by_cases c : j = i
    · subst c
      rw [if_pos rfl, if_pos jl, if_pos rfl]
    · rw [if_neg c, if_neg fun z => c z.symm]
  have sz : (o.setIfInBounds j (some n)).size = mask + 1 := by rw [Array.size_setIfInBounds]; exact I.size
  have nj' : ∀ k, o[j]? ≠ some (some k) := fun k e => nj ((tk_iff I.size hj).mpr ⟨k, e⟩)
  have mono : ∀ i, i ≤ mask → tk o i → tk (o.setIfInBounds j (some n)) i := fun i hi h => by
    obtain ⟨k, hk⟩ := (tk_iff I.size hi).mp h
    refine (tk_iff sz hi).mpr ?_
    rw [get]
    by_cases c : i = j
    · rw [if_pos c]; exact ⟨n, rfl⟩
    · rw [if_neg c]; exact ⟨k, hk⟩
  refine ⟨sz, fun i k h => ?_, fun k hk => ?_, fun i i' k h h' => ?_⟩
  · rw [get] at h
    by_cases c : i = j
    · rw [if_pos c] at h
      have h := Option.some.inj (Option.some.inj h)
      subst h
      refine ⟨by omega, p, hp, ?_⟩
      obtain ⟨kk, e, a⟩ := r
      exact ⟨kk, by rw [c]; exact e, fun k' hk => mono _ (nth_le _ _ _) (a k' hk)⟩
    · rw [if_neg c] at h
      obtain ⟨h1, q, hq, kk, e, a⟩ := I.idx i k h
      exact ⟨by omega, q, hq, kk, e, fun k' hk => mono _ (nth_le _ _ _) (a k' hk)⟩
  · by_cases c : k = n
    · subst c
      exact ⟨j, by rw [get, if_pos rfl]⟩
    · obtain ⟨i, hi⟩ := I.all k (by omega)
      refine ⟨i, ?_⟩
      rw [get, if_neg fun z => ?_]
      · exact hi
      · rw [z] at hi; exact nj' k hi
  · rw [get] at h h'
    by_cases c : i = j
    · by_cases c' : i' = j
      · rw [c, c']
      · rw [if_pos c] at h
        rw [if_neg c'] at h'
        have h := Option.some.inj (Option.some.inj h)
        subst h
        have := (I.idx i' _ h').1
        omega
    · by_cases c' : i' = j
      · rw [if_pos c'] at h'
        rw [if_neg c] at h
        have h' := Option.some.inj (Option.some.inj h')
        subst h'
        have := (I.idx i _ h).1
        omega
      · rw [if_neg c] at h
        rw [if_neg c'] at h'
        exact I.one i i' k h h'
theorem own0 (mask : Nat) (L : List Pr) : OwnI mask (Array.replicate (mask + 1) none) L 0 := by
  have get : ∀ (j k : Nat), (Array.replicate (mask + 1) (none : Option Nat))[j]? ≠ some (some k) := fun j k e => by
    rw [Array.getElem?_replicate] at e
    split at e <;> cases e
  exact ⟨Array.size_replicate, fun j k h => absurd h (get j k), fun k hk => absurd hk (Nat.not_lt_zero _), fun j j' k h => absurd h (get j k)⟩
def layStep (mask : Nat) (acc : Option (Own × Nat)) (h : Int) : Option (Own × Nat) := do
  let (owner, k) ← acc
  let j ← SetTable.layClean.free mask owner (SetTable.turns mask) (SetTable.bits h % (mask + 1)) (SetTable.bits h)
  pure (owner.setIfInBounds j (some k), k + 1)
theorem clean_eq (mask : Nat) (hs : Array Int) : SetTable.layClean mask hs = (hs.foldl (layStep mask) (some (Array.replicate (mask + 1) none, 0))).map (·.1) := by
  unfold SetTable.layClean
  rfl
theorem st_eq {mask m j : Nat} {o : Own} {h : Int} (e : SetTable.layClean.free mask o (SetTable.turns mask) (SetTable.bits h % (mask + 1)) (SetTable.bits h) = some j) : layStep mask (some (o, m)) h = some (o.setIfInBounds j (some m), m + 1) := by
  simp only [layStep, bind, Option.bind, e, pure]
theorem lay_all {mask : Nat} {L : List Pr} (hm : mask = 31 ∨ mask = 127) (lt : ∀ p ∈ L, p.1 < 10 ∧ p.2 < 10) (few : L.length ≤ mask) (rest : List Pr) : ∀ (m : Nat) (o : Own), OwnI mask o L m → (∀ i, L[m + i]? = rest[i]?) → m + rest.length = L.length → ∃ o', (rest.map hPr).foldl (layStep mask) (some (o, m)) = some (o', L.length) ∧ OwnI mask o' L L.length := by
  induction rest with
  | nil =>
    intro m o I _ l
    have : m = L.length := by rw [← l]; rfl
    subst this
    exact ⟨o, rfl, I⟩
  | cons p rest ih =>
    intro m o I he l
    have l' : m + (rest.length + 1) = L.length := l
    have hp : L[m]? = some p := he 0
    obtain ⟨j, e, hj, nj, r⟩ := free_at hm (lt p (List.mem_of_getElem? hp)) (I.gap (by omega))
    rw [List.map_cons, List.foldl_cons, st_eq e]
    refine ih (m + 1) _ (I.next hj nj hp r) (fun i => ?_) (by omega)
    rw [show m + 1 + i = m + (i + 1) by omega]
    exact he (i + 1)
end Sp

set_option maxHeartbeats 1000000
namespace Sp
open PySem Sm
def liveL (mask : Nat) (o : Own) : List (Nat × Nat) := (List.range (mask + 1)).filterMap fun j => (o.getD j none).map (j, ·)
theorem getD_at {o : Own} {j k : Nat} : o.getD j none = some k ↔ o[j]? = some (some k) := by
  rw [Array.getD_eq_getD_getElem?]
  cases o[j]? with
  | none => simp
  | some v => simp
theorem live_mem {mask : Nat} {o : Own} {j k : Nat} : (j, k) ∈ liveL mask o ↔ j ≤ mask ∧ o[j]? = some (some k) := by
  unfold liveL
  rw [List.mem_filterMap]
  constructor
  · rintro ⟨i, hi, e⟩
    obtain ⟨k', hk, e'⟩ := Option.map_eq_some_iff.mp e
    injection e' with e1 e2
    subst e1
    subst e2
    exact ⟨by have := List.mem_range.mp hi; omega, getD_at.mp hk⟩
  · rintro ⟨h1, h2⟩
    exact ⟨j, List.mem_range.mpr (by omega), by rw [getD_at.mpr h2]; rfl⟩
theorem live_up (mask : Nat) (o : Own) : (liveL mask o).Pairwise (fun a b => a.1 < b.1) := by
  unfold liveL
  refine List.Pairwise.filterMap _ (fun a b ab x hx y hy => ?_) List.pairwise_lt_range
  obtain ⟨k, _, rfl⟩ := Option.map_eq_some_iff.mp hx
  obtain ⟨k', _, rfl⟩ := Option.map_eq_some_iff.mp hy
  exact ab
theorem live_perm {mask : Nat} {o : Own} {L : List Pr} {n : Nat} (I : OwnI mask o L n) : ((liveL mask o).map (·.2)).Perm (List.range n) := by
  refine (List.perm_ext_iff_of_nodup ?_ List.nodup_range).mpr fun k => ?_
  · unfold List.Nodup
    rw [List.pairwise_map]
    refine List.Pairwise.imp_of_mem (fun {a b} ha hb ab e => ?_) (live_up mask o)
    have h1 := (live_mem (j := a.1) (k := a.2)).mp ha
    have h2 := (live_mem (j := b.1) (k := b.2)).mp hb
    rw [← e] at h2
    have := I.one _ _ _ h1.2 h2.2
    omega
  · rw [List.mem_map, List.mem_range]
    constructor
    · rintro ⟨⟨j, k'⟩, h, rfl⟩
      exact (I.idx j k' (live_mem.mp h).2).1
    · intro hk
      obtain ⟨j, hj⟩ := I.all k hk
      have jl : j < o.size := by
        rw [Array.getElem?_eq_some_iff] at hj
        exact hj.1
      exact ⟨(j, k), live_mem.mpr ⟨by have := I.size; omega, hj⟩, rfl⟩
theorem perm_get {α : Type} (d : α) (l : List α) {ks : List Nat} (h : ks.Perm (List.range l.length)) : (ks.map fun k => l.getD k d).Perm l := by
  have e : (List.range l.length).map (fun k => l.getD k d) = l := by
    refine List.ext_getElem (by rw [List.length_map, List.length_range]) fun i h1 h2 => ?_
    rw [List.getElem_map, List.getElem_range, List.getD_eq_getElem?_getD, List.getElem?_eq_getElem h2]
    rfl
  have := h.map fun k => l.getD k d
  rw [e] at this
  exact this
/-- a table laid anew -/
theorem laid_okP {B : Bool} {mask f mv : Nat} {L : List Pr} (hm : mask = 31 ∨ mask = 127) (nd : L.Nodup) (lt : ∀ p ∈ L, p.1 < 10 ∧ p.2 < 10) (few : L.length ≤ mask) {hs : Array Int} (eh : hs.toList = L.map hPr) :
    ∃ t order, SetTable.laid mask f mv (!B) true hs = some (t, order) ∧ order.toList.Perm (List.range L.length) ∧ t.mask = mask ∧ t.moves = mv ∧ TbP B t (order.toList.map fun k => L.getD k (0, 0)) := by
  obtain ⟨o, eo, I⟩ := lay_all hm lt few L 0 _ (own0 mask L) (fun i => by rw [Nat.zero_add]) (Nat.zero_add _)
  have ec : SetTable.layClean mask hs = some o := by
    rw [clean_eq, ← Array.foldl_toList, eh, eo]
    rfl
  have lp := live_perm I
  have ll : (liveL mask o).length = L.length := by
    have := lp.length_eq
    rw [List.length_map, List.length_range] at this
    exact this
  refine ⟨{ mask, place := ((liveL mask o).map (·.1)).toArray, dummies := #[], finger := f, led := !B, moves := mv, plain := true }, ((liveL mask o).map (·.2)).toArray, ?_, by simpa using lp, rfl, rfl, ?_⟩
  · unfold SetTable.laid
    rw [ec]
    rfl
  · have eo2 : (((liveL mask o).map (·.2)).toArray).toList = (liveL mask o).map (·.2) := by simp
    rw [eo2]
    have pg := perm_get (0, 0) L lp
    refine ⟨rfl, rfl, rfl, ?_, ?_, pg.nodup_iff.mpr nd, fun p hp => lt p (pg.mem_iff.mp hp), ?_, fun j hj => ?_, fun i j p hj hp => ?_⟩
    · show (((liveL mask o).map (·.1)).toArray).toList.Pairwise (· < ·)
      rw [show (((liveL mask o).map (·.1)).toArray).toList = (liveL mask o).map (·.1) by simp, List.pairwise_map]
      exact live_up mask o
    · show (((liveL mask o).map (·.1)).toArray).size = _
      rw [List.size_toArray, List.length_map, List.length_map, List.length_map]
    · exact hm.elim (fun h => .inr (.inl h)) (fun h => .inr (.inr h))
    · have hj' : j ∈ (liveL mask o).map (·.1) := by simpa using hj
      obtain ⟨⟨a, b⟩, h, rfl⟩ := List.mem_map.mp hj'
      exact (live_mem.mp h).1
    · have hj' : ((liveL mask o).map (·.1))[i]? = some j := by simpa using hj
      rw [List.getElem?_map] at hj'
      obtain ⟨⟨a, b⟩, hab, rfl⟩ := Option.map_eq_some_iff.mp hj'
      rw [List.getElem?_map, List.getElem?_map, hab] at hp
      have hp := Option.some.inj hp
      have hm2 := live_mem.mp (List.mem_of_getElem? hab)
      obtain ⟨_, q, hq, kk, ek, ak⟩ := I.idx a b hm2.2
      have eq : p = q := by
        rw [← hp]
        show L.getD b (0, 0) = q
        rw [List.getD_eq_getElem?_getD, hq]
        rfl
      subst eq
      refine ⟨kk, ek, fun k' hk => ?_⟩
      have t := ak k' hk
      obtain ⟨k2, e2⟩ := (tk_iff I.size (nth_le _ _ _)).mp t
      have : _ ∈ (liveL mask o).map (·.1) := List.mem_map.mpr ⟨(_, k2), live_mem.mpr ⟨nth_le _ _ _, e2⟩, rfl⟩
      simpa using this
end Sp

set_option maxHeartbeats 2000000
namespace Sp
open PySem Sm
section
variable {prog : Program} {w : World} {A : Around} {E : Value → Shared → Prop} {s : Shared}
/-- a pair of small numbers stands there -/
def PrAt (prog : Program) (w : World) (h : Heap) (p : Pr) (b : Addr) : Prop := IsTupleKey (intKind prog w) h [(p.1 : Int), (p.2 : Int)] b
theorem items_int {ks : List Int} {vs : List Value} (h : ItemsAre (intKind prog w) ks vs) : ∀ v ∈ vs, ∃ i t, v = Value.int i t := by
  induction h with
  | nil => intro v hv; simp at hv
  | @cons k v' ks vs h1 _ ih =>
    intro v hv
    rcases List.mem_cons.mp hv with rfl | hv
    · obtain ⟨t, e⟩ := Value.isInt_shape (k := k) (v := v) h1
      exact ⟨k, t, e⟩
    · exact ih v hv
theorem hv_at {ks : List Int} {b : Addr} {Q : Bool → Shared → Prop} (hk : IsTupleKey (intKind prog w) s.heap ks b) (h : Q true s) : wpAny (model prog w) A (hashByValue 8 (.ref b)) Q E s := by
  have hT := hk.typeIs
  obtain ⟨o, items, n, ho, _, hd, hi⟩ := hk
  unfold hashByValue
  refine wpAny_bind (wpAny_specialOf hT F.slot_tuple_hash.lookup ?_)
  dsimp only
  refine wpAny_bind (wpAny_seqItems ho hd ?_)
  refine wpAny_bind ?_
  show wpAny _ _ (forIn items _ _) _ _ s
  rw [← Array.forIn_toList]
  refine wpAny_forIn_list _ (fun rest r s' => r.1 = none ∧ s' = s ∧ ∀ v ∈ rest, ∃ i t, v = Value.int i t) _ ?_ ?_ _ _ ⟨rfl, rfl, items_int hi⟩
  · rintro v rest r s' ⟨hr, rfl, hall⟩
    obtain ⟨i, t, rfl⟩ := hall v List.mem_cons_self
    have e : hashByValue 7 (.int i t) = pure true := by unfold hashByValue; rfl
    rw [e]
    refine wpAny_bind (wpAny_pure ?_)
    simp only [Bool.not_true, Bool.false_eq_true, if_false]
    exact wpAny_pure ⟨rfl, rfl, fun u hu' => hall u (List.mem_cons_of_mem _ hu')⟩
  · rintro ⟨r1, r2⟩ s' ⟨hr, rfl, _⟩
    simp only at hr
    subst hr
    exact wpAny_pure h
theorem oc_at {ks : List Int} {b : Addr} {Q : Bool → Shared → Prop} (hk : IsTupleKey (intKind prog w) s.heap ks b) (h : Q false s) : wpAny (model prog w) A (ofAClassStatement 8 (.ref b)) Q E s := by
  have hT := hk.typeIs
  obtain ⟨o, items, n, ho, hc, hd, hi⟩ := hk
  unfold ofAClassStatement
  refine wpAny_bind (wpAny_typeOf hT ?_)
  dsimp only
  rw [if_pos (show (("tuple" : String) == "tuple") = true from rfl)]
  refine wpAny_bind (wpAny_pure ?_)
  simp only [Bool.not_true, Bool.false_eq_true, if_false]
  refine wpAny_bind (wpAny_seqItems ho hd ?_)
  dsimp only
  refine wpAny_bind ?_
  rw [← Array.forIn_toList]
  refine wpAny_forIn_list _ (fun rest r s' => r.1 = none ∧ s' = s ∧ ∀ v ∈ rest, ∃ i t, v = Value.int i t) _ ?_ ?_ _ _ ⟨rfl, rfl, items_int hi⟩
  · rintro v rest r s' ⟨hr, rfl, hall⟩
    obtain ⟨i, t, rfl⟩ := hall v List.mem_cons_self
    have e : ofAClassStatement 7 (.int i t) = pure false := by unfold ofAClassStatement; rfl
    rw [e]
    refine wpAny_bind (wpAny_pure ?_)
    simp only [Bool.false_eq_true, if_false]
    exact wpAny_pure ⟨rfl, rfl, fun u hu' => hall u (List.mem_cons_of_mem _ hu')⟩
  · rintro ⟨r1, r2⟩ s' ⟨hr, rfl, _⟩
    simp only at hr
    subst hr
    exact wpAny_pure h
theorem seen_at {b : Addr} {ks : List Int} {ys : List Value} {Q : Bool → Shared → Prop} (hk : IsTupleKey (intKind prog w) s.heap ks b) (hy : ∀ y ∈ ys, ∃ b' ks', y = Value.ref b' ∧ IsTupleKey (intKind prog w) s.heap ks' b') (h : Q false s) : wpAny (model prog w) A (searchCouldBeSeen (.ref b) ys) Q E s := by
  unfold searchCouldBeSeen
  refine wpAny_bind ?_
  refine wpAny_forIn_list _ (fun rest r s' => r.1 = none ∧ s' = s ∧ ∀ y ∈ rest, ∃ b' ks', y = Value.ref b' ∧ IsTupleKey (intKind prog w) s.heap ks' b') _ ?_ ?_ _ _ ⟨rfl, rfl, hy⟩
  · rintro v rest r s' ⟨hr, rfl, hall⟩
    obtain ⟨b', ks', rfl, hk'⟩ := hall v List.mem_cons_self
    dsimp only
    have fin := fun u hu' => hall u (List.mem_cons_of_mem _ hu')
    split
    · exact wpAny_pure ⟨rfl, rfl, fin⟩
    · refine wpAny_bind (wpAny_eqIsQuiet_tuple hk ?_)
      simp only [Bool.not_true, Bool.false_eq_true, if_false]
      refine wpAny_bind (wpAny_eqIsQuiet_tuple hk' ?_)
      simp only [Bool.not_true, Bool.false_eq_true, if_false]
      refine wpAny_bind (oc_at hk ?_)
      simp only [Bool.false_eq_true, if_false]
      refine wpAny_bind (oc_at hk' ?_)
      simp only [Bool.false_eq_true, if_false]
      exact wpAny_pure ⟨rfl, rfl, fin⟩
  · rintro ⟨r1, r2⟩ s' ⟨hr, rfl, _⟩
    simp only at hr
    subst hr
    exact wpAny_pure h
/-- entries and what they stand for -/
def EsP (es : Array (Int × Value)) (L : List (Addr × Pr)) : Prop := Paired (fun e q => e.1 = hPr q.2 ∧ e.2 = Value.ref q.1) es.toList L
theorem EsP.len {es : Array (Int × Value)} {L : List (Addr × Pr)} (h : EsP es L) : es.size = L.length := by
  have := Paired.length h
  simpa using this
theorem EsP.get {es : Array (Int × Value)} {L : List (Addr × Pr)} (h : EsP es L) {i : Nat} {q : Addr × Pr} (hq : L[i]? = some q) : es[i]? = some (hPr q.2, Value.ref q.1) := by
  obtain ⟨il, e⟩ := List.getElem?_eq_some_iff.mp hq
  obtain ⟨x, hx, h1, h2⟩ := Sm.paired_get h i il
  rw [e] at h1 h2
  rw [← Array.getElem?_toList, hx]
  congr 1
  exact Prod.ext h1 h2
structure SetP (B : Bool) (h : Heap) (a : Addr) (es : Array (Int × Value)) (ep : Nat) (t : SetTable) (L : List (Addr × Pr)) : Prop where
  obj : h.get? a = some (setO es ep t)
  ent : EsP es L
  tab : TbP B t (L.map (·.2))
  few : L.length * 5 < t.mask * 3
theorem TbP.fits {B : Bool} {t : SetTable} {L : List Pr} (T : TbP B t L) (few : L.length ≤ t.mask) : t.fits L.length = true := by
  unfold SetTable.fits SetTable.fill
  rw [T.sz, T.dm]
  simp
  exact few
theorem SetP.state {B : Bool} {a : Addr} {es : Array (Int × Value)} {ep : Nat} {t : SetTable} {L : List (Addr × Pr)} {Q : (Array (Int × Value) × Nat × SetTable) → Shared → Prop} (S : SetP B s.heap a es ep t L) (h : Q (es, ep, t) s) : wpAny (model prog w) A (setState a) Q E s := by
  refine wpAny_setState_of S.obj rfl ?_ h
  rw [S.ent.len]
  have := S.tab.fits (by have := S.few; rw [List.length_map]; omega)
  rw [List.length_map] at this
  exact this
theorem stored_g {g : Pr → Int} {es : Array (Int × Value)} {L : List (Addr × Pr)} (h : Paired (fun e q => e.1 = g q.2 ∧ e.2 = Value.ref q.1) es.toList L) {i : Nat} {q : Pr} (hq : (L.map (·.2))[i]? = some q) : (es[i]?.map (·.1)).getD 0 = g q := by
  rw [List.getElem?_map] at hq
  cases hl : L[i]? with
  | none => rw [hl] at hq; cases hq
  | some q' =>
    rw [hl] at hq
    obtain ⟨il, e⟩ := List.getElem?_eq_some_iff.mp hl
    obtain ⟨x, hx, h1, h2⟩ := Sm.paired_get h i il
    have e2 : q'.2 = q := Option.some.inj hq
    rw [e, e2] at h1
    rw [← Array.getElem?_toList, hx]
    exact h1
theorem stored_at {es : Array (Int × Value)} {L : List (Addr × Pr)} (h : EsP es L) {i : Nat} {q : Pr} (hq : (L.map (·.2))[i]? = some q) : (es[i]?.map (·.1)).getD 0 = hPr q := stored_g (g := hPr) h hq
theorem mem_part {es : Array (Int × Value)} {f : Int × Value → Bool} {y : Value} (h : y ∈ (es.filter f).toList.map (·.2)) : ∃ x ∈ es.toList, x.2 = y := by
  obtain ⟨x, hx, rfl⟩ := List.mem_map.mp h
  rw [Array.toList_filter] at hx
  exact ⟨x, (List.mem_filter.mp hx).1, rfl⟩
theorem ref_g {g : Pr → Int} {es : Array (Int × Value)} {L : List (Addr × Pr)} (h : Paired (fun e q => e.1 = g q.2 ∧ e.2 = Value.ref q.1) es.toList L) {x : Int × Value} (hx : x ∈ es.toList) : ∃ q ∈ L, x.2 = Value.ref q.1 := by
  obtain ⟨k, hk, ek⟩ := List.getElem_of_mem hx
  have kl : k < L.length := by rw [← Paired.length h]; exact hk
  obtain ⟨x2, hx2, _, e2⟩ := Sm.paired_get h k kl
  rw [List.getElem?_eq_getElem hk, ek] at hx2
  have hx2 := Option.some.inj hx2
  subst hx2
  exact ⟨L[k], List.getElem_mem kl, e2⟩
theorem some_ref {h : Heap} {es : Array (Int × Value)} {L : List (Addr × Pr)} {y : Value} (hE : EsP es L) (at_ : ∀ q ∈ L, PrAt prog w h q.2 q.1) (hy : ∃ x ∈ es.toList, x.2 = y) : ∃ b' ks', y = Value.ref b' ∧ IsTupleKey (intKind prog w) h ks' b' := by
  obtain ⟨x, hx, rfl⟩ := hy
  obtain ⟨q, hq, e⟩ := ref_g (g := hPr) hE hx
  exact ⟨q.1, _, e, at_ q hq⟩
/-- how a search for a pair ends -/
theorem search_at {B : Bool} {a b : Addr} {p : Pr} {es : Array (Int × Value)} {ep : Nat} {t : SetTable} {L : List (Addr × Pr)} {Q : SetFound → Shared → Prop} (hu : A.units < cLine) (S : SetP B s.heap a es ep t L) (at_ : ∀ q ∈ L, PrAt prog w s.heap q.2 q.1) (hb : PrAt prog w s.heap p b) (l10 : p.1 < 10 ∧ p.2 < 10)
    (h1 : p ∈ L.map (·.2) → Q (.there none) s) (h2 : p ∉ L.map (·.2) → ∀ j, j ∉ t.place.toList → j ≤ t.mask → Rch t.mask t.place.toList (hPr p) j → Q (.free j false) s) : wpAny (model prog w) A (setSearch a (.ref b) (hPr p) true) Q E s := by
  have few : (L.map (·.2)).length ≤ t.mask := by have := S.few; rw [List.length_map]; omega
  unfold setSearch setSearchFrom
  refine wpAny_bind (S.state ?_)
  dsimp only
  have gw : t.gaveWay = false := by
    unfold SetTable.gaveWay
    rcases S.tab.mok with e | e | e <;> rw [e] <;> rfl
  rw [gw]
  simp only [Bool.false_eq_true, if_false, Option.getD_none]
  have hA : ∀ (i : Nat) (q : Pr), (L.map (·.2))[i]? = some q → (fun i => (es[i]?.map (·.1)).getD 0) i = hPr q := fun i q hq => stored_at S.ent hq
  have hA2 : ∀ (f : Nat → Int), f = (fun i => (es[i]?.map (·.1)).getD 0) → ∀ m, t.probe f (hPr p) (t.probeStart (hPr p)) = m → t.probe (fun i => (es[i]?.map (·.1)).getD 0) (hPr p) (t.probeStart (hPr p)) = m := fun f hf m h => by rw [← hf]; exact h
  by_cases c : p ∈ L.map (·.2)
  · obtain ⟨j, i, next, e, hi⟩ := S.tab.there few hA c
    rw [List.getElem?_map] at hi
    obtain ⟨q, hq, eq⟩ := Option.map_eq_some_iff.mp hi
    have hqa := at_ q (List.mem_of_getElem? hq)
    have eqy : ∀ Q' : Bool → Shared → Prop, Q' true s → wpAny (model prog w) A (holding [Value.ref q.1] (eqBool (.ref q.1) (.ref b))) Q' E s := fun Q' h => by
      refine wpAny_holding (wpAny_eqBool_tuple hu hqa hb ?_)
      rw [eq, decide_eq_true rfl]
      exact h
    split
    · rename_i met heq
      have em := (hA2 _ rfl _ heq).symm.trans e
      have em := Option.some.inj em
      subst em
      dsimp only
      rw [S.ent.get hq]
      dsimp only
      rw [show (!t.led) = B by rw [S.tab.led]; cases B <;> rfl]
      cases B with
      | false =>
        rw [if_neg Bool.false_ne_true]
        refine wpAny_bind (eqy _ ?_)
        refine wpAny_bind (S.state ?_)
        rw [if_pos (show (true && true) = true from rfl)]
        exact wpAny_pure (h1 c)
      | true =>
        rw [if_pos rfl]
        refine wpAny_bind (seen_at hb (fun y hy => ?_) ?_)
        · exact some_ref S.ent at_ (mem_part hy)
        · rw [if_neg Bool.false_ne_true]
          refine wpAny_bind (eqy _ ?_)
          refine wpAny_bind (S.state ?_)
          rw [if_pos (show (true && true) = true from rfl)]
          exact wpAny_pure (h1 c)
    · rename_i heq
      have e3 : ∀ f : Nat → Int, f = (fun i => (es[i]?.map (·.1)).getD 0) → t.probe f (hPr p) (t.probeStart (hPr p)) = some _ := fun f hf => by rw [hf]; exact e
      exact (heq _ (e3 _ rfl)).elim
  · obtain ⟨j, e, nj, lj, r⟩ := S.tab.free few hA c l10
    split
    · rename_i met heq
      have em := (hA2 _ rfl _ heq).symm.trans e
      have em := Option.some.inj em
      subst em
      exact wpAny_pure (h2 c j nj lj r)
    · rename_i heq
      have e3 : ∀ f : Nat → Int, f = (fun i => (es[i]?.map (·.1)).getD 0) → t.probe f (hPr p) (t.probeStart (hPr p)) = some _ := fun f hf => by rw [hf]; exact e
      exact (heq _ (e3 _ rfl)).elim
end
end Sp

set_option maxHeartbeats 2000000
namespace Sp
open PySem Sm
theorem ent_ins {g : Pr → Int} {es : Array (Int × Value)} {L : List (Addr × Pr)} (h : Paired (fun e q => e.1 = g q.2 ∧ e.2 = Value.ref q.1) es.toList L) (i : Nat) (b : Addr) (p : Pr) : Paired (fun e q => e.1 = g q.2 ∧ e.2 = Value.ref q.1) (SetTable.insertAt es i (g p, Value.ref b)).toList (L.take i ++ (b, p) :: L.drop i) := by
  rw [SetTable.toList_insertAt]
  exact paired_app (paired_take _ h) (.cons ⟨rfl, rfl⟩ (paired_drop _ h))
theorem map_ins {α β : Type} (f : α → β) (l : List α) (i : Nat) (x : α) : (l.take i ++ x :: l.drop i).map f = (l.map f).take i ++ f x :: (l.map f).drop i := by
  rw [List.map_append, List.map_cons, List.map_take, List.map_drop]
theorem ent_perm {g : Pr → Int} {es : Array (Int × Value)} {L : List (Addr × Pr)} (h : Paired (fun e q => e.1 = g q.2 ∧ e.2 = Value.ref q.1) es.toList L) : ∀ {ks : List Nat}, (∀ k ∈ ks, k < L.length) → Paired (fun e q => e.1 = g q.2 ∧ e.2 = Value.ref q.1) (ks.filterMap (es[·]?)) (ks.map fun k => L.getD k (0, (0, 0)))
  | [], _ => .nil
  | k :: ks, hk => by
    have kl := hk k List.mem_cons_self
    obtain ⟨x, hx, h1⟩ := Sm.paired_get h k kl
    have ex : es[k]? = some x := by rw [← Array.getElem?_toList]; exact hx
    rw [List.filterMap_cons_some ex, List.map_cons]
    refine .cons ?_ (ent_perm h fun k' hk' => hk k' (List.mem_cons_of_mem _ hk'))
    have : L.getD k (0, (0, 0)) = L[k] := by rw [List.getD_eq_getElem?_getD, List.getElem?_eq_getElem kl]; rfl
    rw [this]
    exact h1
theorem hash_g {g : Pr → Int} {es : Array (Int × Value)} {L : List (Addr × Pr)} (h : Paired (fun e q => e.1 = g q.2 ∧ e.2 = Value.ref q.1) es.toList L) : es.toList.map (fun x => x.1) = (L.map (·.2)).map g := by
  generalize es.toList = l at h
  induction h with
  | nil => rfl
  | cons r _ ih => rw [List.map_cons, List.map_cons, List.map_cons, ih, r.1]
theorem reordP_at {prog : Program} {w : World} {A : Around} {E : Value → Shared → Prop} {s : Shared} {es : Array (Int × Value)} {t : SetTable} {order : Array Nat} {Q : Array (Int × Value) × SetTable → Shared → Prop} (hz : (order.filterMap (es[·]?)).size = es.size) (h : Q (order.filterMap (es[·]?), t) s) :
    wpAny (model prog w) A (reord es (some (t, order))) Q E s := by
  unfold reord
  dsimp only
  have e : ((order.filterMap (es[·]?)).size != es.size) = false := by rw [hz]; simp
  simp only [e, Bool.false_eq_true, if_false]
  first | exact wpAny_bind (wpAny_pure (wpAny_pure h)) | exact wpAny_pure h
section
variable {prog : Program} {w : World} {A : Around} {E : Value → Shared → Prop} {s : Shared}
theorem addP_at {B : Bool} {a b : Addr} {p : Pr} {es : Array (Int × Value)} {ep : Nat} {t : SetTable} {L : List (Addr × Pr)} {Q : Bool → Shared → Prop} (hu : A.units < cLine) (S : SetP B s.heap a es ep t L) (at_ : ∀ q ∈ L, PrAt prog w s.heap q.2 q.1) (hb : PrAt prog w s.heap p b) (l10 : p.1 < 10 ∧ p.2 < 10) (l70 : L.length < 70)
    (h : ∀ r h' es' ep' t' L', Heap.SameBut a s.heap h' → SetP B h' a es' ep' t' L' → (∀ q, q ∈ L' ↔ q ∈ L ∨ (q = (b, p) ∧ p ∉ L.map (·.2))) → Q r { s with heap := h' }) : wpAny (model prog w) A (setAddHashed a (.ref b) (hPr p)) Q E s := by
  unfold setAddHashed setAddHashedIn
  refine wpAny_holding (wpAny_bind (S.state ?_))
  dsimp only
  have bs : byScan (.ref b) es = false := by simp [byScan, Value.scannable]
  rw [bs]
  simp only [Bool.false_eq_true, if_false]
  refine wpAny_bind (search_at hu S at_ hb l10 (fun c => ?_) (fun c j nj lj r => ?_))
  · dsimp only
    refine wpAny_pure (h false s.heap es ep t L (Heap.SameBut.refl _ _) S fun q => ⟨.inl, fun z => z.elim id fun z => absurd c z.2⟩)
  · dsimp only
    refine wpAny_bind (S.state ?_)
    obtain ⟨p1, p2, p3, T'⟩ := S.tab.put nj lj r c l10
    have pl : (t.put j).1.plain = true := T'.pl
    dsimp only
    rw [pl]
    simp only [if_true]
    refine wpAny_bind (hv_at hb ?_)
    simp only [if_true]
    have q : (SetTable.insertAt es (t.put j).2 (hPr p, Value.ref b)).size = L.length + 1 := by
      have := congrArg List.length (SetTable.toList_insertAt es (t.put j).2 (hPr p, Value.ref b))
      rw [Array.length_toList] at this
      rw [this, len_ins, Array.length_toList, S.ent.len]
    have l1 : ((L.take (t.put j).2 ++ (b, p) :: L.drop (t.put j).2)).length = L.length + 1 := len_ins ..
    have hE : EsP (SetTable.insertAt es (t.put j).2 (hPr p, Value.ref b)) (L.take (t.put j).2 ++ (b, p) :: L.drop (t.put j).2) := ent_ins (g := hPr) S.ent _ b p
    rw [← map_ins (fun x : Addr × Pr => x.2) L (t.put j).2 (b, p)] at T'
    have mem : ∀ u, u ∈ L.take (t.put j).2 ++ (b, p) :: L.drop (t.put j).2 ↔ u ∈ L ∨ (u = (b, p) ∧ p ∉ L.map (·.2)) := fun u => by
      rw [mem_ins]
      exact ⟨fun z => z.elim (fun z => .inr ⟨z, c⟩) .inl, fun z => z.elim .inr fun z => .inl z.1⟩
    generalize hes : SetTable.insertAt es (t.put j).2 (hPr p, Value.ref b) = es1 at q hE
    generalize hL : L.take (t.put j).2 ++ (b, p) :: L.drop (t.put j).2 = L1 at l1 hE T' mem
    generalize (t.put j).1 = t1 at p2 p3 T' pl
    refine wpAny_bind (wpAny_storeSet_of S.obj rfl ?_ (by rw [q, sizeLine_eq]; omega))
    have ho1 := put_get (es' := es1) (t' := t1) S.obj
    have fl : t1.fill = L.length + 1 := by
      unfold SetTable.fill
      rw [T'.dm, T'.sz, List.length_map, l1]
      rfl
    cases tf : t1.tooFull with
    | false =>
      simp only [Bool.not_false, Bool.and_false, Bool.false_eq_true, if_false]
      refine wpAny_pure (h true _ es1 (ep + 1) t1 L1 (Heap.SameBut.update ..) ⟨ho1, hE, T', ?_⟩ mem)
      unfold SetTable.tooFull at tf
      have tf' := of_decide_eq_false tf
      rw [fl] at tf'
      omega
    | true =>
      simp only [Bool.not_false, Bool.and_self, if_true]
      unfold SetTable.tooFull at tf
      have tf' := of_decide_eq_true tf
      rw [fl] at tf'
      have few := S.few
      have gr : SetTable.grown (es.size + 1) = (L.length + 1) * 4 := by
        unfold SetTable.grown
        rw [S.ent.len, if_neg (by omega)]
      have mk : SetTable.sizeAbove ((L.length + 1) * 4) - 1 = 31 ∧ L.length + 1 = 5 ∨ SetTable.sizeAbove ((L.length + 1) * 4) - 1 = 127 ∧ L.length + 1 = 19 := by
        rcases S.tab.mok with e | e | e
        · rw [p2, e] at tf'
          rw [e] at few
          have : L.length + 1 = 5 := by omega
          rw [this]
          exact .inl ⟨by decide, rfl⟩
        · rw [p2, e] at tf'
          rw [e] at few
          have : L.length + 1 = 19 := by omega
          rw [this]
          exact .inr ⟨by decide, rfl⟩
        · rw [p2, e] at tf'
          omega
      rw [gr]
      have S1 : ∀ (Q' : (Array (Int × Value) × Nat × SetTable) → Shared → Prop), Q' (es1, ep + 1, t1) { s with heap := s.heap.update a (Obj.putSet es1 t1) } → wpAny (model prog w) A (setState a) Q' E { s with heap := s.heap.update a (Obj.putSet es1 t1) } := fun Q' hq => by
        refine wpAny_setState_of ho1 rfl ?_ hq
        have := T'.fits (by rw [List.length_map, l1, p2]; have := S.few; omega)
        rw [List.length_map, l1] at this
        rw [q]
        exact this
      refine wpAny_bind ?_
      rw [relay_eq]
      refine wpAny_bind (S1 _ ?_)
      dsimp only
      have hm : SetTable.sizeAbove ((L.length + 1) * 4) - 1 = 31 ∨ SetTable.sizeAbove ((L.length + 1) * 4) - 1 = 127 := mk.imp (·.1) (·.1)
      have nm : L.length + 1 ≤ SetTable.sizeAbove ((L.length + 1) * 4) - 1 := by omega
      have fw : (L.length + 1) * 5 < (SetTable.sizeAbove ((L.length + 1) * 4) - 1) * 3 := by omega
      rw [if_neg (by rw [sizeLine_eq]; omega)]
      have eh : (Array.map (fun x => x.1) es1).toList = (L1.map (·.2)).map hPr := by
        rw [Array.toList_map]
        exact hash_g (g := hPr) hE
      obtain ⟨t2, order, eo, po, m2, v2, T2⟩ := laid_okP (B := B) (f := t1.finger) (mv := t1.movedTo (SetTable.sizeAbove ((L.length + 1) * 4) - 1)) hm T'.nd T'.lt (by rw [List.length_map, l1]; exact nm) eh
      have er : t1.relaid (Array.map (fun x => x.1) es1) ((L.length + 1) * 4) = some (t2, order) := by
        unfold SetTable.relaid
        rw [T'.led, pl]
        exact eo
      rw [er]
      have lo : ∀ k ∈ order.toList, k < L1.length := fun k hk => by
        have := List.mem_range.mp (po.mem_iff.mp hk)
        rw [List.length_map] at this
        exact this
      have hE2 : EsP (order.filterMap (es1[·]?)) (order.toList.map fun k => L1.getD k (0, (0, 0))) := by
        unfold EsP
        rw [Array.toList_filterMap]
        exact ent_perm (g := hPr) hE lo
      have ol : order.toList.length = L.length + 1 := by
        rw [po.length_eq, List.length_range, List.length_map, l1]
      have z2 : (order.filterMap (es1[·]?)).size = es1.size := by
        rw [hE2.len, List.length_map, ol, q]
      refine wpAny_bind (reordP_at z2 ?_)
      refine wpAny_storeSet_of ho1 rfl ?_ (by rw [z2, q, sizeLine_eq]; omega)
      have eL : (order.toList.map fun k => L1.getD k (0, (0, 0))).map (·.2) = order.toList.map fun k => (L1.map (·.2)).getD k (0, 0) := by
        rw [List.map_map]
        refine List.map_congr_left fun k _ => ?_
        show (L1.getD k (0, (0, 0))).2 = (L1.map (·.2)).getD k (0, 0)
        rw [List.getD_eq_getElem?_getD, List.getD_eq_getElem?_getD, List.getElem?_map]
        cases L1[k]? <;> rfl
      rw [← eL] at T2
      have pg : (order.toList.map fun k => L1.getD k (0, (0, 0))).Perm L1 := perm_get (0, (0, 0)) L1 (by rw [List.length_map] at po; exact po)
      refine wpAny_pure (h true _ _ _ t2 _ ((Heap.SameBut.update ..).trans (Heap.SameBut.update ..)) ⟨put_get ho1, hE2, T2, ?_⟩ fun u => (pg.mem_iff).trans (mem u))
      rw [List.length_map, ol, m2]
      exact fw
end
end Sp

set_option maxHeartbeats 4000000
namespace Sp
open PySem PyProof.Rows Sm
def allP : List Pr := (List.range 10).flatMap fun y => (List.range y).map fun x => (x, y)
theorem allP_len : allP.length = 45 := by decide +kernel
theorem mem_allP {p : Pr} (h : p.1 < p.2) (l : p.2 < 10) : p ∈ allP := by
  unfold allP
  exact List.mem_flatMap.mpr ⟨p.2, List.mem_range.mpr l, List.mem_map.mpr ⟨p.1, List.mem_range.mpr h, rfl⟩⟩
theorem few45 {L : List Pr} (nd : L.Nodup) (h : ∀ p ∈ L, p.1 < p.2 ∧ p.2 < 10) : L.length ≤ 45 := by
  have go : ∀ (l m : List Pr), l.Nodup → (∀ x ∈ l, x ∈ m) → l.length ≤ m.length := by
    intro l
    induction l with
    | nil => exact fun _ _ _ => Nat.zero_le _
    | cons a r ih =>
      intro m nd h
      have am : a ∈ m := h a List.mem_cons_self
      obtain ⟨n1, n2⟩ := List.nodup_cons.mp nd
      have q := ih (m.erase a) n2 fun x hx => (List.mem_erase_of_ne (fun e => n1 (by rw [← e]; exact hx))).mpr (h x (List.mem_cons_of_mem _ hx))
      rw [List.length_erase_of_mem am] at q
      have := List.length_pos_of_mem am
      rw [List.length_cons]
      omega
  have := go L allP nd fun p hp => mem_allP (h p hp).1 (h p hp).2
  rw [allP_len] at this
  exact this
theorem hash_is {prog : Program} {w : World} (p : Pr) : tupleKeyHash (intKind prog w) [(p.1 : Int), (p.2 : Int)] = hPr p := by
  unfold tupleKeyHash hPr hP
  rfl
theorem PrAt.keep {prog : Program} {w : World} {h h' : Heap} {p : Pr} {b : Addr} (x : PrAt prog w h p b) (k : ∀ o, h.get? b = some o → h'.get? b = some o) : PrAt prog w h' p b := by
  obtain ⟨o, items, n, ho, r⟩ := x
  exact ⟨o, items, n, k o ho, r⟩
theorem SetP.keep {B : Bool} {h h' : Heap} {a : Addr} {es : Array (Int × Value)} {ep : Nat} {t : SetTable} {L : List (Addr × Pr)} (S : SetP B h a es ep t L) (k : ∀ o, h.get? a = some o → h'.get? a = some o) : SetP B h' a es ep t L := ⟨k _ S.obj, S.ent, S.tab, S.few⟩
section
variable {prog : Program} {w : World} {A : Around} {R : Result → Shared → Prop} {I : Addr} {fp wr : List Addr} {G : Array GenState → Array GenState → Prop} {n : Nat} {P : Nat → Value → Prop} {St : Nat → Shared → Prop}
theorem fillP_at (hu : A.in1.units < cLine) (W : WalksS prog w A.in1 I fp wr G n P St) (S : Addr) (nf : S ∉ fp) (bs : Nat → Addr) (ps : Nat → Pr) (hv : ∀ i v, i < n → P i v → v = .ref (bs i)) (lt : ∀ i, i < n → (ps i).1 < (ps i).2 ∧ (ps i).2 < 10) (nb : ∀ i, i < n → bs i ≠ S ∧ bs i ∉ wr) :
    ∀ (k i : Nat) (s : Shared) (es : Array (Int × Value)) (ep : Nat) (t : SetTable) (L : List (Addr × Pr)), n - i = k → i ≤ n → St i s → (∀ j, j < n → PrAt prog w s.heap (ps j) (bs j)) → SetP (byT w) s.heap S es ep t L → (∀ q ∈ L, ∃ j, j < i ∧ q = (bs j, ps j)) → (∀ j, j < i → ps j ∈ L.map (·.2)) →
      (∀ s' es' ep' t' L', Moved (S :: wr) G s s' → SetP (byT w) s'.heap S es' ep' t' L' → (∀ q ∈ L', ∃ j, j < n ∧ q = (bs j, ps j)) → (∀ j, j < n → ps j ∈ L'.map (·.2)) → R (.ok (.ret .none)) s') →
      codeAny (model prog w) A (.builtin "set.update.loop" ⟨[.ref S, .ref I], []⟩) R s := by
  have nw : S ∉ wr := fun h => nf (W.sub _ h)
  have up : ∀ b ∈ wr, b ∈ S :: wr := fun b hb => List.mem_cons_of_mem _ hb
  intro k
  induction k with
  | zero =>
    intro i s es ep t L hk hi st hp hS m1 m2 hR
    obtain rfl : i = n := by omega
    refine codeAny_builtin F.entry_set_update_loop ?_
    rw [Around.under_plainId F.plain_set_update_loop _]; show wpAny _ A.in1 (pyNext (.ref I) >>= _) _ _ s; refine wpAny_bind (W.done s _ _ st fun s' hm => ?_)
    exact wpAny_pure (hR s' es ep t L (hm.mono up) (hS.keep fun o e => hm.heap S o nw e) m1 m2)
  | succ k ih =>
    intro i s es ep t L hk hi st hp hS m1 m2 hR
    have li : i < n := by omega
    refine codeAny_builtin F.entry_set_update_loop ?_
    rw [Around.under_plainId F.plain_set_update_loop _]; show wpAny _ A.in1 (pyNext (.ref I) >>= _) _ _ s; refine wpAny_bind (W.item i s _ _ li st fun v s' hP st' hm => ?_)
    obtain rfl := hv i v li hP
    have hS' := hS.keep fun o e => hm.heap S o nw e
    have hp' : ∀ j, j < n → PrAt prog w s'.heap (ps j) (bs j) := fun j hj => (hp j hj).keep fun o e => hm.heap _ o (nb j hj).2 e
    show wpAny _ A.in1 (holding [Value.ref (bs i)] (setAdd S (.ref (bs i))) >>= _) _ _ s'
    refine wpAny_bind (wpAny_holding ?_)
    unfold setAdd
    refine wpAny_holding (wpAny_bind (wpAny_pyHash_tuple hu (hp' i li) ?_))
    rw [hash_is]
    have l45 : L.length ≤ 45 := by
      have := few45 hS.tab.nd fun p hp => by
        obtain ⟨q, hq, rfl⟩ := List.mem_map.mp hp
        obtain ⟨j, hj, rfl⟩ := m1 q hq
        exact lt j (by omega)
      rw [List.length_map] at this
      exact this
    have li10 := lt i li
    generalize htk : s'.toks + _ = tk
    refine addP_at (s := { s' with toks := tk }) hu hS' (fun q hq => ?_) (hp' i li) ⟨by omega, by omega⟩ (by omega) fun r h' es' ep' t' L' sb S2 mem => ?_
    · obtain ⟨j, hj, rfl⟩ := m1 q hq
      exact hp' j (by omega)
    have tkl : s'.toks ≤ tk := by rw [← htk]; exact Nat.le_add_right _ _
    refine wpAny_pure ⟨plainId_quiet F.plain_set_update_loop _, ih (i + 1) _ es' ep' t' L' (by omega) li (W.frame _ s' _ _ st' tkl fun c hc o e => ?_) (fun j hj => (hp' j hj).keep fun o e => ?_) S2 (fun q hq => ?_) (fun j hj => ?_) fun s2 es2 ep2 t2 L2 hm2 h2 h3 h4 => hR s2 es2 ep2 t2 L2 (Moved.trans W.gtrans ((hm.mono up).then_heap tkl fun c o hc e => ?_) hm2) h2 h3 h4⟩
    · rw [sb.2 c (fun q : c = S => nf (by rw [← q]; exact hc))]; exact e
    · rw [sb.2 _ (nb j hj).1]; exact e
    · rcases (mem q).mp hq with hq | ⟨rfl, _⟩
      · obtain ⟨j, hj, e⟩ := m1 q hq
        exact ⟨j, by omega, e⟩
      · exact ⟨i, by omega, rfl⟩
    · by_cases c : j = i
      · subst c
        by_cases d : ps j ∈ L.map (·.2)
        · obtain ⟨q, hq, e⟩ := List.mem_map.mp d
          exact List.mem_map.mpr ⟨q, (mem q).mpr (.inl hq), e⟩
        · exact List.mem_map.mpr ⟨(bs j, ps j), (mem _).mpr (.inr ⟨rfl, d⟩), rfl⟩
      · obtain ⟨q, hq, e⟩ := List.mem_map.mp (m2 j (by omega))
        exact List.mem_map.mpr ⟨q, (mem q).mpr (.inl hq), e⟩
    · rw [sb.2 c (fun q : c = S => hc (by rw [q]; exact List.mem_cons_self))]; exact e
end
end Sp

set_option maxHeartbeats 4000000
namespace Sp
open PySem PyProof.Rows Sm
theorem fresh_tbP (B : Bool) : TbP B (.fresh 0 0 (!B)) [] := by
  have e : SetTable.fresh 0 0 (!B) = SetTable.fresh 0 0 (!B) := rfl
  refine ⟨rfl, rfl, rfl, .nil, rfl, .nil, fun p hp => (List.not_mem_nil hp).elim, .inl rfl, fun j hj => (List.not_mem_nil hj).elim, fun i j p h => ?_⟩
  cases h
section
variable {prog : Program} {w : World} {A : Around} {E : Value → Shared → Prop} {s : Shared}
set_option maxHeartbeats 8000000 in
/-- set(xs), xs a list of pairs of small numbers -/
theorem setP_at {l : Addr} {items : Array Value} {bs : List Addr} {ps : List Pr} {Q : Value → Shared → Prop} (hu : A.units + 8 < cLine) (hh : A.handled = none) (hl : s.heap.IsList l items) (hi : items.toList = bs.map Value.ref) (hz : ps.length = bs.length)
    (at_ : ∀ j, j < bs.length → PrAt prog w s.heap (ps.getD j (0, 0)) (bs.getD j 0)) (lt : ∀ p ∈ ps, p.1 < p.2 ∧ p.2 < 10)
    (h : ∀ (h' : Heap) (tk : Nat) es ep t (L : List (Addr × Pr)), SetP (byT w) h' s.heap.objs.size es ep t L → (∀ q ∈ L, ∃ j, j < bs.length ∧ q = (bs.getD j 0, ps.getD j (0, 0))) → (∀ p ∈ ps, p ∈ L.map (·.2)) → (∀ b o, b < s.heap.objs.size → s.heap.get? b = some o → h'.get? b = some o) → Q (.ref s.heap.objs.size) { s with heap := h', toks := tk }) :
    wpAny (model prog w) A (call (.type "set") [.ref l]) Q E s := by
  obtain ⟨c, tl, hmro⟩ := F.called_set.mro
  have hmade := F.called_set.made
  have hsub := F.called_set.sub
  have hlen : items.size = bs.length := by
    have := congrArg List.length hi
    rw [Array.length_toList, List.length_map] at this
    exact this
  refine wpAny_call (codeAny_of_tree ?_)
  show wpAny _ _ (callAny (.type "set") _) _ _ _; refine wpAny_pure ⟨Code.quiet_builtin _ (by decide +kernel), codeAny_builtin F.entry_type_call ?_⟩
  rw [Around.under_plain (weight_type_call_type "set" [.ref l] []) rfl]; have h1 := F.called_set.notType
  have h2 := F.called_set.canCreate
  have hct := F.typeCall_set_1 (.ref l)
  repeat (any_goals (first | assumption | wp_step))
  refine codeAny_mono (newS_at (.ref l) (E := E) (Q := fun obj s₁ => obj = .ref s.heap.objs.size ∧ s₁ = { s with heap := s.heap.push (setO #[] 0 (.fresh 0 0 (!byT w))) }) ⟨rfl, rfl⟩) fun r s₁ hr => ?_
  cases r with
  | error e => exact hr
  | ok fl =>
    cases fl with
    | ret obj =>
      obtain ⟨rfl, rfl⟩ := hr
      have gS : (s.heap.push (setO #[] 0 (.fresh 0 0 (!byT w)))).get? s.heap.objs.size = some (setO #[] 0 (.fresh 0 0 (!byT w))) := Heap.get?_push_size _ rfl
      have hT : Shared.TypeIs { s with heap := s.heap.push (setO #[] 0 (.fresh 0 0 (!byT w))) } (.ref s.heap.objs.size) "set" := ⟨_, gS, rfl⟩
      have hli := F.called_set.init.lookup
      have hbi := F.called_set.init.bind (.ref s.heap.objs.size)
      repeat (any_goals (first | assumption | wp_step))
      refine codeAny_mono (codeAny_call_builtin (R := wants (fun r s₂ => r = .none ∧ ∃ h' tk es ep t L, s₂ = { s with heap := h', toks := tk } ∧ SetP (byT w) h' s.heap.objs.size es ep t L ∧ (∀ q ∈ L, ∃ j, j < bs.length ∧ q = (bs.getD j 0, ps.getD j (0, 0))) ∧ (∀ p ∈ ps, p ∈ L.map (·.2)) ∧
          (∀ b o, b < s.heap.objs.size → s.heap.get? b = some o → h'.get? b = some o)) E) F.called_set.init.plain F.entry_set_init (check_set_init_1 hT ?_)) fun r₂ s₂ hr₂ => ?_
      · obtain ⟨ol, hol, hcl, nl, hdl⟩ := hl
        obtain ⟨ocls, odict, odata, oslots⟩ := ol
        simp only at hcl hdl
        subst hcl; subst hdl
        have hol' : (s.heap.push (setO #[] 0 (.fresh 0 0 (!byT w)))).get? l = some { cls := .type "list", dict := odict, data := .seq items nl, slots := oslots } := Heap.get?_push_of_some _ hol
        have hsls := F.sub_list_set
        have hslf := F.sub_list_frozenset
        have hne : (Value.type "list" == Value.type "dict") = false := by decide
        have hl1 : (s.heap.push (setO #[] 0 (.fresh 0 0 (!byT w)))).IsList l items := ⟨_, hol', rfl, nl, rfl⟩
        unfold Builtin.«set.__init__» noKeywords Builtin.Frozenset.updateFrom
        generalize hPI : pyIter = PI
        wp_walk
        subst hPI
        refine wpAny_pyIter_list hl1 (wpAny_bind (wpAny_runValue ?_))
        have ll : l < s.heap.objs.size := Heap.lt_size hol
        have hh3 : A.in1.in1.in1.handled = none := by simp [hh]
        have ni : l ≠ (s.heap.push (setO #[] 0 (.fresh 0 0 (!byT w)))).objs.size := by rw [Heap.size_push]; exact Nat.ne_of_lt (Nat.lt_succ_of_lt ll)
        have nf : s.heap.objs.size ∉ [(s.heap.push (setO #[] 0 (.fresh 0 0 (!byT w)))).objs.size, l] := by
          rw [Heap.size_push]; simp only [List.mem_cons, List.not_mem_nil, or_false, not_or]
          exact ⟨Nat.ne_of_lt (Nat.lt_succ_self _), Nat.ne_of_gt ll⟩
        have hval : ∀ (i : Nat) (v : Value), i < items.size → items[i]? = some v → v = .ref ((fun i => bs.getD i 0) i) := fun i v li hv => by
          have lb : i < bs.length := by omega
          rw [← Array.getElem?_toList, hi, List.getElem?_map, List.getElem?_eq_getElem lb] at hv
          rw [← Option.some.inj hv]
          simp [List.getD, lb]
        have lbs : ∀ j, j < bs.length → bs.getD j 0 < s.heap.objs.size := fun j hj => by
          obtain ⟨o, _, _, ho, _⟩ := at_ j hj
          exact Heap.lt_size ho
        refine fillP_at (by show A.units + 1 + 1 + 1 < cLine; omega) ((Walks.list hh3 _ l ni items).toS) s.heap.objs.size nf (fun i => bs.getD i 0) (fun i => ps.getD i (0, 0)) hval (fun i li => ?_) (fun i li => ⟨?_, ?_⟩) (items.size - 0) 0 _ #[] 0 _ [] (by omega) (Nat.zero_le _) ⟨⟨_, Heap.get?_push_size _ rfl, rfl, rfl⟩, (hl1.push _)⟩ (fun j hj => ?_) ⟨Heap.get?_push_of_some _ gS, .nil, fresh_tbP _, by show 0 * 5 < 7 * 3; decide⟩ (fun q hq => (List.not_mem_nil hq).elim) (fun j hj => (Nat.not_lt_zero _ hj).elim) ?hR
        · have lv : i < ps.length := by omega
          refine lt _ ?_
          simp [List.getD, lv]
        · exact Nat.ne_of_lt (lbs i (by omega))
        · rw [Heap.size_push]
          simp only [List.mem_cons, List.not_mem_nil, or_false]
          exact Nat.ne_of_lt (Nat.lt_succ_of_lt (lbs i (by omega)))
        · exact (at_ j (by omega)).keep fun o e => Heap.get?_push_of_some _ (Heap.get?_push_of_some _ e)
        case hR =>
          intro s' es' ep' t' L' hm hS' m1 m2
          obtain ⟨h', g', d', tk', os'⟩ := s'
          have eg : g' = s.gens := hm.gens
          have ed : d' = s.drawn := hm.drawn
          have eo : os' = s.os := hm.os
          subst eg; subst ed; subst eo
          show wpAny _ _ _ _ _ _
          refine wpAny_pure ?_
          show wpAny _ _ (ret Value.none) _ _ _; refine wpAny_pure ⟨rfl, h', tk', es', ep', t', L', rfl, hS', fun q hq => ?_, fun p hp => ?_, fun b o hb e => ?_⟩
          · obtain ⟨j, hj, e⟩ := m1 q hq
            exact ⟨j, by omega, e⟩
          · obtain ⟨j, hj, e⟩ := List.getElem_of_mem hp
            have := m2 j (by omega)
            rw [List.getD_eq_getElem?_getD, List.getElem?_eq_getElem hj, e] at this
            exact this
          · have b1 : b ≠ s.heap.objs.size := Nat.ne_of_lt hb
            have b2 : b ≠ (s.heap.push (setO #[] 0 (.fresh 0 0 (!byT w)))).objs.size := by rw [Heap.size_push]; exact Nat.ne_of_lt (Nat.lt_succ_of_lt hb)
            exact hm.heap b o (by simp only [List.mem_cons, List.not_mem_nil, or_false, not_or]; exact ⟨b1, b2⟩) (Heap.get?_push_of_some _ (Heap.get?_push_of_some _ e))
      · cases r₂ with
        | error e => exact hr₂
        | ok fl₂ =>
          cases fl₂ with
          | ret r =>
            obtain ⟨rfl, h', tk, es, ep, t, L, rfl, q1, q2, q3, q4⟩ := hr₂
            repeat (any_goals (first | assumption | wp_step))
            exact h _ _ es ep t L q1 q2 q3 q4
          | _ => exact hr₂.elim
    | _ => exact hr.elim
end
end Sp

set_option maxHeartbeats 4000000
namespace Sp
open PySem PyProof.Rows Sm
theorem below_slot {B : Bool} {t : SetTable} {L : List (Addr × Pr)} (T : TbP B t (L.map (·.2))) (hB : B = false) : ∀ i, i ≤ L.length → SetTable.below t.place (slotOf B t i) = i
  | 0, _ => by
    unfold slotOf
    rw [hB]
    exact below_zero T.up
  | k + 1, h => by
    unfold slotOf
    rw [hB]
    have hk : k < t.place.size := by rw [T.sz, List.length_map]; omega
    simp only [Bool.false_eq_true, if_false, Nat.add_sub_cancel]
    rw [if_neg (by omega)]
    have : t.place.getD k 0 = t.place[k] := by simp [Array.getD, hk]
    rw [this]
    exact below_next T.up hk
section
variable {prog : Program} {w : World} {A : Around} {E : Value → Shared → Prop} {s : Shared} {a : Addr} {L : List (Addr × Pr)}
theorem epochP_at {es : Array (Int × Value)} {ep : Nat} {t : SetTable} {B : Bool} {Q : Nat → Shared → Prop} (ho : s.heap.get? a = some (setO es ep t)) (hE : EsP es L) (T : TbP B t (L.map (·.2))) (fw : L.length * 5 < t.mask * 3) (h : Q ep s) : wpAny (model prog w) A (setEpoch a) Q E s :=
  wpAny_setEpoch_of ho rfl (by rw [hE.len]; exact (fun z => by rw [List.length_map] at z; exact z : t.fits (L.map (·.2)).length = true → t.fits L.length = true) (T.fits (by rw [List.length_map]; omega))) h
theorem walk_is {es : Array (Int × Value)} {ep : Nat} {t : SetTable} {Q : Array (Int × Value) → Shared → Prop} (ho : s.heap.get? a = some (setO es ep t)) (hE : EsP es L) (T : TbP (byT w) t (L.map (·.2))) (fw : L.length * 5 < t.mask * 3)
    (h : Q (walked w a ep es) s) : wpAny (model prog w) A (setWalk a) Q E s := by
  rw [walk_eq]
  refine wpAny_bind (SetP.state (SetP.mk ho hE T fw) ?_)
  refine wpAny_bind (byText_at ?_)
  have pl := T.pl
  have ld := T.led
  unfold walked at h
  cases c : byT w with
  | true =>
    rw [c] at h
    simp only [if_true] at h ⊢
    exact wpAny_bind (wpAny_askSetting (wpAny_pure h))
  | false =>
    rw [c] at ld h
    simp only [pl, ld, Bool.not_true, Bool.not_false, Bool.false_and, Bool.false_eq_true, if_false] at h ⊢
    first | exact wpAny_bind (wpAny_pure (wpAny_pure h)) | exact wpAny_pure h
theorem snext_at {es : Array (Int × Value)} {ep i : Nat} {t : SetTable} {Q : Option (Value × Nat) → Shared → Prop} (ho : s.heap.get? a = some (setO es ep t)) (hE : EsP es L) (T : TbP (byT w) t (L.map (·.2))) (fw : L.length * 5 < t.mask * 3) (hi : i ≤ L.length)
    (h : Q (((walked w a ep es)[i]?).map fun e => (e.2, slotOf (byT w) t (i + 1))) s) : wpAny (model prog w) A (setNext a (slotOf (byT w) t i) i ep) Q E s := by
  rw [next_eq]
  refine wpAny_bind (SetP.state (SetP.mk ho hE T fw) ?_)
  refine wpAny_bind (byText_at ?_)
  have pl := T.pl
  have ld := T.led
  cases c : byT w with
  | true =>
    simp only [if_true, bne_self_eq_false, Bool.false_eq_true, if_false]
    refine wpAny_bind (walk_is ho hE T fw (wpAny_pure ?_))
    rw [c] at h
    unfold slotOf at h ⊢
    simp only [if_true] at h ⊢
    exact h
  | false =>
    rw [c] at ld h
    simp only [pl, ld, Bool.not_true, Bool.not_false, Bool.false_and, Bool.false_eq_true, if_false]
    have bs := below_slot T c i hi
    rw [c] at bs
    rw [bs]
    have wk : walked w a ep es = es := by unfold walked; rw [c]; rfl
    rw [wk] at h
    have e : (match es[i]?, t.place[i]? with
      | some (_, z), some m => some (z, m + 1)
      | _, _ => none) = (es[i]?).map fun e => (e.2, slotOf false t (i + 1)) := by
      by_cases q : i < L.length
      · have h1 : i < es.size := by rw [hE.len]; exact q
        have h2 : i < t.place.size := by rw [T.sz, List.length_map]; exact q
        rw [Array.getElem?_eq_getElem h1, Array.getElem?_eq_getElem h2]
        unfold slotOf
        simp [Array.getD, h2]
      · have h1 : es[i]? = none := Array.getElem?_eq_none (by rw [hE.len]; omega)
        rw [h1]
        rfl
    first
    | exact wpAny_bind (wpAny_pure (wpAny_pure (cast (congrArg (fun z => Q z s) e.symm) h)))
    | exact wpAny_pure (cast (congrArg (fun z => Q z s) e.symm) h)
theorem item_at {I : Addr} {es : Array (Int × Value)} {ep i : Nat} {t : SetTable} {e : Int × Value} {Q : Option Value → Shared → Prop} (ne : a ≠ I) (ho : s.heap.get? a = some (setO es ep t)) (hE : EsP es L) (T : TbP (byT w) t (L.map (·.2))) (fw : L.length * 5 < t.mask * 3)
    (hI : s.heap.get? I = some (itO (slotOf (byT w) t i) i a L.length ep)) (hw : (walked w a ep es)[i]? = some e)
    (h : ∀ h', h'.get? I = some (itO (slotOf (byT w) t (i + 1)) (i + 1) a L.length ep) → Heap.SameBut I s.heap h' → Q (some e.2) { s with heap := h' }) : wpAny (model prog w) A (pyNext (.ref I)) Q E s := by
  have hi : i < L.length := by
    rcases Nat.lt_or_ge i (walked w a ep es).size with q | q
    · rw [walked_size, hE.len] at q; exact q
    · rw [Array.getElem?_eq_none q] at hw; cases hw
  have hT : s.TypeIs (.ref I) "set_iterator" := ⟨_, hI, rfl⟩
  unfold pyNext
  refine wpAny_bind (wpAny_attempt (wpAny_callSpecial?_slot (name := Str.ofString "__next__") hT slot_si_next (wpAny_call_entry slot_si_next hT entry_si_next ?_ (args_si_next _))))
  unfold Builtin.«set_iterator.__next__»
  refine wpAny_bind (m := slotArgs "__next__" 0 _) (wpAny_pure ?_)
  dsimp only
  refine wpAny_bind (wpAny_fieldsOf hI rfl ?_)
  dsimp only
  unfold setEntries
  refine wpAny_bind (wpAny_bind (SetP.state (SetP.mk ho hE T fw) (wpAny_pure ?_)))
  have z : (((es.size : Nat) : Int) != ((L.length : Nat) : Int)) = false := by rw [hE.len]; simp
  dsimp only
  rw [z]
  simp only [Bool.false_eq_true, if_false, Int.toNat_natCast]
  refine wpAny_bind (snext_at ho hE T fw (by omega) ?_)
  rw [hw]
  dsimp only [Option.map]
  refine wpAny_bind (wpAny_setField_rec hI (by simp) fun h1 hI1 sb1 => ?_)
  refine wpAny_bind (wpAny_setField_rec (s := { s with heap := h1 }) hI1 (by simp) fun h2 hI2 sb2 => ?_)
  refine wpAny_pure ⟨_, rfl, wpAny_pure (h h2 ?_ (sb1.trans sb2))⟩
  rw [hI2]
  simp [rawInt]
theorem end_at {I : Addr} {es : Array (Int × Value)} {ep : Nat} {t : SetTable} {Q : Option Value → Shared → Prop} (hh : A.handled = none) (ne : a ≠ I) (ho : s.heap.get? a = some (setO es ep t)) (hE : EsP es L) (T : TbP (byT w) t (L.map (·.2))) (fw : L.length * 5 < t.mask * 3)
    (hI : s.heap.get? I = some (itO (slotOf (byT w) t L.length) L.length a L.length ep))
    (h : ∀ h', Heap.ExtBut I s.heap h' → Q none { s with heap := h' }) : wpAny (model prog w) A (pyNext (.ref I)) Q E s := by
  have hT : s.TypeIs (.ref I) "set_iterator" := ⟨_, hI, rfl⟩
  unfold pyNext
  refine wpAny_bind (wpAny_attempt (wpAny_callSpecial?_slot (name := Str.ofString "__next__") hT slot_si_next (wpAny_call_entry slot_si_next hT entry_si_next ?_ (args_si_next _))))
  unfold Builtin.«set_iterator.__next__»
  refine wpAny_bind (m := slotArgs "__next__" 0 _) (wpAny_pure ?_)
  dsimp only
  refine wpAny_bind (wpAny_fieldsOf hI rfl ?_)
  dsimp only
  unfold setEntries
  refine wpAny_bind (wpAny_bind (SetP.state (SetP.mk ho hE T fw) (wpAny_pure ?_)))
  have z : (((es.size : Nat) : Int) != ((L.length : Nat) : Int)) = false := by rw [hE.len]; simp
  dsimp only
  rw [z]
  simp only [Bool.false_eq_true, if_false, Int.toNat_natCast]
  refine wpAny_bind (snext_at ho hE T fw (by omega) ?_)
  rw [Array.getElem?_eq_none (by rw [walked_size, hE.len]; exact Nat.le_refl _)]
  dsimp only [Option.map]
  refine wpAny_bind (wpAny_setField_rec hI (by simp) fun h1 hI1 sb1 => ?_)
  refine wpAny_bind ?_
  simp only [newExc, newTuple]
  refine wpAny_bind (wpAny_newObj_type ?_ (by size_fits))
  refine wpAny_bind (m := firstArgMember _ _) (wpAny_of_eq (a := Value.none) (by first | rfl | (simp only [firstArgMember]; rfl)) ?_); refine wpAny_newObj_type ?_ (by size_fits)
  simp only [raiseNew]
  refine wpAny_bind (wpAny_handled ?_)
  rw [show A.in1.handled = none from hh]; refine wpAny_bind (wpAny_pure (wpAny_throw ?_))
  refine wpAny_bind (wpAny_isInstance (U := "StopIteration") (T := "StopIteration") (b := true) ⟨_, Heap.get?_push_size _ rfl, rfl⟩ isSubtype_stop ?_)
  exact wpAny_pure (h _ ((sb1.extBut.push _).push _))
theorem sWalks {I : Addr} {es : Array (Int × Value)} {ep : Nat} {t : SetTable} (hh : A.handled = none) (ne : a ≠ I) (hE : EsP es L) (T : TbP (byT w) t (L.map (·.2))) (fw : L.length * 5 < t.mask * 3) :
    Walks prog w A I [I, a] [I] L.length (fun i v => ∃ e, (walked w a ep es)[i]? = some e ∧ v = e.2)
      (fun i h => h.get? I = some (itO (slotOf (byT w) t i) i a L.length ep) ∧ h.get? a = some (setO es ep t)) where
  sub := fun b hb => by simp at hb; simp [hb]
  frame := fun _ _ _ st hk => ⟨hk I (by simp) _ st.1, hk a (by simp) _ st.2⟩
  item := fun i s Q E hi st hQ => by
    obtain ⟨e, he⟩ : ∃ e, (walked w a ep es)[i]? = some e := ⟨_, Array.getElem?_eq_getElem (by rw [walked_size, hE.len]; exact hi)⟩
    refine item_at ne st.2 hE T fw st.1 he fun h' hI sb => ?_
    exact hQ _ h' s.toks ⟨e, he, rfl⟩ ⟨hI, by rw [sb.2 a ne]; exact st.2⟩ fun b o hb q => by rw [sb.2 b (fun c => hb (by simp [c]))]; exact q
  done := fun s Q E st hQ => end_at hh ne st.2 hE T fw st.1 fun h' xb => hQ h' s.toks fun b o hb q => xb b o (fun c => hb (by simp [c])) q
  self := fun i s Q E st hQ => by
    have hT : s.TypeIs (.ref I) "set_iterator" := ⟨_, st.1, rfl⟩
    refine wpAny_pyIter_slot hT slot_si_iter (wpAny_call_entry slot_si_iter hT entry_si_iter ?_ (args_si_iter _))
    show wpAny _ _ (ret (Value.ref I)) _ _ s; exact wpAny_pure ⟨_, rfl, "set_iterator", _, hT, slot_si_next.lookup, hQ⟩
theorem iter_at {es : Array (Int × Value)} {ep : Nat} {t : SetTable} {Q : Value → Shared → Prop} (ho : s.heap.get? a = some (setO es ep t)) (hE : EsP es L) (T : TbP (byT w) t (L.map (·.2))) (fw : L.length * 5 < t.mask * 3)
    (h : Q (.ref s.heap.objs.size) { s with heap := s.heap.push (itO 0 0 a L.length ep) }) : wpAny (model prog w) A (pyIter (.ref a)) Q E s := by
  have hT : s.TypeIs (.ref a) "set" := ⟨_, ho, rfl⟩
  refine wpAny_pyIter_slot hT F.slot_set_iter (wpAny_call_entry F.slot_set_iter hT entry_iter ?_ (F.args_set_iter_1 _))
  unfold Builtin.«frozenset.__iter__»
  refine wpAny_bind (m := Builtin.Frozenset.slot0 _ _) (wpAny_pure ?_)
  unfold Builtin.Frozenset.sizeOf setEntries
  refine wpAny_bind (wpAny_bind (wpAny_bind (SetP.state (SetP.mk ho hE T fw) (wpAny_pure (wpAny_pure ?_)))))
  rw [drawn_eq]
  refine wpAny_bind (wpAny_bind (SetP.state (SetP.mk ho hE T fw) ?_))
  refine wpAny_bind (byText_at (wpAny_pure ?_))
  rw [T.pl]
  simp only [Bool.not_true, Bool.false_and, Bool.and_false, Bool.false_eq_true, if_false]
  refine wpAny_bind (wpAny_pure ?_)
  refine wpAny_bind (epochP_at ho hE T fw ?_)
  refine wpAny_bind ?_
  unfold newFields
  refine wpAny_newObj_type ?_
  refine wpAny_pure ⟨_, rfl, "set_iterator", _, ⟨_, Heap.get?_push_size _ rfl, rfl⟩, slot_si_next.lookup, ?_⟩
  rw [hE.len]
  exact h
theorem collect_set {es : Array (Int × Value)} {ep : Nat} {t : SetTable} {Q : List Value → Shared → Prop} (hh : A.handled = none) (ho : s.heap.get? a = some (setO es ep t)) (hE : EsP es L) (T : TbP (byT w) t (L.map (·.2))) (fw : L.length * 5 < t.mask * 3)
    (h : ∀ (h' : Heap) (tk : Nat), (∀ b o, s.heap.get? b = some o → h'.get? b = some o) → s.heap.objs.size < h'.objs.size → Q ((walked w a ep es).toList.map (·.2)) { s with heap := h', toks := tk }) : wpAny (model prog w) A (collect (.ref a)) Q E s := by
  have lt : a < s.heap.objs.size := Heap.lt_size ho
  unfold collect
  refine wpAny_bind (wpAny_runValue (codeAny_builtin F.entry_proto_collect ?_))
  rw [Around.under_plainId F.plain_proto_collect _]
  show wpAny _ A.in1 (newList [] >>= fun l => again (.builtin "list.__iadd__" ⟨[l, .ref a], []⟩)) _ _ s
  refine wpAny_bind (wpAny_newObj_type (wpAny_pure ⟨plainId_quiet F.plain_list_iadd _, codeAny_builtin F.entry_list_iadd ?_⟩))
  rw [Around.under_plainId F.plain_list_iadd _]
  have S0 : (s.heap.push { cls := .type "list", data := .seq ([] : List Value).toArray }).get? s.heap.objs.size = some { cls := .type "list", data := .seq ([] : List Value).toArray } := Heap.get?_push_size _ rfl
  have ho1 : (s.heap.push { cls := .type "list", data := .seq ([] : List Value).toArray }).get? a = some (setO es ep t) := Heap.get?_push_of_some _ ho
  have hT1 : Shared.TypeIs { s with heap := s.heap.push { cls := .type "list", data := .seq ([] : List Value).toArray } } (.ref a) "set" := ⟨_, ho1, rfl⟩
  show wpAny _ A.in1 (Builtin.List.listExtendWith (.ref s.heap.objs.size) (.ref a) (.ref s.heap.objs.size)) _ _ { s with heap := s.heap.push { cls := .type "list", data := .seq ([] : List Value).toArray } }
  unfold Builtin.List.listExtendWith
  refine wpAny_bind (wpAny_typeOf hT1 ?_)
  have n1 : Builtin.List.listSameRef (.ref s.heap.objs.size) (.ref a) = false := by simp [Builtin.List.listSameRef, Nat.ne_of_gt lt]
  simp only [n1, no_list, no_tup, Bool.or_false, Bool.false_eq_true, if_false]
  refine wpAny_bind (iter_at ho1 hE T fw ?_)
  refine wpAny_bind (wpAny_holding ?_)
  have ho2 : ((s.heap.push { cls := .type "list", data := .seq ([] : List Value).toArray }).push (itO 0 0 a L.length ep)).get? a = some (setO es ep t) := Heap.get?_push_of_some _ ho1
  have hT2 : Shared.TypeIs { s with heap := (s.heap.push { cls := .type "list", data := .seq ([] : List Value).toArray }).push (itO 0 0 a L.length ep) } (.ref a) "set" := ⟨_, ho2, rfl⟩
  unfold Builtin.List.listLengthHint
  refine wpAny_bind (wpAny_specialOf hT2 len_slot ?_)
  dsimp only
  rw [Sm.split_len]
  dsimp only
  refine wpAny_bind (wpAny_isInstance hT2 sub_ss ?_)
  rw [if_neg (by decide)]
  rw [if_pos (by decide +kernel)]
  refine wpAny_bind (wpAny_typeOf hT2 ?_)
  dsimp only
  refine wpAny_pure ?_
  rw [if_pos (by decide +kernel)]
  refine wpAny_bind (wpAny_rule ?_)
  have lsz : (s.heap.push { cls := .type "list", data := .seq ([] : List Value).toArray }).objs.size = s.heap.objs.size + 1 := size_push' _ _
  have S1 : ((s.heap.push { cls := .type "list", data := .seq ([] : List Value).toArray }).push (itO 0 0 a L.length ep)).get? s.heap.objs.size = some { cls := .type "list", data := .seq ([] : List Value).toArray } := Heap.get?_push_of_some _ S0
  refine wpAny_bind ?_
  show wpAny _ A.in1 (updateSeq s.heap.objs.size (·.push .none) >>= fun _ => updateSeq s.heap.objs.size (·.pop)) _ _ _
  refine wpAny_bind (wpAny_updateSeq S1 rfl ?_)
  have S2 := Heap.get?_update_self (Obj.mapSeq (·.push Value.none)) S1 rfl
  refine wpAny_updateSeq S2 rfl ?_
  have S3 := Heap.get?_update_self (Obj.mapSeq (·.pop)) S2 rfl
  have oth : ∀ b o, b ≠ s.heap.objs.size → ((s.heap.push { cls := .type "list", data := .seq ([] : List Value).toArray }).push (itO 0 0 a L.length ep)).get? b = some o →
      ((((s.heap.push { cls := .type "list", data := .seq ([] : List Value).toArray }).push (itO 0 0 a L.length ep)).update s.heap.objs.size (Obj.mapSeq (·.push Value.none))).update s.heap.objs.size (Obj.mapSeq (·.pop))).get? b = some o :=
    fun b o hb e => (Heap.get?_update_other _ _ (Ne.symm hb)).trans ((Heap.get?_update_other _ _ (Ne.symm hb)).trans e)
  have neI : a ≠ (s.heap.push { cls := .type "list", data := .seq ([] : List Value).toArray }).objs.size := by rw [lsz]; exact Nat.ne_of_lt (Nat.lt_succ_of_lt lt)
  have W := (sWalks (prog := prog) (w := w) (A := A.in1) (I := (s.heap.push { cls := .type "list", data := .seq ([] : List Value).toArray }).objs.size) (ep := ep) (by simpa using hh) neI hE T fw).toS
  have l16 : L.length ≤ 127 := by
    have := fw
    rcases T.mok with e | e | e <;> rw [e] at this <;> omega
  have sl0 : slotOf (byT w) t 0 = 0 := by unfold slotOf; split <;> rfl
  refine wpAny_pure ⟨plainId_quiet F.plain_extend_loop _, codeAny_extend_loopS W (by rw [sizeLine_eq]; omega) _ (by
      rw [lsz]; simp only [List.mem_cons, List.not_mem_nil, or_false, not_or]; exact ⟨Nat.ne_of_lt (Nat.lt_succ_self _), Nat.ne_of_gt lt⟩) _ _ 0 _ #[] _ rfl (Nat.zero_le _) ⟨?_, ?_⟩ S3 (ItemsOf.nil _) fun s' acc' c' hm hS' hacc => ?_⟩
  · refine oth _ _ (by rw [lsz]; exact Nat.ne_of_gt (Nat.lt_succ_self _)) ?_
    rw [sl0]
    exact Heap.get?_push_size _ rfl
  · exact oth _ _ (Nat.ne_of_lt lt) ho2
  · obtain ⟨h', g', d', tk', os'⟩ := s'
    have eg : g' = s.gens := hm.gens
    have ed : d' = s.drawn := hm.drawn
    have eo : os' = s.os := hm.os
    subst eg; subst ed; subst eo
    show wpAny _ A (load s.heap.objs.size >>= _) _ _ _
    refine wpAny_bind (wpAny_load hS' ?_)
    dsimp only
    have el : acc'.toList = (walked w a ep es).toList.map (·.2) := by
      apply List.ext_getElem?
      intro i
      rw [Array.getElem?_toList, List.getElem?_map, Array.getElem?_toList]
      rcases Nat.lt_or_ge i acc'.size with q | q
      · obtain ⟨e, he, hv⟩ := hacc.2 i acc'[i] (Array.getElem?_eq_getElem q)
        rw [Array.getElem?_eq_getElem q, he, hv]
        rfl
      · rw [Array.getElem?_eq_none q, Array.getElem?_eq_none (by rw [walked_size, hE.len, ← hacc.1]; exact q)]
        rfl
    rw [el]
    refine wpAny_pure (h h' tk' (fun b o e => ?_) (Heap.lt_size hS'))
    have lb : b < s.heap.objs.size := Heap.lt_size e
    refine hm.heap b o (by rw [lsz]; simp only [List.mem_cons, List.not_mem_nil, or_false, not_or]; exact ⟨Nat.ne_of_lt lb, Nat.ne_of_lt (Nat.lt_succ_of_lt lb)⟩) (oth b o (Nat.ne_of_lt lb) (Heap.get?_push_of_some _ (Heap.get?_push_of_some _ e)))
end
end Sp

set_option maxHeartbeats 4100000
namespace L2
open PySem PySem.Spec PyProof.Rows Bg Srt Sm Sp
/-- a set of pairs of small numbers, as a thing of the heap: the addresses of its tuples, and the pairs -/
def SetPV (w : World) (a : Addr) (L : List (Addr × Pr)) : HO := .ext fun h => ∃ es ep t, SetP (byT w) h a es ep t L
def prI (q : Addr × Pr) : Int × Int := ((q.2.1 : Int), (q.2.2 : Int))
def PrsAt (H : Hp) (L : List (Addr × Pr)) : Prop := ∀ q ∈ L, H q.1 = some (.tup [.int (prI q).1, .int (prI q).2])
def rSetPr (w : World) (K : PySem.W.Frag) : List V → Hp → VK → Prop := fun xs H Q => ∃ l vs, ∃ ts : List (Int × Int), xs = [.ref l] ∧ SqL K H l vs ∧ Paired (TieL H) vs ts ∧ (∀ t ∈ ts, 0 ≤ t.1 ∧ t.1 < t.2 ∧ t.2 < 10) ∧
  ∀ p (L : List (Addr × Pr)) H', New H p (SetPV w p L) H' → PrsAt H L → (L.map prI).Nodup → (∀ t, t ∈ ts ↔ t ∈ L.map prI) → L.length ≤ 45 → Q (.ref p) H'
def tieNL (a b : Int × Int) : Prop := ¬ [b.1, b.2] < [a.1, a.2]
def rSortPS (w : World) : List V → Hp → VK → Prop := fun xs H Q => ∃ a L, xs = [.ref a] ∧ H a = some (SetPV w a L) ∧ PrsAt H L ∧ L.length < 64 ∧
  ∀ (us : List (Int × Int)) (vs : List V) p H', us.Perm (L.map prI) → us.Pairwise tieNL → Paired (TieL H) vs us → New H p (.lst vs) H' → Q (.ref p) H'
theorem setPV_ok {w : World} {H : Hp} {h : Heap} {a : Addr} {L : List (Addr × Pr)} {P : Program} {w' : World} (S : ∃ es ep t, SetP (byT w) h a es ep t L) : ObjOk P w' H h a (SetPV w a L) := by
  refine ⟨S, ?_, ?_⟩
  · obtain ⟨_, _, _, S⟩ := S
    exact ⟨_, S.obj⟩
  · rintro h1 h2 ⟨es, ep, t, S⟩ k
    exact ⟨es, ep, t, S.keep k⟩
theorem pr_at {P : Program} {w : World} {H : Hp} {h : Heap} {a : Addr} {x y : Int} {p : Pr} (ok : HOk P w H h) (e : H a = some (.tup [.int x, .int y])) (e1 : ((p.1 : Nat) : Int) = x) (e2 : ((p.2 : Nat) : Int) = y) : PrAt P w h p a := by
  obtain ⟨_, its, r, o, h1, h2, n, h3⟩ := (show ObjOk P w H h a (.tup [.int x, .int y]) from ok a _ e)
  refine ⟨o, its.toArray, n, h1, h2, h3, ?_⟩
  cases r with
  | cons r1 r =>
    cases r with
    | cons r2 r =>
      cases r
      obtain ⟨t1, rfl⟩ := r1
      obtain ⟨t2, rfl⟩ := r2
      rw [e1, e2]
      show PySem.ItemsAre _ _ [Value.int x t1, Value.int y t2]
      exact .cons (intKind_is _ _ _ _) (.cons (intKind_is _ _ _ _) .nil)
theorem refs_of {H : Hp} : ∀ {vs : List V} {us : List Value} {ts : List (Int × Int)}, Vals vs us → Paired (TieL H) vs ts → ∃ bs : List Addr, us = bs.map Value.ref ∧ bs.length = ts.length ∧ ∀ j, j < bs.length → H (bs.getD j 0) = some (.tup [.int (ts.getD j (0, 0)).1, .int (ts.getD j (0, 0)).2])
  | _, _, _, .nil, p => by
    cases p
    exact ⟨[], rfl, rfl, fun j hj => (Nat.not_lt_zero _ hj).elim⟩
  | _, _, _, .cons r t, p => by
    cases p with
    | cons a b =>
      obtain ⟨q, rfl, hq⟩ := a
      obtain ⟨bs, e, l, f⟩ := refs_of t b
      cases r
      refine ⟨q :: bs, by rw [e]; rfl, by rw [List.length_cons, List.length_cons, l], fun j hj => ?_⟩
      cases j with
      | zero => exact hq
      | succ j => exact f j (by simpa using hj)
section
variable {X : Cx} {K : PySem.W.Frag} {w : World}
theorem call_setPr (ek : X.K = K) (ew : X.w = w) (cm : X.calm = true) (hu : X.A.units + 8 < cLine) : CallR X (.type "set") (rSetPr w K) := by
  subst ek; subst ew
  intro pins s σ H xs us Q I r h
  obtain ⟨l, vs, ts, rfl, hL, hP, ok, q⟩ := h
  obtain ⟨u, rfl, rx⟩ := vals1 r
  cases rx
  obtain ⟨its, r', pl, hz⟩ := I.list hL
  obtain ⟨bs, eb, lb, hb⟩ := refs_of r' hP
  have mem : ∀ j, j < bs.length → ts.getD j (0, 0) ∈ ts := fun j hj => by
    rw [List.getD_eq_getElem?_getD, List.getElem?_eq_getElem (by omega)]
    exact List.getElem_mem _
  have pg : ∀ j, j < bs.length → (ts.map fun t => ((t.1.toNat, t.2.toNat) : Pr)).getD j (0, 0) = ((ts.getD j (0, 0)).1.toNat, (ts.getD j (0, 0)).2.toNat) := fun j hj => by
    rw [List.getD_eq_getElem?_getD, List.getElem?_map, List.getD_eq_getElem?_getD, List.getElem?_eq_getElem (by omega)]
    rfl
  refine setP_at (bs := bs) (ps := ts.map fun t => (t.1.toNat, t.2.toNat)) hu (I.ok.hd cm) pl.isList (by simpa using eb) (by rw [List.length_map]; omega) (fun j hj => ?_) (fun p hp => ?_) fun h' tk es ep t L S m1 m2 k => ?_
  · have o := ok _ (mem j hj)
    rw [pg j hj]
    exact pr_at I.hok (hb j hj) (by show ((Int.toNat _ : Nat) : Int) = _; omega) (by show ((Int.toNat _ : Nat) : Int) = _; omega)
  · obtain ⟨t, ht, rfl⟩ := List.mem_map.mp hp
    have := ok t ht
    dsimp only
    omega
  · have hf : H s.heap.objs.size = none := I.hok.fresh (Nat.le_refl _)
    have at_ : PrsAt H L := fun q hq => by
      obtain ⟨j, hj, rfl⟩ := m1 q hq
      have o := ok _ (mem j hj)
      have e := hb j hj
      rw [pg j hj]
      have e1 : prI (bs.getD j 0, ((ts.getD j (0, 0)).1.toNat, (ts.getD j (0, 0)).2.toNat)) = ts.getD j (0, 0) := by
        refine Prod.ext ?_ ?_
        · show ((Int.toNat _ : Nat) : Int) = _; omega
        · show ((Int.toNat _ : Nat) : Int) = _; omega
      rw [e1]
      exact e
    have inj : ∀ p q : Pr, (((p.1 : Nat) : Int), ((p.2 : Nat) : Int)) = (((q.1 : Nat) : Int), ((q.2 : Nat) : Int)) → p = q := fun p q e => by
      injection e with e1 e2
      exact Prod.ext (by omega) (by omega)
    have nd : (L.map prI).Nodup := by
      have := S.tab.nd
      unfold List.Nodup at this ⊢
      rw [List.pairwise_map] at this ⊢
      exact this.imp fun h e => h (inj _ _ e)
    have few : L.length ≤ 45 := by
      have := few45 S.tab.nd fun p hp => by
        obtain ⟨q, hq, rfl⟩ := List.mem_map.mp hp
        obtain ⟨j, hj, rfl⟩ := m1 q hq
        have o := ok _ (mem j hj)
        rw [pg j hj]
        dsimp only
        omega
      rw [List.length_map] at this
      exact this
    refine ⟨.ref s.heap.objs.size, _, I.laid (t' := tk) (o := SetPV X.w s.heap.objs.size L) (fun b o eo => k b o (Heap.lt_size eo) eo) (Nat.le_refl _) (setPV_ok ⟨es, ep, t, S⟩), rfl, q _ L _ (New.mk0 hf) at_ nd (fun u => ⟨fun hu => ?_, fun hu => ?_⟩) few⟩
    · obtain ⟨q, hq, e⟩ := List.mem_map.mp (m2 _ (List.mem_map.mpr ⟨u, hu, rfl⟩))
      have o := ok u hu
      refine List.mem_map.mpr ⟨q, hq, ?_⟩
      unfold prI
      rw [e]
      refine Prod.ext ?_ ?_
      · show ((Int.toNat _ : Nat) : Int) = _; omega
      · show ((Int.toNat _ : Nat) : Int) = _; omega
    · obtain ⟨q, hq, rfl⟩ := List.mem_map.mp hu
      obtain ⟨j, hj, rfl⟩ := m1 q hq
      have o := ok _ (mem j hj)
      rw [pg j hj]
      have e1 : prI (bs.getD j 0, ((ts.getD j (0, 0)).1.toNat, (ts.getD j (0, 0)).2.toNat)) = ts.getD j (0, 0) := by
        refine Prod.ext ?_ ?_
        · show ((Int.toNat _ : Nat) : Int) = _; omega
        · show ((Int.toNat _ : Nat) : Int) = _; omega
      rw [e1]
      exact mem j hj
theorem paired_perm {α β : Type} {R : α → β → Prop} {xs : List α} {ys : List β} (h : Paired R xs ys) {xs' : List α} (p : xs'.Perm xs) : ∃ ys', Paired R xs' ys' ∧ ys'.Perm ys := by
  induction p generalizing ys with
  | nil => cases h; exact ⟨[], .nil, .nil⟩
  | cons x _ ih =>
    cases h with
    | cons r t =>
      obtain ⟨zs, h1, h2⟩ := ih t
      exact ⟨_ :: zs, .cons r h1, h2.cons _⟩
  | swap x y l =>
    cases h with
    | cons r t =>
      cases t with
      | cons r2 t =>
        exact ⟨_ :: _ :: _, .cons r2 (.cons r t), .swap ..⟩
  | trans _ _ ih1 ih2 =>
    obtain ⟨ys1, a1, a2⟩ := ih2 h
    obtain ⟨ys2, b1, b2⟩ := ih1 a1
    exact ⟨ys2, b1, b2.trans a2⟩
theorem paired_refs {g : Pr → Int} : ∀ {es : List (Int × Value)} {L : List (Addr × Pr)}, Paired (fun e q => e.1 = g q.2 ∧ e.2 = Value.ref q.1) es L → es.map (·.2) = L.map fun q => Value.ref q.1
  | _, _, .nil => rfl
  | _, _, .cons r t => by rw [List.map_cons, List.map_cons, paired_refs t, r.2]
theorem prs_ties {H : Hp} : ∀ {L : List (Addr × Pr)}, PrsAt H L → Paired (TieL H) (L.map fun q => V.ref q.1) (L.map prI)
  | [], _ => .nil
  | q :: L, h => .cons ⟨_, rfl, h q List.mem_cons_self⟩ (prs_ties fun x hx => h x (List.mem_cons_of_mem _ hx))
theorem vals_refs2 : ∀ L : List (Addr × Pr), Vals (L.map fun q => V.ref q.1) (L.map fun q => Value.ref q.1)
  | [] => .nil
  | _ :: L => .cons rfl (vals_refs2 L)
set_option maxHeartbeats 8000000 in
theorem call_sortedPS (ew : X.w = w) (cm : X.calm = true) : CallR X (.builtin "sorted") (rSortPS w) := by
  subst ew
  intro pins s σ H xs0 us0 Q I r h
  obtain ⟨d, L0, rfl, hd, at0, h64, q⟩ := h
  obtain ⟨u, rfl, rx⟩ := vals1 r
  cases rx
  obtain ⟨⟨es, ep, t, S⟩, _⟩ := I.hok d _ hd
  obtain ⟨L, hP0, pmL⟩ := paired_perm S.ent (walked_perm X.w d ep es)
  have lL : L.length = L0.length := pmL.length_eq
  have at_ : PrsAt H L := fun x hx => at0 x (pmL.mem_iff.mp hx)
  have pt := prs_ties at_
  have r' := vals_refs2 L
  have ek := paired_refs (g := hPr) hP0
  have hP : Paired (TupV X.K H) (L.map fun q => V.ref q.1) ((L.map prI).map fun t => [t.1, t.2]) := by
    have : ∀ {vs : List V} {ts : List (Int × Int)}, Paired (TieL H) vs ts → Paired (TupV X.K H) vs (ts.map fun t => [t.1, t.2]) := fun {vs ts} h => by
      induction h with
      | nil => exact .nil
      | cons a _ ih =>
        obtain ⟨p, e, hp⟩ := a
        exact .cons ⟨p, e, SqT.of hp⟩ ih
    exact this pt
  have ht := tups_of I r' hP fun ns hn => by
    obtain ⟨t, _, rfl⟩ := List.mem_map.mp hn
    exact fun z => by cases z
  apply Calls.call_function_entry kind_sorted plain_sorted entry_sorted (args_sorted1 _)
  unfold Builtin.«sorted»
  refine wpAny_bind (m := checkCount "sorted" 1 1 _) (wpAny_pure ?_)
  refine wpAny_bind (Sp.collect_set (by simpa using I.ok.hd cm) S.obj S.ent S.tab S.few fun h1 tk k lz => ?_)
  rw [ek]
  generalize hts : L.map prI = ts at pt hP ht
  have lts : ts.length = L0.length := by rw [← hts, List.length_map, lL]
  have lvs : (L.map fun q => V.ref q.1).length = ts.length := by rw [List.length_map, lL, lts]
  generalize hzs : (L.map fun q => Value.ref q.1) = zs at r' ht
  have lzs : zs.length = ts.length := by rw [← hzs, List.length_map, lL, lts]
  refine wpAny_bind (wpAny_newList ?_ (by rw [sizeLine_eq]; omega))
  have o1 : (h1.push (seqObj "list" zs.toArray 0)).get? h1.objs.size = some (seqObj "list" zs.toArray 0) := Heap.get?_push_size _ rfl
  refine wpAny_bind (wpAny_holding (wpAny_call_entry slot_list_sort ⟨_, o1, rfl⟩ entry_list_sort (list_sort_by (κ := tuples' true) (key := rank (ts.map fun t => [t.1, t.2])) o1 (by omega) (fun g2 h' kp => ?_) fun p pm sr => ⟨_, rfl, ?_⟩) (args_list_sort _)))
  · refine asks_tups (ht.keep fun b o e => kp b o ?_ (Heap.get?_push_of_some _ (k b o e))) g2
    exact Nat.ne_of_lt (Nat.lt_trans (Heap.lt_size e) lz)
  · obtain ⟨n', o2⟩ := Sm.sh_at (vs := zs) (out := outOf zs p) o1
    have hsz := pm.size
    have hpr : p.toList.Perm (List.range ts.length) := by
      have := Array.perm_iff_toList_perm.mp pm.perm
      rw [lzs] at this
      simpa using this
    have mem : ∀ i ∈ p.toList, i < ts.length := fun i hi => List.mem_range.mp (hpr.mem_iff.mp hi)
    have z : (p.toList.map fun i => (L.map fun q => V.ref q.1).getD i V.non).length = ts.length := by rw [List.length_map, Array.length_toList, hsz, lzs]
    have hp0 : s.heap.objs.size ≤ h1.objs.size := Nat.le_of_lt lz
    refine wpAny_pure ⟨_, rfl, .ref h1.objs.size, _, I.laid (t' := tk) (o := .lst (p.toList.map fun i => (L.map fun q => V.ref q.1).getD i V.non)) (fun b o eo => ?_) hp0 ?_, rfl, ?_⟩
    · have lb : b < h1.objs.size := Nat.lt_trans (Heap.lt_size eo) lz
      exact Sm.sh_old (by rw [size_push']; exact Nat.lt_succ_of_lt lb) (Nat.ne_of_lt lb) (Heap.get?_push_of_some _ (k b o eo))
    · refine ⟨by rw [z, sizeLine_eq]; omega, _, n', vals_map r' p.toList (fun i hi => by rw [lvs]; exact mem i hi), ?_⟩
      exact o2
    · refine q _ _ _ _ ((perm_getD hpr).trans (hts ▸ pmL.map prI)) ?_ (tie_getD pt p.toList mem) (New.mk0 (I.hok.fresh hp0))
      rw [List.pairwise_iff_getElem]
      intro i j hi hj hij
      rw [List.length_map, Array.length_toList, hsz] at hi hj
      have q1 := sr i j (Nat.le_of_lt hij) hj
      unfold Srt.KK at q1
      have li := pm.lt hi
      have lj := pm.lt hj
      rw [List.getElem_map, List.getElem_map]
      have e1 : p.getD i 0 = p.toList[i]'(by rw [Array.length_toList, hsz]; exact hi) := by simp [Array.getD, hsz, hi]
      have e2 : p.getD j 0 = p.toList[j]'(by rw [Array.length_toList, hsz]; exact hj) := by simp [Array.getD, hsz, hj]
      rw [← e1, ← e2]
      intro c
      have ge : ∀ i, i < ts.length → (ts.map fun t => [t.1, t.2]).getD i [] = [(ts.getD i (0, 0)).1, (ts.getD i (0, 0)).2] := fun i hi => by
        rw [List.getD_eq_getElem?_getD, List.getElem?_map, List.getElem?_eq_getElem hi, List.getD_eq_getElem?_getD, List.getElem?_eq_getElem hi]
        rfl
      have z1 := rank_lt (ls := ts.map fun t => [t.1, t.2]) (i := p.getD j 0) (j := p.getD i 0) (by rw [List.length_map]; omega)
      rw [ge _ (by omega), ge _ (by omega)] at z1
      rw [decide_eq_true c] at z1
      have := of_decide_eq_true z1
      omega
end
end L2


namespace K
open PySem L2 Lw Bg
def top (i : Nat) : Stmt := PySem.Challenge.pw_bagwood_k44_a_ring.main.body.getD i (.Pass ⟨0, 0, 0, 0⟩)
abbrev s_is_whole : Stmt := top 4
theorem sc_is_whole : FnScope ["thing"] ["thing"] (defScope s_is_whole) := ⟨rfl, rfl, rfl, by decide +kernel, rfl, by decide +kernel, by decide +kernel⟩
abbrev s_is_below : Stmt := top 5
theorem sc_is_below : FnScope ["n", "thing"] ["n", "thing"] (defScope s_is_below) := ⟨rfl, rfl, rfl, by decide +kernel, rfl, by decide +kernel, by decide +kernel⟩
def spWhole (K : PySem.W.Frag) : Sp := fun vs H Q _ => ∃ (x : V) (t : Value) (bi bb : Bool), vs = [x] ∧ TyOf K H x t ∧ PySem.W.kitOne K t (.type "int") = some bi ∧ PySem.W.kitOne K t (.type "bool") = some bb ∧ Q (.bl (bi && !bb)) H
def spBelow : Sp := fun vs H Q _ => ∃ (n : Int) (o : Option Int), vs = [.int n, upV o] ∧ Q (.bl (belowF n o)) H
section
variable {P : Program} {w : World} {K : PySem.W.Frag} {mg : Str → Option Value} {base : Heap}
set_option maxHeartbeats 4000000 in
theorem ok_is_whole (B : Bl mg) (d_is_whole : Dn K mg "is_whole" s_is_whole ["thing"]) : FnOk P w K mg base CX0 1 d_is_whole.f d_is_whole.fd ["thing"] (spWhole K) := by
  refine d_is_whole.F.ok sc_is_whole (fun vs H Q E h => ?_) (fun cdv A outer s H vs Q E hr h => ?_)
  · obtain ⟨x, t, bi, bb, rfl, _⟩ := h
    rfl
  obtain ⟨x, t, bi, bb, rfl, ty, h1, h2, q⟩ := h
  refine ⟨_, (pss_one (ps_ret (pe_and (pe_callB (call_isinstK (K := K) rfl) rfl B.isinstance (by decide +kernel) (pa_cons (pv 0) (pa_cons (pe_bltn (v := .ty "int") (u := .type "int") rfl B.int (by decide +kernel) rfl) pa_nil))) (pe_one (pe_not (pe_callB (call_isinstK (K := K) rfl) rfl B.isinstance (by decide +kernel) (pa_cons (pv 0) (pa_cons (pe_bltn (v := .ty "bool") (u := .type "bool") rfl B.bool (by decide +kernel) rfl) pa_nil)))))))), ?_⟩
  refine ⟨_, rfl, _, _, _, _, _, rfl, rfl, ty, h1, _, rfl, ?_⟩
  cases bi with
  | true =>
    refine iteT ?_
    exact ⟨_, rfl, _, _, _, _, _, rfl, rfl, ty, h2, _, rfl, q⟩
  | false => exact iteF q
set_option maxHeartbeats 4000000 in
theorem ok_is_below (B : Bl mg) (d_is_whole : Dn K mg "is_whole" s_is_whole ["thing"]) (d_is_below : Dn K mg "is_below" s_is_below ["n", "thing"]) : FnOk P w K mg base CX0 2 d_is_below.f d_is_below.fd ["n", "thing"] spBelow := by
  have G_is_whole : FnOk P w K mg base CX0 1 _ _ _ _ := ok_is_whole B d_is_whole
  refine d_is_below.F.ok sc_is_below (fun vs H Q E h => ?_) (fun cdv A outer s H vs Q E hr h => ?_)
  · obtain ⟨n, i, rfl, _⟩ := h
    rfl
  obtain ⟨n, o, rfl, q⟩ := h
  refine ⟨_, (pss_one (ps_ret (pe_and (pe_call G_is_whole hr rfl d_is_whole.m d_is_whole.F.kp d_is_whole.b .nil pass0 (pa_cons (pv 1) pa_nil)) (pe_one (pe_chain op_le op_lt pe_int (pv 1) (pv 0)))))), ?_⟩
  cases o with
  | none => exact ⟨_, rfl, _, _, _, _, rfl, TyOf.non, kit_non_int, kit_non_bool, _, rfl, iteF q⟩
  | some i =>
    refine ⟨_, rfl, _, _, _, _, rfl, TyOf.int i, kit_int_int, kit_int_bool, _, rfl, ?_⟩
    refine iteT ?_
    refine ⟨_, rfl, _, _, rfl, rfl, _, rfl, ?_⟩
    refine ite2 (fun c => ?_) (fun c => ?_)
    · have c' : 0 ≤ i := of_decide_eq_true c
      refine ⟨_, rfl, _, _, rfl, rfl, ?_⟩
      have e : belowF n (some i) = decide (i < n) := by unfold belowF; simp [c']
      rw [e] at q; exact q
    · have c' : ¬ 0 ≤ i := of_decide_eq_false (Bool.eq_false_iff.mpr c)
      have e : belowF n (some i) = false := by unfold belowF; simp [c']
      rw [e] at q; exact q
end

def lessF (xs ys : List Int) : List Int := xs.filter fun v => !decide (v ∈ ys)
def commonF (xs ys : List Int) : List Int := xs.filter fun v => decide (v ∈ ys)
def aroundF (ts : List (Int × Int)) (v : Int) : List Int :=
  (ts.filterMap fun t => if t.2 = v then some t.1 else none) ++ ts.filterMap fun t => if t.1 = v then some t.2 else none
def spLess (K : PySem.W.Frag) : Sp := fun vs H Q _ => ∃ (a b : Addr) (xs ys : List Int), vs = [.ref a, .ref b] ∧ SqL K H a (xs.map V.int) ∧ SqL K H b (ys.map V.int) ∧ xs.length ≤ 1000 ∧
  ∀ H0 p H', Same H H0 → New H0 p (.lst ((lessF xs ys).map V.int)) H' → Q (.ref p) H'
def spCommon (K : PySem.W.Frag) : Sp := fun vs H Q _ => ∃ (a b : Addr) (xs ys : List Int), vs = [.ref a, .ref b] ∧ SqL K H a (xs.map V.int) ∧ SqL K H b (ys.map V.int) ∧ xs.length ≤ 1000 ∧
  ∀ H0 p H', Same H H0 → New H0 p (.lst ((commonF xs ys).map V.int)) H' → Q (.ref p) H'
def spAround (K : PySem.W.Frag) : Sp := fun vs H Q _ => ∃ (g : V) (n : Int) (ts : List (Int × Int)) (v : Int), vs = [g, .int v] ∧ GraphV K H g n ts ∧ 0 ≤ v ∧ v < n ∧ ts.length ≤ 400 ∧
  ∀ H0 p H', Same H H0 → New H0 p (.lst ((aroundF ts v).map V.int)) H' → Q (.ref p) H'
theorem fm_ifI (xs : List Int) (c : Int → Bool) : (xs.map V.int).filterMap (fun x => match x with | .int v => if c v then some (.int v) else none | _ => none) = (xs.filter c).map V.int := by
  induction xs with
  | nil => rfl
  | cons x r ih =>
    rw [List.map_cons, List.filter_cons]
    cases e : c x with
    | true => rw [List.filterMap_cons_some (by simp only [e]; rfl), ih]; simp
    | false => rw [List.filterMap_cons_none (by simp only [e]; rfl), ih]; simp
theorem fm_range {α β : Type} (f : α → Option β) : ∀ ts : List α, (List.range ts.length).filterMap (fun j => (ts[j]?).bind f) = ts.filterMap f
  | [] => rfl
  | t :: r => by
    rw [List.length_cons, List.range_succ_eq_map]
    have ih := fm_range f r
    have e2 : (List.map Nat.succ (List.range r.length)).filterMap (fun j => ((t :: r)[j]?).bind f) = r.filterMap f := by
      rw [List.filterMap_map, ← ih]
      rfl
    cases e : f t with
    | none => rw [List.filterMap_cons_none (by simpa using e), List.filterMap_cons_none e, e2]
    | some b => rw [List.filterMap_cons_some (b := b) (by simpa using e), List.filterMap_cons_some e, e2]
theorem fm_mapI {α : Type} (f : α → Option Int) (g : α → Option V) (h : ∀ a, g a = (f a).map V.int) (ts : List α) : ts.filterMap g = (ts.filterMap f).map V.int := by
  rw [List.map_filterMap]
  congr 1
  exact funext h

abbrev s_less : Stmt := top 8
theorem sc_less : FnScope ["one", "other"] ["one", "other"] (defScope s_less) := ⟨rfl, rfl, rfl, by decide +kernel, rfl, by decide +kernel, by decide +kernel⟩
section
variable {P : Program} {w : World} {K : PySem.W.Frag} {mg : Str → Option Value} {base : Heap}
set_option maxHeartbeats 4000000 in
theorem ok_less (B : Bl mg) (d_less : Dn K mg "less" s_less ["one", "other"]) : FnOk P w K mg base CX0 1 d_less.f d_less.fd ["one", "other"] (spLess K) := by
  refine d_less.F.ok sc_less (fun vs H Q E h => ?_) (fun cdv A outer s H vs Q E hr h => ?_)
  · obtain ⟨a, b, xs, ys, rfl, _⟩ := h
    rfl
  obtain ⟨a, b, xs, ys, rfl, hA, hB, hz, q⟩ := h
  have hv : (A.deeper (PyProof.Rows.envOfC "less" (defScope s_less) s.heap.objs.size d_less.f cdv)).units + 65 < cLine := by have := hr.un; omega
  refine ⟨_, (pss_one (ps_ret (pe_lc ["v", "other"] [none, some 1]  (by kernel_rfl) rfl (pi_listK (K := K) rfl (pv 0)) (fun _ _ _ _ _ => (pg_name (i := 0) (show (["v", "other"] : List Str).Nodup by decide +kernel) rfl (Or.inl rfl))) (fun _ _ _ _ _ => (pts_one (pt_cmpR (op_notInDK (K := K) rfl hv) (pv 0) (pv 1) (by with_unfolding_all rfl)))) (fun _ _ _ _ _ => (pv 0))))), ?_⟩
  refine ⟨_, rfl, a, rfl, ⟨_, hA⟩, ?_⟩
  refine lc_fmN (fun x => match x with | .int v => if !decide (v ∈ ys) then some (.int v) else none | _ => none) hA (by rw [List.length_map]; exact hz) (fun x H1 N hx sm hN => ?_) (fun H1 p H1' sm hp => ?_)
  · obtain ⟨v, hv, rfl⟩ := List.mem_map.mp hx
    have hN' := hN H1 sm
    refine ⟨_, rfl, _, rfl, notInInts (sm.seq hB) ⟨_, rfl, ?_⟩⟩
    dsimp only at hN'
    cases c : decide (v ∈ ys) with
    | true => rw [c] at hN'; exact iteF hN'
    | false => rw [c] at hN'; exact iteT ⟨_, rfl, hN'⟩
  · rw [fm_ifI] at hp
    exact q _ _ _ sm hp
end

abbrev s_common : Stmt := top 6
theorem sc_common : FnScope ["one", "other"] ["one", "other"] (defScope s_common) := ⟨rfl, rfl, rfl, by decide +kernel, rfl, by decide +kernel, by decide +kernel⟩
section
variable {P : Program} {w : World} {K : PySem.W.Frag} {mg : Str → Option Value} {base : Heap}
set_option maxHeartbeats 4000000 in
theorem ok_common (B : Bl mg) (d_common : Dn K mg "common" s_common ["one", "other"]) : FnOk P w K mg base CX0 1 d_common.f d_common.fd ["one", "other"] (spCommon K) := by
  refine d_common.F.ok sc_common (fun vs H Q E h => ?_) (fun cdv A outer s H vs Q E hr h => ?_)
  · obtain ⟨a, b, xs, ys, rfl, _⟩ := h
    rfl
  obtain ⟨a, b, xs, ys, rfl, hA, hB, hz, q⟩ := h
  have hv : (A.deeper (PyProof.Rows.envOfC "common" (defScope s_common) s.heap.objs.size d_common.f cdv)).units + 65 < cLine := by have := hr.un; omega
  refine ⟨_, (pss_one (ps_ret (pe_lc ["v", "other"] [none, some 1]  (by kernel_rfl) rfl (pi_listK (K := K) rfl (pv 0)) (fun _ _ _ _ _ => (pg_name (i := 0) (show (["v", "other"] : List Str).Nodup by decide +kernel) rfl (Or.inl rfl))) (fun _ _ _ _ _ => (pts_one (pt_cmpR (op_inDK (K := K) rfl hv) (pv 0) (pv 1) (by with_unfolding_all rfl)))) (fun _ _ _ _ _ => (pv 0))))), ?_⟩
  refine ⟨_, rfl, a, rfl, ⟨_, hA⟩, ?_⟩
  refine lc_fmN (fun x => match x with | .int v => if decide (v ∈ ys) then some (.int v) else none | _ => none) hA (by rw [List.length_map]; exact hz) (fun x H1 N hx sm hN => ?_) (fun H1 p H1' sm hp => ?_)
  · obtain ⟨v, hv, rfl⟩ := List.mem_map.mp hx
    have hN' := hN H1 sm
    refine ⟨_, rfl, _, rfl, inInts (sm.seq hB) ⟨_, rfl, ?_⟩⟩
    dsimp only at hN'
    cases c : decide (v ∈ ys) with
    | true => rw [c] at hN'; exact iteT ⟨_, rfl, hN'⟩
    | false => rw [c] at hN'; exact iteF hN'
  · rw [fm_ifI] at hp
    exact q _ _ _ sm hp
end

section
variable {P : Program} {w : World} {K : PySem.W.Frag} {mg : Str → Option Value} {base : Heap}
end

abbrev s_around : Stmt := top 10
theorem sc_around : FnScope ["graph", "v", "lesser", "greater"] ["graph", "v"] (defScope s_around) := ⟨rfl, rfl, rfl, by decide +kernel, rfl, by decide +kernel, by decide +kernel⟩
section
variable {P : Program} {w : World} {K : PySem.W.Frag} {mg : Str → Option Value} {base : Heap}
set_option maxHeartbeats 4000000 in
theorem ok_around (B : Bl mg) (d_is_whole : Dn K mg "is_whole" s_is_whole ["thing"]) (d_is_below : Dn K mg "is_below" s_is_below ["n", "thing"]) (d_around : Dn K mg "around" s_around ["graph", "v"]) : FnOk P w K mg base CX0 3 d_around.f d_around.fd ["graph", "v"] (spAround K) := by
  have G_is_below : FnOk P w K mg base CX0 2 _ _ _ _ := ok_is_below B d_is_whole d_is_below
  refine d_around.F.ok sc_around (fun vs H Q E h => ?_) (fun cdv A outer s H vs Q E hr h => ?_)
  · obtain ⟨g, n, ts, v, rfl, _⟩ := h
    rfl
  obtain ⟨g, n, ts, v, rfl, hG, v0, v1, hz, q⟩ := h
  obtain ⟨pg, ta, rfl, hP, hT⟩ := hG
  obtain ⟨ys, hy, hq, hzt⟩ := id hT
  have hlt : ys.length = ts.length := Paired.length hq
  refine ⟨_, (pss_cons (ps_if (pt_not (pt_truthK (K := K) rfl (pe_call G_is_below hr rfl d_is_below.m d_is_below.F.kp d_is_below.b .nil pass0 (pa_cons (pe_ix (ix_tupK (K := K) rfl) (pv 0) pe_int (fun _ _ => rfl)) (pa_cons (pv 1) pa_nil))) (fun _ => rfl)))
      (pss_one ps_never)
      pss_nil)
      (pss_cons (ps_setLC (i := 2) ["a", "b", "v"] [none, none, some 1] sc_around.nd rfl rfl (by kernel_rfl) rfl (pi_listK (K := K) rfl (pe_ix (ix_tupK (K := K) rfl) (pv 0) pe_int (fun _ _ => rfl))) (fun _ _ _ _ _ => (pg_tupK (K := K) (n := 2) rfl rfl (pgs_cons (pg_name (i := 0) (show (["a", "b", "v"] : List Str).Nodup by decide +kernel) rfl (Or.inl rfl)) (pgs_cons (pg_name (i := 1) (show (["a", "b", "v"] : List Str).Nodup by decide +kernel) rfl (Or.inl rfl)) pgs_nil)))) (fun _ _ _ _ _ => (pts_one (pt_cmpR op_eq (pv 1) (pv 2) (nomark _)))) (fun _ _ _ _ _ => (pv 0)) (by rfl))
      (pss_cons (ps_setLC (i := 3) ["a", "b", "v"] [none, none, some 1] sc_around.nd rfl rfl (by kernel_rfl) rfl (pi_listK (K := K) rfl (pe_ix (ix_tupK (K := K) rfl) (pv 0) pe_int (fun _ _ => rfl))) (fun _ _ _ _ _ => (pg_tupK (K := K) (n := 2) rfl rfl (pgs_cons (pg_name (i := 0) (show (["a", "b", "v"] : List Str).Nodup by decide +kernel) rfl (Or.inl rfl)) (pgs_cons (pg_name (i := 1) (show (["a", "b", "v"] : List Str).Nodup by decide +kernel) rfl (Or.inl rfl)) pgs_nil)))) (fun _ _ _ _ _ => (pts_one (pt_cmpR op_eq (pv 0) (pv 2) (nomark _)))) (fun _ _ _ _ _ => (pv 1)) (by rfl))
      (pss_one (ps_ret (pe_op op_catN (pv 2) (pv 3))))))), ?_⟩
  have hb : belowF n (some v) = true := by unfold belowF; simp [v0, v1]
  refine ⟨_, rfl, pg, _, _, _, rfl, rfl, hP, rfl, _, rfl, n, some v, rfl, _, rfl, ?_⟩
  rw [hb]
  refine iteF ?_
  refine ⟨_, rfl, pg, _, _, _, rfl, rfl, hP, rfl, ta, rfl, ⟨_, hy⟩, ?_⟩
  refine lc_ixN (fun j => (ts[j]?).bind fun t => if t.2 = v then some (V.int t.1) else none) hy (by omega) (fun j x H3 N hj s3 hN => ?_) (fun H3 p1 H4 s3 nw => ?_)
  · obtain ⟨t, ht, ⟨pt, rfl, hTt⟩⟩ := paired_get hq hj
    have hN' := hN H3 s3
    rw [ht] at hN'
    refine ⟨pt, _, rfl, s3.tupq hTt, rfl, _, _, rfl, _, _, rfl, rfl, _, rfl, _, rfl, rfl, _, rfl, ?_⟩
    refine ite2 (fun c => ?_) (fun c => ?_)
    · have c' : V.int t.2 = V.int v := of_decide_eq_true c
      have c2 : t.2 = v := by injection c'
      dsimp only [Option.bind] at hN'
      rw [if_pos c2] at hN'
      exact ⟨_, rfl, hN'⟩
    · have c' : ¬ V.int t.2 = V.int v := of_decide_eq_false (Bool.eq_false_iff.mpr c)
      have c2 : ¬ t.2 = v := fun z => c' (by rw [z])
      dsimp only [Option.bind] at hN'
      rw [if_neg c2] at hN'
      exact hN'
  rw [hlt, fm_range, fm_mapI (fun t => if t.2 = v then some t.1 else none) _ (fun t => by split <;> rfl)] at nw
  have s4 := s3.trans nw.same
  refine ⟨_, rfl, pg, _, _, _, rfl, rfl, s4.tupq hP, rfl, ta, rfl, ⟨_, s4.seq hy⟩, ?_⟩
  refine lc_ixN (fun j => (ts[j]?).bind fun t => if t.1 = v then some (V.int t.2) else none) (s4.seq hy) (by omega) (fun j x H5 N hj s5 hN => ?_) (fun H5 p2 H6 s5 nw2 => ?_)
  · obtain ⟨t, ht, ⟨pt, rfl, hTt⟩⟩ := paired_get hq hj
    have hN' := hN H5 s5
    rw [ht] at hN'
    refine ⟨pt, _, rfl, (s4.trans s5).tupq hTt, rfl, _, _, rfl, _, _, rfl, rfl, _, rfl, _, rfl, rfl, _, rfl, ?_⟩
    refine ite2 (fun c => ?_) (fun c => ?_)
    · have c' : V.int t.1 = V.int v := of_decide_eq_true c
      have c2 : t.1 = v := by injection c'
      dsimp only [Option.bind] at hN'
      rw [if_pos c2] at hN'
      exact ⟨_, rfl, hN'⟩
    · have c' : ¬ V.int t.1 = V.int v := of_decide_eq_false (Bool.eq_false_iff.mpr c)
      have c2 : ¬ t.1 = v := fun z => c' (by rw [z])
      dsimp only [Option.bind] at hN'
      rw [if_neg c2] at hN'
      exact hN'
  rw [hlt, fm_range, fm_mapI (fun t => if t.1 = v then some t.2 else none) _ (fun t => by split <;> rfl)] at nw2
  refine ⟨_, rfl, _, rfl, p1, p2, _, _, rfl, rfl, (s5.trans nw2.same) _ _ nw.here, nw2.here, ?_, fun p3 H7 nw3 => ?_⟩
  · rw [List.length_map, List.length_map]
    have h1 := List.length_filterMap_le (fun t : Int × Int => if t.2 = v then some t.1 else none) ts
    have h2 := List.length_filterMap_le (fun t : Int × Int => if t.1 = v then some t.2 else none) ts
    omega
  · rw [← List.map_append] at nw3
    exact q _ _ _ (s4.trans (s5.trans nw2.same)) nw3
end

theorem tied_mem {ts : List (Int × Int)} {u v : Int} : u ∈ aroundF ts v ↔ (u, v) ∈ ts ∨ (v, u) ∈ ts := by
  unfold aroundF
  rw [List.mem_append, List.mem_filterMap, List.mem_filterMap]
  constructor
  · rintro (⟨t, ht, e⟩ | ⟨t, ht, e⟩)
    · split at e
      · rename_i c
        injection e with e
        subst e; subst c
        exact .inl ht
      · cases e
    · split at e
      · rename_i c
        injection e with e
        subst e; subst c
        exact .inr ht
      · cases e
  · rintro (h | h)
    · exact .inl ⟨_, h, by simp⟩
    · exact .inr ⟨_, h, by simp⟩
section
variable {P : Program} {w : World} {K : PySem.W.Frag} {mg : Str → Option Value} {base : Heap}
end

abbrev natV (l : List Nat) : List V := l.map fun (x : Nat) => V.int (x : Int)
theorem nodup_le : ∀ {m : Nat} {l : List Nat}, l.Nodup → (∀ x ∈ l, x < m) → l.length ≤ m
  | 0, l, _, lt => by
    cases l with
    | nil => exact Nat.le_refl _
    | cons x r => exact absurd (lt x List.mem_cons_self) (Nat.not_lt_zero _)
  | m + 1, l, nd, lt => by
    have ih := nodup_le (m := m) (nd.erase m) fun x hx => by
      obtain ⟨h1, h2⟩ := nd.mem_erase_iff.mp hx
      have := lt x h2
      omega
    rw [List.length_erase] at ih
    split at ih <;> omega
theorem natV_ints (l : List Nat) : natV l = (l.map fun (x : Nat) => (x : Int)).map V.int := by
  unfold natV
  rw [List.map_map]
  rfl
theorem fm_nats {f : V → Option V} {p : Nat → Bool} : ∀ {l : List Nat}, (∀ x ∈ l, f (.int (x : Int)) = if p x = true then some (.int (x : Int)) else none) → (natV l).filterMap f = natV (l.filter p)
  | [], _ => rfl
  | x :: r, h => by
    have ih := fm_nats (f := f) (p := p) (l := r) fun y hy => h y (List.mem_cons_of_mem _ hy)
    have hx := h x List.mem_cons_self
    show (V.int (x : Int) :: natV r).filterMap f = _
    rw [List.filter_cons]
    by_cases c : p x = true
    · rw [if_pos c] at hx ⊢
      rw [List.filterMap_cons_some hx, ih]; rfl
    · rw [if_neg c] at hx ⊢
      rw [List.filterMap_cons_none hx, ih]

end K


namespace K
open PySem L2 Lw Bg

def tieT (ts : List (Int × Int)) (x y : Nat) : Bool := decide (((x : Int), (y : Int)) ∈ ts) || decide (((y : Int), (x : Int)) ∈ ts)


end K


namespace K
open PySem L2 Lw Bg
theorem natV_len (l : List Nat) : (natV l).length = l.length := List.length_map _


abbrev s_pieces : Stmt := top 11
theorem sc_pieces : FnScope ["graph", "places", "told", "left", "piece"] ["graph", "places"] (defScope s_pieces) := ⟨rfl, rfl, rfl, by decide +kernel, rfl, by decide +kernel, by decide +kernel⟩
def natIp (l : List Nat) : List Int := l.map fun (x : Nat) => (x : Int)
theorem mem_natIp {l : List Nat} {x : Int} : x ∈ natIp l ↔ ∃ u : Nat, u ∈ l ∧ x = (u : Int) := by
  unfold natIp
  rw [List.mem_map]
  constructor
  · rintro ⟨u, h, e⟩; exact ⟨u, h, e.symm⟩
  · rintro ⟨u, h, e⟩; exact ⟨u, h, e.symm⟩
theorem tieT_around {ts : List (Int × Int)} {u v : Nat} : (u : Int) ∈ aroundF ts (v : Int) ↔ tieT ts v u = true := by
  rw [tied_mem]
  unfold tieT
  rw [Bool.or_eq_true, decide_eq_true_iff, decide_eq_true_iff]
  exact or_comm
theorem pigJ {α : Type} [DecidableEq α] : ∀ {l U : List α}, l.Nodup → (∀ x ∈ l, x ∈ U) → l.length ≤ U.length
  | [], _, _, _ => Nat.zero_le _
  | x :: r, U, h, s => by
    have h' := List.nodup_cons.mp h
    have hx := s x List.mem_cons_self
    have := List.length_erase_of_mem hx
    have p := List.length_pos_of_mem hx
    have ih := pigJ (l := r) (U := U.erase x) h'.2 fun y hy => (List.mem_erase_of_ne (fun (e : y = x) => h'.1 (e ▸ hy))).mpr (s y (List.mem_cons_of_mem _ hy))
    rw [List.length_cons]; omega
section
variable {P : Program} {w : World} {K : PySem.W.Frag} {mg : Str → Option Value} {base : Heap}
end

end K


namespace K
open PySem L2 Lw Bg

end K


namespace K
open PySem L2 Lw Bg
abbrev s_ringed : Stmt := top 16
theorem sc_ringed : FnScope ["graph", "left", "loose"] ["graph"] (defScope s_ringed) := ⟨rfl, rfl, rfl, by decide +kernel, rfl, by decide +kernel, by decide +kernel⟩
abbrev s_loose_among : Stmt := top 17
theorem sc_loose_among : FnScope ["graph", "left"] ["graph", "left"] (defScope s_loose_among) := ⟨rfl, rfl, rfl, by decide +kernel, rfl, by decide +kernel, by decide +kernel⟩
abbrev s_up_to : Stmt := top 19
theorem sc_up_to : FnScope ["graph", "piece", "v", "home"] ["graph", "piece", "v"] (defScope s_up_to) := ⟨rfl, rfl, rfl, by decide +kernel, rfl, by decide +kernel, by decide +kernel⟩
theorem around_nodup {ts : List (Int × Int)} {n : Nat} (ok : ∀ t ∈ ts, 0 ≤ t.1 ∧ t.1 < t.2 ∧ t.2 < (n : Int)) (nd : ts.Nodup) (v : Int) : (aroundF ts v).Nodup := by
  unfold aroundF
  have fm : ∀ (f : Int × Int → Option Int), (∀ a b c, f a = some c → f b = some c → a = b) → (ts.filterMap f).Nodup := fun f hf => by
    refine List.Pairwise.filterMap f (fun {a a'} ne b hb b' hb' e => ne ?_) nd
    subst e
    exact hf a a' b hb hb'
  refine List.nodup_append.mpr ⟨fm _ fun a b c ha hb => ?_, fm _ fun a b c ha hb => ?_, fun a ha b hb e => ?_⟩
  · split at ha
    · split at hb
      · rename_i e1 e2
        injection ha with ha
        injection hb with hb
        exact Prod.ext (ha.trans hb.symm) (e1.trans e2.symm)
      · cases hb
    · cases ha
  · split at ha
    · split at hb
      · rename_i e1 e2
        injection ha with ha
        injection hb with hb
        exact Prod.ext (e1.trans e2.symm) (ha.trans hb.symm)
      · cases hb
    · cases ha
  · subst e
    obtain ⟨s, hs, es⟩ := List.mem_filterMap.mp ha
    obtain ⟨t, ht, et⟩ := List.mem_filterMap.mp hb
    have o1 := ok s hs
    have o2 := ok t ht
    split at es
    · split at et
      · injection es with es
        injection et with et
        omega
      · cases et
    · cases es
def looseF (ts : List (Int × Int)) (ls : List Nat) (v : Nat) : Bool := decide ((commonF (aroundF ts (v : Int)) (natIp ls)).length < 2)
theorem loose_iff {ts : List (Int × Int)} {n : Nat} (ok : ∀ t ∈ ts, 0 ≤ t.1 ∧ t.1 < t.2 ∧ t.2 < (n : Int)) (nd : ts.Nodup) (ls : List Nat) (v : Nat) : looseF ts ls v = true ↔ ∀ a ∈ ls, ∀ b ∈ ls, tieT ts v a = true → tieT ts v b = true → a = b := by
  unfold looseF
  rw [decide_eq_true_iff]
  have mem : ∀ x : Nat, (x : Int) ∈ commonF (aroundF ts (v : Int)) (natIp ls) ↔ tieT ts v x = true ∧ x ∈ ls := fun x => by
    unfold commonF
    rw [List.mem_filter, decide_eq_true_iff, tieT_around]
    refine and_congr_right fun _ => ?_
    rw [mem_natIp]
    constructor
    · rintro ⟨u, hu, e⟩
      have : u = x := by omega
      rw [← this]; exact hu
    · exact fun h => ⟨x, h, rfl⟩
  have nd' : (commonF (aroundF ts (v : Int)) (natIp ls)).Nodup := (around_nodup ok nd _).sublist List.filter_sublist
  constructor
  · intro h a ha b hb ta tb
    refine Classical.byContradiction fun ne => ?_
    have := pigJ (l := [(a : Int), (b : Int)]) (U := commonF (aroundF ts (v : Int)) (natIp ls)) (by simp; omega) fun x hx => by
      rcases List.mem_cons.mp hx with e | hx
      · rw [e]; exact (mem a).mpr ⟨ta, ha⟩
      · rw [List.mem_singleton.mp hx]; exact (mem b).mpr ⟨tb, hb⟩
    simp at this
    omega
  · intro h
    rcases e : commonF (aroundF ts (v : Int)) (natIp ls) with _ | ⟨x, _ | ⟨y, r⟩⟩
    · simp
    · simp
    · exfalso
      have nat : ∀ z ∈ commonF (aroundF ts (v : Int)) (natIp ls), ∃ u : Nat, z = (u : Int) := fun z hz => by
        unfold commonF at hz
        obtain ⟨u, _, e⟩ := mem_natIp.mp (of_decide_eq_true (List.mem_filter.mp hz).2)
        exact ⟨u, e⟩
      have hx : x ∈ commonF (aroundF ts (v : Int)) (natIp ls) := by rw [e]; exact List.mem_cons_self
      have hy : y ∈ commonF (aroundF ts (v : Int)) (natIp ls) := by rw [e]; exact List.mem_cons_of_mem _ List.mem_cons_self
      obtain ⟨a, rfl⟩ := nat x hx
      obtain ⟨b, rfl⟩ := nat y hy
      obtain ⟨ta, ha⟩ := (mem a).mp hx
      obtain ⟨tb, hb⟩ := (mem b).mp hy
      have := h a ha b hb ta tb
      rw [e, this] at nd'
      exact (List.nodup_cons.mp nd').1 List.mem_cons_self
theorem around_len {ts : List (Int × Int)} (l : ts.length ≤ 100) (v : Int) : (aroundF ts v).length ≤ 1000 := by
  unfold aroundF
  rw [List.length_append]
  have h1 := List.length_filterMap_le (fun t : Int × Int => if t.2 = v then some t.1 else none) ts
  have h2 := List.length_filterMap_le (fun t : Int × Int => if t.1 = v then some t.2 else none) ts
  omega
def spLoose (K : PySem.W.Frag) : Sp := fun vs H Q _ => ∃ (g : V) (n : Nat) (ts : List (Int × Int)) (a : Addr) (ls : List Nat), vs = [g, .ref a] ∧ GraphV K H g n ts ∧ n ≤ 10 ∧ ts.length ≤ 100 ∧ SqL K H a (natV ls) ∧ ls.length ≤ 10 ∧ (∀ x ∈ ls, x < n) ∧
  ∀ H0 p H', Same H H0 → New H0 p (.lst (natV (ls.filter (looseF ts ls)))) H' → Q (.ref p) H'
/-- the greatest set of which each place has two others of it around -/
structure Core (ts : List (Int × Int)) (n : Nat) (lf : List Nat) : Prop where
  sub : lf.Sublist (List.range n)
  two : ∀ v ∈ lf, looseF ts lf v = false
  all : ∀ S : List Nat, (∀ v ∈ S, v < n ∧ looseF ts S v = false) → ∀ v ∈ S, v ∈ lf
def spRinged (K : PySem.W.Frag) : Sp := fun vs H Q _ => ∃ (g : V) (n : Nat) (ts : List (Int × Int)), vs = [g] ∧ GraphV K H g n ts ∧ (∀ t ∈ ts, 0 ≤ t.1 ∧ t.1 < t.2 ∧ t.2 < (n : Int)) ∧ ts.Nodup ∧ n ≤ 10 ∧ ts.length ≤ 100 ∧
  ∀ r lf H', Same H H' → H r = none → H' r = some (.lst (natV lf)) → Core ts n lf → Q (.ref r) H'
theorem less_natIp (lf p : List Nat) : lessF (natIp lf) (natIp p) = natIp (lf.filter fun x => !decide (x ∈ p)) := by
  unfold lessF natIp
  rw [List.filter_map]
  refine congrArg _ (List.filter_congr fun x _ => ?_)
  show (!decide ((x : Int) ∈ p.map fun (y : Nat) => (y : Int))) = _
  rw [show decide ((x : Int) ∈ p.map fun (y : Nat) => (y : Int)) = decide (x ∈ p) from decide_eq_decide.mpr (by
    rw [List.mem_map]
    constructor
    · rintro ⟨y, hy, e⟩
      have : y = x := by omega
      rw [← this]; exact hy
    · exact fun h => ⟨x, h, rfl⟩)]
section
variable {P : Program} {w : World} {K : PySem.W.Frag} {mg : Str → Option Value} {base : Heap}
set_option maxHeartbeats 8000000 in
theorem ok_loose_among (B : Bl mg) (d_is_whole : Dn K mg "is_whole" s_is_whole ["thing"]) (d_is_below : Dn K mg "is_below" s_is_below ["n", "thing"]) (d_common : Dn K mg "common" s_common ["one", "other"]) (d_around : Dn K mg "around" s_around ["graph", "v"]) (d_loose_among : Dn K mg "loose_among" s_loose_among ["graph", "left"]) : FnOk P w K mg base CX0 4 d_loose_among.f d_loose_among.fd ["graph", "left"] (spLoose K) := by
  have G_around : FnOk P w K mg base CX0 3 _ _ _ _ := ok_around B d_is_whole d_is_below d_around
  have G_common : FnOk P w K mg base CX0 3 _ _ _ _ := (ok_common B d_common).mono (by decide)
  refine d_loose_among.F.ok sc_loose_among (fun vs H Q E h => ?_) (fun cdv A outer s H vs Q E hr h => ?_)
  · obtain ⟨g, n, ts, a, ls, rfl, _⟩ := h
    rfl
  obtain ⟨g, n, ts, a, ls, rfl, hG, n10, l100, hA, l10, hn, q⟩ := h
  refine ⟨_, (pss_one (ps_ret (pe_lc ["v", "left", "graph"] [none, some 1, some 0]  (by kernel_rfl) rfl (pi_listK (K := K) rfl (pv 1)) (fun _ _ _ _ _ => (pg_name (i := 0) (show (["v", "left", "graph"] : List Str).Nodup by decide +kernel) rfl (Or.inl rfl))) (fun _ _ _ _ _ => (pts_one (pt_cmpR op_lt (pe_callB (call_lenK (K := K) rfl) rfl B.len (by decide +kernel) (pa_cons (pe_call G_common hr rfl d_common.m d_common.F.kp d_common.b .nil pass0 (pa_cons (pe_call G_around hr rfl d_around.m d_around.F.kp d_around.b .nil pass0 (pa_cons (pv 2) (pa_cons (pv 0) pa_nil))) (pa_cons (pv 1) pa_nil))) pa_nil)) pe_int (nomark _)))) (fun _ _ _ _ _ => (pv 0))))), ?_⟩
  refine ⟨_, rfl, a, rfl, ⟨_, hA⟩, ?_⟩
  refine lc_fmN (fun x => match x with | .int z => if looseF ts ls z.toNat then some (.int z) else none | _ => none) hA (by rw [natV_len]; omega) (fun x H1 N hx s1 hN => ?_) (fun H1 p H2 s1 n2 => ?_)
  · obtain ⟨v, hv, rfl⟩ := List.mem_map.mp hx
    dsimp only at hN
    rw [Int.toNat_natCast] at hN
    have vn := hn v hv
    have hA1 : ∀ {H' : Hp}, Same H H' → SqL K H' a ((natIp ls).map V.int) := fun {H'} s => by
      have := s.seq hA
      rw [natV_ints] at this
      exact this
    refine ⟨_, rfl, _, rfl, g, n, ts, v, rfl, hG.same s1, by omega, by omega, by omega, fun H2 p3 H3 s2 n3 => ?_⟩
    have s03 := s1.trans (s2.trans n3.same)
    refine ⟨_, rfl, p3, a, _, _, rfl, SqL.of n3.here, hA1 s03, around_len l100 _, fun H4 p5 H5 s4 n5 => ?_⟩
    have s05 := s03.trans (s4.trans n5.same)
    refine ⟨p5, _, rfl, .inl (SqL.of n5.here), _, _, rfl, rfl, _, rfl, ?_⟩
    have e : decide ((((commonF (aroundF ts (v : Int)) (natIp ls)).map V.int).length : Int) < 2) = looseF ts ls v := by
      unfold looseF
      rw [List.length_map]
      exact decide_eq_decide.mpr (by omega)
    have hN' := hN H5 s05
    rw [e]
    cases c : looseF ts ls v with
    | true => rw [c] at hN'; exact iteT ⟨_, rfl, hN'⟩
    | false => rw [c] at hN'; exact iteF hN'
  · rw [fm_nats (p := looseF ts ls) fun x _ => by dsimp only; rw [Int.toNat_natCast]] at n2
    exact q _ _ _ s1 n2
set_option maxHeartbeats 8000000 in
theorem ok_ringed (B : Bl mg) (d_is_whole : Dn K mg "is_whole" s_is_whole ["thing"]) (d_is_below : Dn K mg "is_below" s_is_below ["n", "thing"]) (d_common : Dn K mg "common" s_common ["one", "other"]) (d_less : Dn K mg "less" s_less ["one", "other"]) (d_around : Dn K mg "around" s_around ["graph", "v"]) (d_loose_among : Dn K mg "loose_among" s_loose_among ["graph", "left"]) (d_ringed : Dn K mg "ringed" s_ringed ["graph"]) : FnOk P w K mg base CX0 5 d_ringed.f d_ringed.fd ["graph"] (spRinged K) := by
  have G_loose_among : FnOk P w K mg base CX0 4 _ _ _ _ := ok_loose_among B d_is_whole d_is_below d_common d_around d_loose_among
  have G_less : FnOk P w K mg base CX0 4 _ _ _ _ := (ok_less B d_less).mono (by decide)
  refine d_ringed.F.ok sc_ringed (fun vs H Q E h => ?_) (fun cdv A outer s H vs Q E hr h => ?_)
  · obtain ⟨g, n, ts, rfl, _⟩ := h
    rfl
  obtain ⟨g, n, ts, rfl, hG, okt, nd, n10, l100, q⟩ := h
  obtain ⟨pg, ta, rfl, hP, hT⟩ := id hG
  refine ⟨_, (pss_cons (ps_set (i := 1) sc_ringed.nd rfl (Or.inl rfl) (pe_listR rfl B.list B.range (pa_cons (pe_ix (ix_tupK (K := K) rfl) (pv 0) pe_int (fun _ _ => rfl)) pa_nil)))
      (pss_cons (ps_set (i := 2) sc_ringed.nd rfl (Or.inl rfl) (pe_call G_loose_among hr rfl d_loose_among.m d_loose_among.F.kp d_loose_among.b .nil pass0 (pa_cons (pv 0) (pa_cons (pv 1) pa_nil))))
      (pss_cons (ps_while PassesOwn.never (pt_truthK (K := K) rfl (pv 2) (fun _ => rfl))
      (pss_cons (ps_set (i := 1) sc_ringed.nd rfl (Or.inl rfl) (pe_call G_less hr rfl d_less.m d_less.F.kp d_less.b .nil pass0 (pa_cons (pv 1) (pa_cons (pv 2) pa_nil))))
      (pss_one (ps_set (i := 2) sc_ringed.nd rfl (Or.inl rfl) (pe_call G_loose_among hr rfl d_loose_among.m d_loose_among.F.kp d_loose_among.b .nil pass0 (pa_cons (pv 0) (pa_cons (pv 1) pa_nil)))))))
      (pss_one (ps_ret (pv 1)))))), ?_⟩
  refine ⟨_, rfl, pg, _, _, _, rfl, rfl, hP, rfl, n, rfl, by omega, fun p1 H1 n1 => ?_⟩
  refine ⟨_, rfl, _, rfl, .ref pg, n, ts, p1, List.range n, rfl, hG.same n1.same, n10, l100, SqL.of n1.here, by rw [List.length_range]; exact n10, fun x hx => List.mem_range.mp hx, fun H2 p3 H3 s2 n3 => ?_⟩
  refine ⟨fun m σ H' => ∃ (pl pq : Addr) (lf : List Nat), σ = [some (.ref pg), some (.ref pl), some (.ref pq)] ∧ Same H H' ∧ H pl = none ∧ H' pl = some (.lst (natV lf)) ∧ H' pq = some (.lst (natV (lf.filter (looseF ts lf)))) ∧ m = lf.length ∧ lf.Sublist (List.range n) ∧ ∀ S : List Nat, (∀ v ∈ S, v < n ∧ looseF ts S v = false) → ∀ v ∈ S, v ∈ lf,
    ⟨_, p1, p3, List.range n, rfl, n1.same.trans (s2.trans n3.same), n1.fresh, (s2.trans n3.same) _ _ n1.here, n3.here, rfl, List.Sublist.refl _, fun S hS v hv => List.mem_range.mpr (hS v hv).1⟩, ?_⟩
  rintro m σ H4 ⟨pl, pq, lf, rfl, s4, f4, h4, h4', rfl, sub, all⟩
  refine ⟨_, rfl, _, .inl ⟨_, SqL.of h4', rfl⟩, ?_⟩
  by_cases c : lf.filter (looseF ts lf) = []
  · rw [show (!(natV (lf.filter (looseF ts lf))).isEmpty) = false by rw [c]; rfl]
    refine iteF ⟨_, rfl, q pl lf H4 s4 f4 h4 ⟨sub, fun v hv => ?_, all⟩⟩
    cases e : looseF ts lf v with
    | false => rfl
    | true =>
      have := List.mem_filter.mpr ⟨hv, e⟩
      rw [c] at this
      exact absurd this List.not_mem_nil
  · rw [show (!(natV (lf.filter (looseF ts lf))).isEmpty) = true by
      cases e : lf.filter (looseF ts lf) with
      | nil => exact absurd e c
      | cons _ _ => rfl]
    refine iteT ⟨fun σ' H' => ∃ m', m' < lf.length ∧ ∃ (pl pq : Addr) (lf : List Nat), σ' = [some (.ref pg), some (.ref pl), some (.ref pq)] ∧ Same H H' ∧ H pl = none ∧ H' pl = some (.lst (natV lf)) ∧ H' pq = some (.lst (natV (lf.filter (looseF ts lf)))) ∧ m' = lf.length ∧ lf.Sublist (List.range n) ∧ ∀ S : List Nat, (∀ v ∈ S, v < n ∧ looseF ts S v = false) → ∀ v ∈ S, v ∈ lf, fun σ' H' z => z, ?_⟩
    have nk : ∀ {H' : Hp} {a : Addr} {l : List Nat}, H' a = some (.lst (natV l)) → SqL K H' a ((natIp l).map V.int) := fun {H' a l} h => by
      have := SqL.of (K := K) h
      rw [natV_ints] at this
      exact this
    have ll : lf.length ≤ 10 := by have := sub.length_le; rw [List.length_range] at this; omega
    refine ⟨_, rfl, _, rfl, pl, pq, _, _, rfl, nk h4, nk h4', by unfold natIp; rw [List.length_map]; omega, fun H5 p6 H6 s5 n6 => ?_⟩
    rw [less_natIp, show (natIp (lf.filter fun x => !decide (x ∈ lf.filter (looseF ts lf)))).map V.int = natV (lf.filter fun x => !decide (x ∈ lf.filter (looseF ts lf))) by rw [natV_ints]; rfl] at n6
    have s46 := s5.trans n6.same
    have sub' : (lf.filter fun x => !decide (x ∈ lf.filter (looseF ts lf))).Sublist (List.range n) := List.filter_sublist.trans sub
    have ll' : (lf.filter fun x => !decide (x ∈ lf.filter (looseF ts lf))).length ≤ 10 := by have := sub'.length_le; rw [List.length_range] at this; omega
    refine ⟨_, rfl, _, rfl, .ref pg, n, ts, p6, _, rfl, hG.same (s4.trans s46), n10, l100, SqL.of n6.here, ll', fun x hx => List.mem_range.mp (sub'.subset hx), fun H7 p8 H8 s7 n8 => ?_⟩
    refine ⟨_, ?_, p6, p8, _, rfl, s4.trans (s46.trans (s7.trans n8.same)), s4.free (s5.free n6.fresh), (s7.trans n8.same) _ _ n6.here, n8.here, rfl, sub', fun S hS v hv => ?_⟩
    · obtain ⟨v, r, e⟩ := List.exists_cons_of_ne_nil c
      have vm : v ∈ lf.filter (looseF ts lf) := by rw [e]; exact List.mem_cons_self
      refine List.length_filter_lt_length_iff_exists.mpr ⟨v, (List.mem_filter.mp vm).1, ?_⟩
      rw [decide_eq_true vm]; exact Bool.false_ne_true
    · have vl := all S hS v hv
      refine List.mem_filter.mpr ⟨vl, ?_⟩
      rw [show decide (v ∈ lf.filter (looseF ts lf)) = false from decide_eq_false fun z => ?_]
      · rfl
      · have h1 := (loose_iff okt nd lf v).mp (List.mem_filter.mp z).2
        have h2 := (loose_iff okt nd S v).mpr fun a ha b hb => h1 a (all S hS a ha) b (all S hS b hb)
        rw [(hS v hv).2] at h2
        cases h2
end

end K


namespace K
open PySem L2 Lw Bg
theorem cut_lo' (xs : List V) (k : Nat) : cutV xs none (some (k : Int)) = xs.take k := by
  unfold cutV
  rw [HT.sIx_nat, show HT.sIx xs.length 0 none = 0 from rfl, List.drop_zero, Nat.sub_zero]
  rcases Nat.le_total k xs.length with c | c
  · rw [Nat.min_eq_left c]
  · rw [Nat.min_eq_right c, List.take_of_length_le (Nat.le_refl _), List.take_of_length_le c]
theorem cut_hi' (xs : List V) (k : Nat) : cutV xs (some (k : Int)) none = xs.drop k := by
  unfold cutV
  rw [HT.sIx_nat, show HT.sIx xs.length xs.length none = xs.length from rfl]
  rcases Nat.le_total k xs.length with c | c
  · rw [Nat.min_eq_left c, List.take_of_length_le (by rw [List.length_drop]; exact Nat.le_refl _)]
  · rw [Nat.min_eq_right c, List.drop_of_length_le (Nat.le_refl _), List.drop_of_length_le c, List.take_nil]

theorem pigN {l U : List Nat} (nd : l.Nodup) (h : ∀ x ∈ l, x ∈ U) : l.length ≤ U.length := by
  induction l generalizing U with
  | nil => exact Nat.zero_le _
  | cons a r ih =>
    obtain ⟨n1, n2⟩ := List.nodup_cons.mp nd
    have am := h a List.mem_cons_self
    have := ih (U := U.erase a) n2 fun x hx => (List.mem_erase_of_ne (fun e => n1 (by rw [← e]; exact hx))).mpr (h x (List.mem_cons_of_mem _ hx))
    rw [List.length_erase_of_mem am] at this
    have := List.length_pos_of_mem am
    rw [List.length_cons]; omega
/-- a way among the places left, and the place that comes next -/
structure WayR (ts : List (Int × Int)) (lf w : List Nat) (v : Nat) : Prop where
  ne : 0 < w.length
  nd : w.Nodup
  mem : ∀ x ∈ w, x ∈ lf
  tie : ∀ i, i + 1 < w.length → tieT ts (w.getD i 0) (w.getD (i + 1) 0) = true
  vin : v ∈ lf
  last : tieT ts (w.getD (w.length - 1) 0) v = true
  back : ∀ i, i + 2 = w.length → v ≠ w.getD i 0
/-- a ring, as it is told -/
structure RingR (ts : List (Int × Int)) (n : Nat) (r : List Nat) : Prop where
  len : 3 ≤ r.length
  nd : r.Nodup
  lt : ∀ x ∈ r, x < n
  tie : ∀ i, i + 1 < r.length → tieT ts (r.getD i 0) (r.getD (i + 1) 0) = true
  clo : tieT ts (r.getD (r.length - 1) 0) (r.getD 0 0) = true
theorem tieT_irr {ts : List (Int × Int)} {n : Nat} (ok : ∀ t ∈ ts, 0 ≤ t.1 ∧ t.1 < t.2 ∧ t.2 < (n : Int)) {x : Nat} : tieT ts x x = false := by
  cases e : tieT ts x x with
  | false => rfl
  | true =>
    unfold tieT at e
    rw [Bool.or_self, decide_eq_true_iff] at e
    have := ok _ e
    dsimp only at this
    omega
theorem getD_app_l {w : List Nat} {i x : Nat} (h : i < w.length) : (w ++ [x]).getD i 0 = w.getD i 0 := by
  rw [List.getD_eq_getElem?_getD, List.getElem?_append_left h, List.getD_eq_getElem?_getD]
theorem getD_app_r {w : List Nat} {x : Nat} : (w ++ [x]).getD w.length 0 = x := by
  rw [List.getD_eq_getElem?_getD, List.getElem?_append_right (Nat.le_refl _), Nat.sub_self]; rfl
theorem WayR.add {ts : List (Int × Int)} {lf w : List Nat} {v u : Nat} (h : WayR ts lf w v) (nv : v ∉ w) (hu : u ∈ lf) (t : tieT ts v u = true) (b : u ≠ w.getD (w.length - 1) 0) : WayR ts lf (w ++ [v]) u := by
  have l1 : (w ++ [v]).length = w.length + 1 := by rw [List.length_append]; rfl
  have p := h.ne
  refine ⟨by omega, ?_, fun x hx => ?_, fun i hi => ?_, hu, ?_, fun i hi => ?_⟩
  · refine List.nodup_append.mpr ⟨h.nd, by simp, fun a ha b hb e => nv ?_⟩
    rw [List.mem_singleton.mp hb] at e
    rw [← e]; exact ha
  · rcases List.mem_append.mp hx with hx | hx
    · exact h.mem x hx
    · rw [List.mem_singleton.mp hx]; exact h.vin
  · rw [l1] at hi
    rw [getD_app_l (by omega)]
    rcases Nat.lt_or_ge (i + 1) w.length with c | c
    · rw [getD_app_l c]; exact h.tie i c
    · have e : i + 1 = w.length := by omega
      rw [e, getD_app_r, show i = w.length - 1 by omega]
      exact h.last
  · rw [l1, Nat.add_sub_cancel, getD_app_r]; exact t
  · rw [l1] at hi
    rw [getD_app_l (by omega), show i = w.length - 1 by omega]
    exact b
theorem WayR.len {ts : List (Int × Int)} {lf w : List Nat} {v : Nat} (h : WayR ts lf w v) : w.length ≤ lf.length := by
  have := pigN h.nd h.mem
  exact this
theorem getD_drop {w : List Nat} (j i : Nat) : (w.drop j).getD i 0 = w.getD (j + i) 0 := by
  rw [List.getD_eq_getElem?_getD, List.getElem?_drop, List.getD_eq_getElem?_getD]
theorem WayR.ring {ts : List (Int × Int)} {n : Nat} {lf w : List Nat} {v j : Nat} (ok : ∀ t ∈ ts, 0 ≤ t.1 ∧ t.1 < t.2 ∧ t.2 < (n : Int)) (lt : ∀ x ∈ lf, x < n) (h : WayR ts lf w v) (hj : w[j]? = some v) : RingR ts n (w.drop j) := by
  have jl := (List.getElem?_eq_some_iff.mp hj).1
  have ev : w.getD j 0 = v := by rw [List.getD_eq_getElem?_getD, hj]; rfl
  have n1 : j + 1 ≠ w.length := fun e => by
    have := h.last
    rw [show w.length - 1 = j by omega, ev, tieT_irr ok] at this
    cases this
  have n2 : j + 2 ≠ w.length := fun e => h.back j e ev.symm
  have l1 : (w.drop j).length = w.length - j := List.length_drop ..
  refine ⟨by omega, h.nd.sublist (List.drop_sublist ..), fun x hx => lt x (h.mem x (List.mem_of_mem_drop hx)), fun i hi => ?_, ?_⟩
  · rw [getD_drop, getD_drop]
    exact h.tie (j + i) (by omega)
  · rw [getD_drop, getD_drop, l1, show j + (w.length - j - 1) = w.length - 1 by omega, Nat.add_zero, ev]
    exact h.last
theorem nb_mem {ts : List (Int × Int)} {lf : List Nat} {v : Nat} {x : Int} : x ∈ commonF (aroundF ts (v : Int)) (natIp lf) ↔ ∃ u : Nat, x = (u : Int) ∧ tieT ts v u = true ∧ u ∈ lf := by
  unfold commonF
  rw [List.mem_filter, decide_eq_true_iff, mem_natIp]
  constructor
  · rintro ⟨h, u, hu, e⟩
    subst e
    exact ⟨u, rfl, tieT_around.mp h, hu⟩
  · rintro ⟨u, e, t, hu⟩
    subst e
    exact ⟨tieT_around.mpr t, u, hu, rfl⟩
theorem two_of {ts : List (Int × Int)} {n : Nat} (ok : ∀ t ∈ ts, 0 ≤ t.1 ∧ t.1 < t.2 ∧ t.2 < (n : Int)) (nd : ts.Nodup) {lf : List Nat} {v : Nat} (h : looseF ts lf v = false) (p : Nat) : ∃ u ∈ lf, tieT ts v u = true ∧ u ≠ p := by
  have : ¬ ∀ a ∈ lf, ∀ b ∈ lf, tieT ts v a = true → tieT ts v b = true → a = b := fun z => by
    rw [(loose_iff ok nd lf v).mpr z] at h
    cases h
  refine Classical.byContradiction fun c => this fun a ha b hb ta tb => ?_
  have e1 : a = p := Classical.byContradiction fun q => c ⟨a, ha, ta, q⟩
  have e2 : b = p := Classical.byContradiction fun q => c ⟨b, hb, tb, q⟩
  rw [e1, e2]
/-- a ring of drawn places is within what is left -/
theorem ring_core {ts : List (Int × Int)} {n : Nat} (ok : ∀ t ∈ ts, 0 ≤ t.1 ∧ t.1 < t.2 ∧ t.2 < (n : Int)) (nd : ts.Nodup) {lf : List Nat} (C : Core ts n lf) {r : List Nat} (R : RingR ts n r) : lf ≠ [] := by
  have sy : ∀ {x y : Nat}, tieT ts x y = true → tieT ts y x = true := fun {x y} h => by
    unfold tieT at h ⊢
    rw [Bool.or_comm]; exact h
  have inj : ∀ {i j : Nat}, i < r.length → j < r.length → r.getD i 0 = r.getD j 0 → i = j := fun {i j} hi hj e => by
    rw [List.getD_eq_getElem?_getD, List.getElem?_eq_getElem hi, List.getD_eq_getElem?_getD, List.getElem?_eq_getElem hj] at e
    exact (List.getElem_inj R.nd).mp e
  have gm : ∀ {i : Nat}, i < r.length → r.getD i 0 ∈ r := fun {i} hi => by
    rw [List.getD_eq_getElem?_getD, List.getElem?_eq_getElem hi]
    exact List.getElem_mem _
  have l3 := R.len
  have := C.all r fun v hv => ⟨R.lt v hv, by
    cases e : looseF ts r v with
    | false => rfl
    | true =>
      exfalso
      have one := (loose_iff ok nd r v).mp e
      obtain ⟨i, hi, ei⟩ := List.getElem_of_mem hv
      have ev : r.getD i 0 = v := by rw [List.getD_eq_getElem?_getD, List.getElem?_eq_getElem hi, ei]; rfl
      have nx : ∃ k, k < r.length ∧ tieT ts v (r.getD k 0) = true ∧ ((i + 1 < r.length ∧ k = i + 1) ∨ (i + 1 = r.length ∧ k = 0)) := by
        rcases Nat.lt_or_ge (i + 1) r.length with c | c
        · exact ⟨i + 1, c, by have := R.tie i c; rwa [ev] at this, .inl ⟨c, rfl⟩⟩
        · exact ⟨0, by omega, by have := R.clo; rwa [show r.length - 1 = i by omega, ev] at this, .inr ⟨by omega, rfl⟩⟩
      have pv : ∃ k, k < r.length ∧ tieT ts v (r.getD k 0) = true ∧ ((0 < i ∧ k + 1 = i) ∨ (i = 0 ∧ k + 1 = r.length)) := by
        rcases Nat.eq_zero_or_pos i with c | c
        · refine ⟨r.length - 1, by omega, ?_, .inr ⟨c, by omega⟩⟩
          have e0 : r.getD 0 0 = v := by rw [c] at ev; exact ev
          have := R.clo
          rw [e0] at this
          exact sy this
        · refine ⟨i - 1, by omega, ?_, .inl ⟨c, by omega⟩⟩
          have := R.tie (i - 1) (by omega)
          rw [show i - 1 + 1 = i by omega, ev] at this
          exact sy this
      obtain ⟨k, hk, tk, ck⟩ := nx
      obtain ⟨m, hm, tm, cm⟩ := pv
      have := inj hk hm (one _ (gm hk) _ (gm hm) tk tm)
      omega⟩
  exact List.ne_nil_of_mem (this _ (gm (i := 0) (by omega)))
theorem cut_back (xs : List V) (a : V) (h : 2 ≤ xs.length) (ha : xs[xs.length - 2]? = some a) : cutV xs (some (-2)) (some (-1)) = [a] := by
  unfold cutV
  have e1 : HT.sIx xs.length 0 (some (-2)) = xs.length - 2 := by
    unfold HT.sIx; simp; omega
  have e2 : HT.sIx xs.length xs.length (some (-1)) = xs.length - 1 := by
    unfold HT.sIx; simp; omega
  rw [e1, e2, show xs.length - 1 - (xs.length - 2) = 1 by omega]
  have hl : xs.length - 2 < xs.length := by omega
  rw [List.drop_eq_getElem_cons hl, List.take_succ_cons, List.take_zero]
  rw [List.getElem?_eq_getElem hl] at ha
  injection ha with ha
  rw [ha]

abbrev s_wood : Stmt := top 15
theorem sc_wood : FnScope ["graph", "left", "ups", "v", "piece"] ["graph"] (defScope s_wood) := ⟨rfl, rfl, rfl, by decide +kernel, rfl, by decide +kernel, by decide +kernel⟩
abbrev s_ring_among : Stmt := top 18
theorem sc_ring_among : FnScope ["graph", "left", "way", "v"] ["graph", "left"] (defScope s_ring_among) := ⟨rfl, rfl, rfl, by decide +kernel, rfl, by decide +kernel, by decide +kernel⟩
def spRing (K : PySem.W.Frag) : Sp := fun vs H Q _ => ∃ (g : V) (n : Nat) (ts : List (Int × Int)) (a : Addr) (lf : List Nat), vs = [g, .ref a] ∧ GraphV K H g n ts ∧ (∀ t ∈ ts, 0 ≤ t.1 ∧ t.1 < t.2 ∧ t.2 < (n : Int)) ∧ ts.Nodup ∧ n ≤ 10 ∧ ts.length ≤ 100 ∧ SqL K H a (natV lf) ∧ Core ts n lf ∧ lf ≠ [] ∧
  ∀ p r H', Same H H' → H p = none → H' p = some (.lst (natV r)) → RingR ts n r → Q (.ref p) H'
def spWoodR (K : PySem.W.Frag) : Sp := fun vs H Q _ => ∃ (g : V) (n : Nat) (ts : List (Int × Int)) (r0 : List Nat), vs = [g] ∧ GraphV K H g n ts ∧ (∀ t ∈ ts, 0 ≤ t.1 ∧ t.1 < t.2 ∧ t.2 < (n : Int)) ∧ ts.Nodup ∧ n ≤ 10 ∧ ts.length ≤ 100 ∧ RingR ts n r0 ∧
  ∀ p q r H', Same H H' → H q = none → H' q = some (.lst (natV r)) → H' p = some (.tup [.str "ring", .ref q]) → RingR ts n r → Q (.ref p) H'
theorem natV_app (a b : List Nat) : natV (a ++ b) = natV a ++ natV b := List.map_append
section
variable {P : Program} {w : World} {K : PySem.W.Frag} {mg : Str → Option Value} {base : Heap}
set_option maxHeartbeats 8000000 in
theorem ok_ring_among (B : Bl mg) (d_is_whole : Dn K mg "is_whole" s_is_whole ["thing"]) (d_is_below : Dn K mg "is_below" s_is_below ["n", "thing"]) (d_common : Dn K mg "common" s_common ["one", "other"]) (d_less : Dn K mg "less" s_less ["one", "other"]) (d_around : Dn K mg "around" s_around ["graph", "v"]) (d_ring_among : Dn K mg "ring_among" s_ring_among ["graph", "left"]) : FnOk P w K mg base CX0 7 d_ring_among.f d_ring_among.fd ["graph", "left"] (spRing K) := by
  have G_around : FnOk P w K mg base CX0 6 _ _ _ _ := (ok_around B d_is_whole d_is_below d_around).mono (by decide)
  have G_common : FnOk P w K mg base CX0 6 _ _ _ _ := (ok_common B d_common).mono (by decide)
  have G_less : FnOk P w K mg base CX0 6 _ _ _ _ := (ok_less B d_less).mono (by decide)
  refine d_ring_among.F.ok sc_ring_among (fun vs H Q E h => ?_) (fun cdv A outer s H vs Q E hr h => ?_)
  · obtain ⟨g, n, ts, a, lf, rfl, _⟩ := h
    rfl
  obtain ⟨g, n, ts, a, lf, rfl, hG, okt, nd, n10, l100, hA, C, ne, q⟩ := h
  have hv : (A.deeper (PyProof.Rows.envOfC "ring_among" (defScope s_ring_among) s.heap.objs.size d_ring_among.f cdv)).units + 65 < cLine := by have := hr.un; omega
  have lt : ∀ x ∈ lf, x < n := fun x hx => List.mem_range.mp (C.sub.subset hx)
  have ll : lf.length ≤ 10 := by have := C.sub.length_le; rw [List.length_range] at this; omega
  obtain ⟨x0, lf', elf⟩ := List.exists_cons_of_ne_nil ne
  have x0m : x0 ∈ lf := by rw [elf]; exact List.mem_cons_self
  have nk : ∀ {H' : Hp} {l : List Nat} {a : Addr}, SqL K H' a (natV l) → SqL K H' a ((natIp l).map V.int) := fun {H' l a} h => by
    rw [natV_ints] at h
    exact h
  refine ⟨_, (pss_cons (ps_set (i := 2) sc_ring_among.nd rfl (Or.inl rfl) (pe_slice (sl_listN (K := K) rfl) (pv 1) po_none (po_some pe_int)))
      (pss_cons (ps_set (i := 3) sc_ring_among.nd rfl (Or.inl rfl) (pe_ix (ix_listK (K := K) rfl) (pe_call G_common hr rfl d_common.m d_common.F.kp d_common.b .nil pass0 (pa_cons (pe_call G_around hr rfl d_around.m d_around.F.kp d_around.b .nil pass0 (pa_cons (pv 0) (pa_cons (pe_ix (ix_listK (K := K) rfl) (pv 2) pe_int (fun _ _ => rfl)) pa_nil))) (pa_cons (pv 1) pa_nil))) pe_int (fun _ _ => rfl)))
      (pss_cons (ps_while PassesOwn.never (pt_cmpR (op_notInDK (K := K) rfl hv) (pv 3) (pv 2) (by with_unfolding_all rfl))
      (pss_cons (ps_expr (pe_bmK (K := K) rfl PySem.F.plainAttrs_list PySem.F.slot_list_append PySem.F.type_list_append mt_appendN (pv 2) (pa_cons (pv 3) pa_nil)))
      (pss_one (ps_set (i := 3) sc_ring_among.nd rfl (Or.inl rfl) (pe_ix (ix_listK (K := K) rfl) (pe_call G_less hr rfl d_less.m d_less.F.kp d_less.b .nil pass0 (pa_cons (pe_call G_common hr rfl d_common.m d_common.F.kp d_common.b .nil pass0 (pa_cons (pe_call G_around hr rfl d_around.m d_around.F.kp d_around.b .nil pass0 (pa_cons (pv 0) (pa_cons (pv 3) pa_nil))) (pa_cons (pv 1) pa_nil))) (pa_cons (pe_slice (sl_listN (K := K) rfl) (pv 2) (po_some (pe_un un_neg pe_int)) (po_some (pe_un un_neg pe_int))) pa_nil))) pe_int (fun _ _ => rfl))))))
      (pss_one (ps_ret (pe_slice (sl_listN (K := K) rfl) (pv 2) (po_some (pe_bmK (K := K) rfl PySem.F.plainAttrs_list PySem.F.slot_list_index PySem.F.type_list_index mt_indexN (pv 2) (pa_cons (pv 3) pa_nil))) po_none)))))), ?_⟩
  refine ⟨_, rfl, 1, rfl, a, _, rfl, hA, fun pw H1 n1 => ?_⟩
  have e1 : cutV (natV lf) none (some 1) = natV [x0] := by
    rw [show (1 : Int) = ((1 : Nat) : Int) from rfl, cut_lo', elf]; rfl
  rw [e1] at n1
  have hd : ∀ {L : List Int} {v : Nat}, (∀ x ∈ L, ∃ u : Nat, x = (u : Int) ∧ tieT ts v u = true ∧ u ∈ lf) → L ≠ [] → ∃ u : Nat, ((u : Int)) ∈ L ∧ atI (L.map V.int) 0 = some (.int (u : Int)) ∧ tieT ts v u = true ∧ u ∈ lf := fun {L v} h ne => by
    obtain ⟨x, r, e⟩ := List.exists_cons_of_ne_nil ne
    obtain ⟨u, rfl, t, m⟩ := h x (by rw [e]; exact List.mem_cons_self)
    refine ⟨u, by rw [e]; exact List.mem_cons_self, ?_, t, m⟩
    have : atI (L.map V.int) ((0 : Nat) : Int) = some (.int (u : Int)) := atI_nat (by rw [e]; rfl)
    exact this
  have x0n := lt x0 x0m
  have a0 : atI (natV [x0]) 0 = some (.int (x0 : Int)) := by
    have : atI (natV [x0]) ((0 : Nat) : Int) = some (.int (x0 : Int)) := atI_nat rfl
    exact this
  refine ⟨_, rfl, _, rfl, pw, _, _, _, rfl, rfl, SqL.of n1.here, a0, g, n, ts, x0, rfl, hG.same n1.same, by omega, by omega, by omega, fun H2 p3 H3 s2 n3 => ?_⟩
  have s13 := s2.trans n3.same
  have s03 := n1.same.trans s13
  refine ⟨_, rfl, p3, a, _, _, rfl, SqL.of n3.here, nk (s03.seq hA), around_len l100 _, fun H4 p5 H5 s4 n5 => ?_⟩
  have s15 := s13.trans (s4.trans n5.same)
  obtain ⟨u0, _, at5, t0, m0⟩ := hd (v := x0) (fun x hx => nb_mem.mp hx) (by
    obtain ⟨u, hu, tu, _⟩ := two_of okt nd (C.two x0 x0m) 0
    exact List.ne_nil_of_mem (nb_mem.mpr ⟨u, rfl, tu, hu⟩))
  refine ⟨p5, _, _, _, rfl, rfl, SqL.of n5.here, at5, ?_⟩
  refine ⟨fun m σ H' => ∃ (ws : List Nat) (v : Nat), σ = [some g, some (.ref a), some (.ref pw), some (.int (v : Int))] ∧ Same H H' ∧ H' pw = some (.lst (natV ws)) ∧ WayR ts lf ws v ∧ m = lf.length + 1 - ws.length,
    ⟨_, [x0], u0, rfl, n1.same.trans s15, s15 _ _ n1.here, ⟨Nat.one_pos, by simp, fun x hx => by rw [List.mem_singleton.mp hx]; exact x0m, fun i hi => absurd hi (by simp), m0, t0, fun i hi => absurd hi (by simp)⟩, rfl⟩, ?_⟩
  rintro m σ H6 ⟨ws, v, rfl, s6, h6, W, rfl⟩
  have vn := lt v W.vin
  have wl := W.len
  refine ⟨_, rfl, _, rfl, notInInts (nk (SqL.of h6)) ⟨_, rfl, ?_⟩⟩
  have ev : decide ((v : Int) ∈ natIp ws) = decide (v ∈ ws) := decide_eq_decide.mpr (by
    rw [mem_natIp]
    constructor
    · rintro ⟨u, hu, e⟩
      have : u = v := by omega
      rw [← this]; exact hu
    · exact fun h => ⟨v, h, rfl⟩)
  rw [ev]
  by_cases c : v ∈ ws
  · rw [decide_eq_true c]
    refine iteF ?_
    have ws0 : ws[ws.idxOf v]? = some v := by
      rw [List.getElem?_eq_getElem (List.idxOf_lt_length_of_mem c)]
      exact congrArg some (List.getElem_idxOf _)
    have h6' : H6 pw = some (.lst ((natIp ws).map V.int)) := by rw [h6, natV_ints]; rfl
    refine ⟨_, rfl, _, rfl, .inl ⟨rfl, _, SqL.of h6⟩, _, rfl, pw, natIp ws, v, ws.idxOf v, rfl, rfl, h6', ?_, fun m hm e => ?_, ?_, _, rfl, pw, _, rfl, SqL.of h6, fun p7 H7 n7 => ?_⟩
    · unfold natIp
      rw [List.getElem?_map, ws0]; rfl
    · unfold natIp at e
      rw [List.getElem?_map] at e
      have ml : m < ws.length := Nat.lt_trans hm (List.idxOf_lt_length_of_mem c)
      rw [List.getElem?_eq_getElem ml] at e
      have e' : ((ws[m] : Nat) : Int) = (v : Int) := Option.some.inj e
      have e2 : ws[m] = v := by omega
      have := List.Nodup.idxOf_getElem W.nd m ml
      rw [e2] at this
      omega
    · unfold natIp
      rw [List.length_map]; omega
    · rw [cut_hi'] at n7
      have h7 : H7 p7 = some (.lst (natV (ws.drop (ws.idxOf v)))) := by rw [n7.here]; unfold natV; rw [List.map_drop]
      exact q p7 _ H7 (s6.trans n7.same) (s6.free n7.fresh) h7 (W.ring okt lt ws0)
  · rw [decide_eq_false c]
    refine iteT ⟨fun σ' H' => ∃ m', m' < lf.length + 1 - ws.length ∧ ∃ (ws : List Nat) (v : Nat), σ' = [some g, some (.ref a), some (.ref pw), some (.int (v : Int))] ∧ Same H H' ∧ H' pw = some (.lst (natV ws)) ∧ WayR ts lf ws v ∧ m' = lf.length + 1 - ws.length, fun σ' H' z => z, ?_⟩
    refine ⟨_, rfl, .inl ⟨rfl, _, SqL.of h6⟩, _, rfl, pw, _, _, rfl, rfl, h6, by rw [natV_len]; omega, fun H7 c7 => ?_⟩
    have h7 : H7 pw = some (.lst (natV (ws ++ [v]))) := by rw [natV_app]; exact c7.here
    have s7 : Same H H7 := s6.chg n1.fresh c7
    refine ⟨_, rfl, _, rfl, g, n, ts, v, rfl, hG.same s7, by omega, by omega, by omega, fun H8 p9 H9 s8 n9 => ?_⟩
    have s79 := s8.trans n9.same
    refine ⟨_, rfl, p9, a, _, _, rfl, SqL.of n9.here, nk ((s7.trans s79).seq hA), around_len l100 _, fun H10 p11 H11 s10 n11 => ?_⟩
    have s711 := s79.trans (s10.trans n11.same)
    refine ⟨_, rfl, 2, rfl, -2, rfl, 1, rfl, -1, rfl, pw, _, rfl, SqL.of (s711 _ _ h7), fun p12 H12 n12 => ?_⟩
    have lw : (ws ++ [v]).length = ws.length + 1 := by rw [List.length_append]; rfl
    have wp := W.ne
    have e12 : cutV (natV (ws ++ [v])) (some (-2)) (some (-1)) = natV [ws.getD (ws.length - 1) 0] := by
      refine cut_back _ _ (by rw [natV_len]; omega) ?_
      unfold natV
      rw [List.length_map, lw, List.getElem?_map, show ws.length + 1 - 2 = ws.length - 1 by omega, List.getElem?_append_left (by omega), List.getElem?_eq_getElem (by omega), List.getD_eq_getElem?_getD, List.getElem?_eq_getElem (by omega)]
      rfl
    rw [e12] at n12
    have s712 := s711.trans n12.same
    refine ⟨p11, p12, _, natIp [ws.getD (ws.length - 1) 0], rfl, SqL.of (n12.same _ _ n11.here), nk (SqL.of n12.here), ?_, fun H13 p14 H14 s13 n14 => ?_⟩
    · refine Nat.le_trans (List.length_filter_le _ _) (around_len l100 _)
    have s714 := s712.trans (s13.trans n14.same)
    have lm : ∀ x ∈ lessF (commonF (aroundF ts (v : Int)) (natIp lf)) (natIp [ws.getD (ws.length - 1) 0]), (∃ u : Nat, x = (u : Int) ∧ tieT ts v u = true ∧ u ∈ lf) ∧ x ≠ ((ws.getD (ws.length - 1) 0 : Nat) : Int) := fun x hx => by
      unfold lessF at hx
      obtain ⟨h1, h2⟩ := List.mem_filter.mp hx
      refine ⟨nb_mem.mp h1, fun e => ?_⟩
      rw [show decide (x ∈ natIp [ws.getD (ws.length - 1) 0]) = true from decide_eq_true (by rw [e]; exact List.mem_cons_self)] at h2
      cases h2
    obtain ⟨u, hu, at14, tu, um⟩ := hd (v := v) (fun x hx => (lm x hx).1) (by
      obtain ⟨u, hu, tu, nu⟩ := two_of okt nd (C.two v W.vin) (ws.getD (ws.length - 1) 0)
      refine List.ne_nil_of_mem (a := (u : Int)) ?_
      unfold lessF
      refine List.mem_filter.mpr ⟨nb_mem.mpr ⟨u, rfl, tu, hu⟩, ?_⟩
      rw [show decide ((u : Int) ∈ natIp [ws.getD (ws.length - 1) 0]) = false from decide_eq_false fun z => by
        obtain ⟨y, hy, e⟩ := mem_natIp.mp z
        rw [List.mem_singleton.mp hy] at e
        exact nu (by omega)]
      rfl)
    refine ⟨p14, _, _, _, rfl, rfl, SqL.of n14.here, at14, ?_⟩
    exact ⟨_, by rw [lw]; omega, ws ++ [v], u, rfl, s7.trans s714, s714 _ _ h7, W.add c um tu fun e => (lm _ hu).2 (by rw [e]), rfl⟩
set_option maxHeartbeats 8000000 in
theorem ok_woodR (B : Bl mg) (d_is_whole : Dn K mg "is_whole" s_is_whole ["thing"]) (d_is_below : Dn K mg "is_below" s_is_below ["n", "thing"]) (d_common : Dn K mg "common" s_common ["one", "other"]) (d_less : Dn K mg "less" s_less ["one", "other"]) (d_around : Dn K mg "around" s_around ["graph", "v"]) (d_loose_among : Dn K mg "loose_among" s_loose_among ["graph", "left"]) (d_ringed : Dn K mg "ringed" s_ringed ["graph"]) (d_ring_among : Dn K mg "ring_among" s_ring_among ["graph", "left"]) (d_pieces : Dn K mg "pieces" s_pieces ["graph", "places"]) (d_up_to : Dn K mg "up_to" s_up_to ["graph", "piece", "v"]) (d_wood : Dn K mg "wood" s_wood ["graph"]) : FnOk P w K mg base CX0 8 d_wood.f d_wood.fd ["graph"] (spWoodR K) := by
  have G_ringed : FnOk P w K mg base CX0 7 _ _ _ _ := (ok_ringed B d_is_whole d_is_below d_common d_less d_around d_loose_among d_ringed).mono (by decide)
  have G_ring_among : FnOk P w K mg base CX0 7 _ _ _ _ := ok_ring_among B d_is_whole d_is_below d_common d_less d_around d_ring_among
  have G_pieces : FnOk P w K mg base CX0 7 d_pieces.f d_pieces.fd ["graph", "places"] fun _ _ _ _ => False := by
    refine d_pieces.F.ok sc_pieces (fun vs H Q E h => ?_) (fun cdv A outer s H vs Q E hr h => ?_)
    · exact h.elim
    · exact h.elim
  have G_up_to : FnOk P w K mg base CX0 7 d_up_to.f d_up_to.fd ["graph", "piece", "v"] fun _ _ _ _ => False := by
    refine d_up_to.F.ok sc_up_to (fun vs H Q E h => ?_) (fun cdv A outer s H vs Q E hr h => ?_)
    · exact h.elim
    · exact h.elim
  refine d_wood.F.ok sc_wood (fun vs H Q E h => ?_) (fun cdv A outer s H vs Q E hr h => ?_)
  · obtain ⟨g, n, ts, r0, rfl, _⟩ := h
    rfl
  obtain ⟨g, n, ts, r0, rfl, hG, okt, nd, n10, l100, R, q⟩ := h
  refine ⟨_, (pss_cons (ps_set (i := 1) sc_wood.nd rfl (Or.inl rfl) (pe_call G_ringed hr rfl d_ringed.m d_ringed.F.kp d_ringed.b .nil pass0 (pa_cons (pv 0) pa_nil)))
      (pss_cons (ps_if (pt_truthK (K := K) rfl (pv 1) (fun _ => rfl))
      (pss_one (ps_ret (pe_tupN (pa_cons pe_str (pa_cons (pe_call G_ring_among hr rfl d_ring_among.m d_ring_among.F.kp d_ring_among.b .nil pass0 (pa_cons (pv 0) (pa_cons (pv 1) pa_nil))) pa_nil)))))
      pss_nil)
      (pss_cons (ps_setLC (i := 2) ["v"] [none] sc_wood.nd rfl rfl (by kernel_rfl) rfl (pi_range1 rfl B.range (pa_cons (pe_ix (ix_tupK (K := K) rfl) (pv 0) pe_int (fun _ _ => rfl)) pa_nil)) (fun _ _ _ _ _ => (pg_name (i := 0) (show (["v"] : List Str).Nodup by decide +kernel) rfl (Or.inl rfl))) (fun _ _ _ _ _ => pts_nil) (fun _ _ _ _ _ => pe_non) (by rfl))
      (pss_cons (ps_for PassesOwn.never rfl (pi_listK (K := K) rfl (pe_call G_pieces hr rfl d_pieces.m d_pieces.F.kp d_pieces.b .nil pass0 (pa_cons (pv 0) (pa_cons (pe_listR rfl B.list B.range (pa_cons (pe_ix (ix_tupK (K := K) rfl) (pv 0) pe_int (fun _ _ => rfl)) pa_nil)) pa_nil)))) (pg_name (i := 4) sc_wood.nd rfl (Or.inl rfl))
      (pss_one (ps_for PassesOwn.never rfl (pi_listK (K := K) rfl (pe_slice (sl_listN (K := K) rfl) (pv 4) (po_some pe_int) po_none)) (pg_name (i := 3) sc_wood.nd rfl (Or.inl rfl))
      (pss_one (ps_asg (pe_call G_up_to hr rfl d_up_to.m d_up_to.F.kp d_up_to.b .nil pass0 (pa_cons (pv 0) (pa_cons (pv 4) (pa_cons (pv 3) pa_nil)))) (pg_sub (pv 2) (pv 3) set_listN))))))
      (pss_one (ps_ret (pe_tupN (pa_cons pe_str (pa_cons (pv 2) pa_nil))))))))), ?_⟩
  refine ⟨_, rfl, g, n, ts, rfl, hG, okt, nd, n10, l100, fun r1 lf H1 s1 f1 h1 C => ?_⟩
  have ne := ring_core okt nd C R
  refine ⟨_, rfl, _, .inl ⟨_, SqL.of h1, rfl⟩, ?_⟩
  rw [show (!(natV lf).isEmpty) = true by
      cases e : lf with
      | nil => exact absurd e ne
      | cons _ _ => rfl]
  refine iteT ?_
  refine ⟨_, rfl, _, rfl, g, n, ts, r1, lf, rfl, hG.same s1, okt, nd, n10, l100, SqL.of h1, C, ne, fun p r H2 s2 f2 h2 R2 => ?_⟩
  refine ⟨(by show 2 ≤ 1000; decide), fun p3 H3 n3 => ?_⟩
  exact q p3 p r H3 (s1.trans (s2.trans n3.same)) (s1.free f2) (n3.same _ _ h2) n3.here R2
end

end K


namespace K
open PySem L2 Lw Bg
abbrev s__law_cell : Stmt := top 21
theorem sc__law_cell : FnScope ["_law_script", "_law_k"] ["_law_script", "_law_k"] (defScope s__law_cell) := ⟨rfl, rfl, rfl, by decide +kernel, rfl, by decide +kernel, by decide +kernel⟩
def spCellA (K : PySem.W.Frag) : Sp := fun vs H Q _ => ∃ (a : Addr) (ns : List Int) (k : Int), vs = [.ref a, .int k] ∧ Scr K H a ns ∧ ns.length ≤ 63 ∧ 0 ≤ k ∧ k ≤ 1000 ∧ ∀ z, Q (.int z) H
section
variable {P : Program} {w : World} {K : PySem.W.Frag} {mg : Str → Option Value} {base : Heap}
set_option maxHeartbeats 4000000 in
theorem ok__law_cell (B : Bl mg) (d__law_cell : Dn K mg "_law_cell" s__law_cell ["_law_script", "_law_k"]) : FnOk P w K mg base CX0 1 d__law_cell.f d__law_cell.fd ["_law_script", "_law_k"] (spCellA K) := by
  refine d__law_cell.F.ok sc__law_cell (fun vs H Q E h => ?_) (fun cdv A outer s H vs Q E hr h => ?_)
  · obtain ⟨a, ns, k, rfl, _⟩ := h
    rfl
  obtain ⟨a, ns, k, rfl, hS, h63, h0, h1, q⟩ := h
  refine ⟨_, (pss_cons (ps_if (pt_cmpR op_lt (pv 1) (pe_callB (call_lenK (K := K) rfl) rfl B.len (by decide +kernel) (pa_cons (pv 0) pa_nil)) (nomark _))
      (pss_one (ps_ret (pe_ix (ix_listK (K := K) rfl) (pv 0) (pv 1) (fun _ _ => rfl))))
      pss_nil)
      (pss_cons (ps_if (pt_cmpR op_eq (pe_callB (call_lenK (K := K) rfl) rfl B.len (by decide +kernel) (pa_cons (pv 0) pa_nil)) pe_int (nomark _))
      (pss_one (ps_ret (pe_op op_add (pe_op op_mul (pe_op op_mul (pv 1) (pv 1)) pe_int) pe_int)))
      pss_nil)
      (pss_one (ps_ret (pe_op op_add (pe_op op_mul (pe_op op_mod (pe_ix (ix_listK (K := K) rfl) (pv 0) (pe_op op_mod (pe_op op_mul (pv 1) pe_int) (pe_callB (call_lenK (K := K) rfl) rfl B.len (by decide +kernel) (pa_cons (pv 0) pa_nil))) (fun _ _ => rfl)) pe_int) pe_int) (pe_op op_mul (pe_op op_mul (pv 1) (pv 1)) pe_int)))))), ?_⟩
  have hl : (ns.map V.int).length = ns.length := List.length_map _
  refine ⟨_, rfl, _, rfl, a, _, rfl, .inl hS.seq, _, _, rfl, rfl, _, rfl, ?_⟩
  refine ite2 (fun c => ?_) (fun c => ?_)
  · have c' : k < (((ns.map V.int).length : Nat) : Int) := of_decide_eq_true c
    rw [hl] at c'
    exact ⟨_, rfl, _, rfl, a, _, _, _, rfl, rfl, hS.seq, at_ints h0 c', q _⟩
  refine ⟨_, rfl, a, _, rfl, .inl hS.seq, rfl, _, rfl, ?_⟩
  refine ite2 (fun c2 => ?_) (fun c2 => ?_)
  · exact ⟨_, rfl, _, rfl, _, _, rfl, rfl, .inl ⟨by omega, by omega⟩, _, _, rfl, rfl, .inr ⟨by decide, by decide⟩, _, _, rfl, rfl, q _⟩
  · have c2' : ¬ V.int (((ns.map V.int).length : Nat) : Int) = V.int 0 := of_decide_eq_false (Bool.eq_false_iff.mpr c2)
    rw [hl] at c2'
    have z' : (0 : Int) < (ns.length : Int) := by
      rcases Nat.eq_zero_or_pos ns.length with e | e
      · exact absurd (by rw [e]; rfl) c2'
      · omega
    have m0 := Int.emod_nonneg (k * 3) (show (ns.length : Int) ≠ 0 by omega)
    have m1 := Int.emod_lt_of_pos (k * 3) z'
    exact ⟨_, rfl, _, rfl, _, _, rfl, rfl, .inr ⟨by decide, by decide⟩, _, rfl, a, _, rfl, .inl hS.seq, _, _, rfl, rfl, (by rw [hl]; exact z'), a, _, _, _, rfl, rfl, hS.seq, (by rw [hl]; exact at_ints m0 m1), _, _, rfl, rfl, (show (0 : Int) < _ by decide), _, _, rfl, rfl, .inr ⟨by decide, by decide⟩, _, rfl, _, rfl, _, _, rfl, rfl, .inl ⟨by omega, by omega⟩, _, _, rfl, rfl, .inr ⟨by decide, by decide⟩, _, _, rfl, rfl, q _⟩
end

abbrev s__law_turned : Stmt := top 23
theorem sc__law_turned : FnScope ["_law_script", "_law_n", "_law_turned_here", "_law_v"] ["_law_script", "_law_n"] (defScope s__law_turned) := ⟨rfl, rfl, rfl, by decide +kernel, rfl, by decide +kernel, by decide +kernel⟩
abbrev rng (n : Nat) : List Int := (List.range n).map fun i => ((i : Nat) : Int)
theorem mem_rng {n : Nat} {v : Int} : v ∈ rng n ↔ 0 ≤ v ∧ v < (n : Int) := by
  rw [List.mem_map]
  constructor
  · rintro ⟨i, hi, rfl⟩
    have := List.mem_range.mp hi
    omega
  · rintro ⟨h0, h1⟩
    exact ⟨v.toNat, List.mem_range.mpr (by omega), by omega⟩
def spTurned (K : PySem.W.Frag) : Sp := fun vs H Q _ => ∃ (a : Addr) (ns : List Int) (n : Nat), vs = [.ref a, .int n] ∧ Scr K H a ns ∧ ns.length ≤ 63 ∧ n ≤ 10 ∧ ∀ r us H', New H r (.lst (List.map V.int us)) H' → us.Perm (rng n) → Q (.ref r) H'
section
variable {P : Program} {w : World} {K : PySem.W.Frag} {mg : Str → Option Value} {base : Heap}
set_option maxHeartbeats 4000000 in
theorem ok__law_turned (B : Bl mg) (d__law_cell : Dn K mg "_law_cell" s__law_cell ["_law_script", "_law_k"]) (d__law_turned : Dn K mg "_law_turned" s__law_turned ["_law_script", "_law_n"]) : FnOk P w K mg base CX0 2 d__law_turned.f d__law_turned.fd ["_law_script", "_law_n"] (spTurned K) := by
  have G__law_cell : FnOk P w K mg base CX0 1 _ _ _ _ := ok__law_cell B d__law_cell
  refine d__law_turned.F.ok sc__law_turned (fun vs H Q E h => ?_) (fun cdv A outer s H vs Q E hr h => ?_)
  · obtain ⟨a, ns, n, rfl, _⟩ := h
    rfl
  obtain ⟨a, ns, n, rfl, hS, h63, hn, q⟩ := h
  refine ⟨_, (pss_cons (ps_set (i := 2) sc__law_turned.nd rfl (Or.inl rfl) (pe_lstN pa_nil))
      (pss_cons (ps_for PassesOwn.never rfl (pi_range1 rfl B.range (pa_cons (pv 1) pa_nil)) (pg_name (i := 3) sc__law_turned.nd rfl (Or.inl rfl))
      (pss_one (ps_expr (pe_bmK (K := K) rfl PySem.F.plainAttrs_list PySem.F.slot_list_insert PySem.F.type_list_insert mt_insertN (pv 2) (pa_cons (pe_op op_mod (pe_call G__law_cell hr rfl d__law_cell.m d__law_cell.F.kp d__law_cell.b .nil pass0 (pa_cons (pv 0) (pa_cons (pe_op op_add pe_int (pv 3)) pa_nil))) (pe_op op_add (pv 3) pe_int)) (pa_cons (pv 3) pa_nil))))))
      (pss_one (ps_ret (pv 2))))), ?_⟩
  refine ⟨(by show 0 ≤ 1000; decide), fun r H0 nw => ?_⟩
  refine ⟨_, rfl, _, rfl, by omega, by omega, ?_⟩
  rw [Int.toNat_natCast]
  refine for_range (n := n) (fun i σ H' => ∃ (us : List Int) (v : Option V), σ = [some (.ref a), some (.int n), some (.ref r), v] ∧ New H r (.lst (us.map V.int)) H' ∧ us.Perm (rng i)) ⟨[], none, rfl, nw, .nil⟩ ?_ ?_
  · rintro i σ H1 hi ⟨us, v, rfl, n1, pm⟩
    have ei : (0 + (i : Int)) = ((i : Nat) : Int) := by omega
    rw [ei]
    have lu : us.length = i := by rw [pm.length_eq]; simp
    refine ⟨_, rfl, .inl ⟨rfl, _, SqL.of n1.here⟩, _, rfl, _, rfl, _, _, rfl, rfl, a, ns, _, rfl, hS.same n1.same, h63, (by omega), (by omega), fun z => ?_⟩
    have m0 := Int.emod_nonneg z (show (i : Int) + 1 ≠ 0 by omega)
    have m1 := Int.emod_lt_of_pos z (show (0 : Int) < (i : Int) + 1 by omega)
    refine ⟨_, rfl, _, _, rfl, rfl, _, _, rfl, rfl, (show (0 : Int) < _ by omega), _, rfl, r, _, _, _, rfl, rfl, n1.here, (by rw [List.length_map]; omega), m0, (by rw [List.length_map]; omega), fun H2 ch => ?_⟩
    refine ⟨us.take (z % ((i : Int) + 1)).toNat ++ (i : Int) :: us.drop (z % ((i : Int) + 1)).toNat, _, rfl, ⟨n1.fresh, ?_, fun b hb => (ch.rest b hb).trans (n1.rest b hb)⟩, ?_⟩
    · rw [ch.here, ← List.map_take, ← List.map_drop, List.map_append, List.map_cons]
    · refine List.perm_middle.trans ?_
      rw [List.take_append_drop]
      have e : rng (i + 1) = rng i ++ [(i : Int)] := by unfold rng; rw [List.range_succ, List.map_append]; rfl
      rw [e]
      exact (pm.cons _).trans (List.perm_append_singleton _ _).symm
  · rintro σ H1 ⟨us, v, rfl, n1, pm⟩
    exact ⟨_, rfl, q r us H1 n1 pm⟩
end

abbrev s__law_ties : Stmt := top 24
theorem sc__law_ties : FnScope ["_law_script", "_law_n", "_law_turned_here", "_law_size", "_law_pairs", "_law_k", "_law_one", "_law_other"] ["_law_script", "_law_n"] (defScope s__law_ties) := ⟨rfl, rfl, rfl, by decide +kernel, rfl, by decide +kernel, by decide +kernel⟩
/-- the tie of two places -/
def tieI (a b : Nat) : Int × Int := ((min a b : Nat), (max a b : Nat))
def srtT (t : Int × Int) : Int × Int := (if t.2 < t.1 then t.2 else t.1, if t.2 > t.1 then t.2 else t.1)
/-- pairs of unlike places -/
def PrsU (n : Nat) (ps : List (Int × Int)) : Prop := ∀ t ∈ ps, 0 ≤ t.1 ∧ t.1 < (n : Int) ∧ 0 ≤ t.2 ∧ t.2 < (n : Int) ∧ t.1 ≠ t.2
theorem PrsU.put {n : Nat} {ps : List (Int × Int)} {t : Int × Int} (h : PrsU n ps) (ht : 0 ≤ t.1 ∧ t.1 < (n : Int) ∧ 0 ≤ t.2 ∧ t.2 < (n : Int) ∧ t.1 ≠ t.2) : PrsU n (putP ps t) := fun s hs => by
  rcases mem_putP.mp hs with hs | hs
  · exact h s hs
  · rw [hs]; exact ht
/-- the pairs of a ring's first places -/
def Ring0 (os : List Nat) (z i : Nat) (ps : List (Int × Int)) : Prop := ∀ k, k < i → (((os.getD k 0 : Nat) : Int), ((os.getD ((k + 1) % z) 0 : Nat) : Int)) ∈ ps
theorem Ring0.put {os : List Nat} {z i : Nat} {ps : List (Int × Int)} (h : Ring0 os z i ps) (t : Int × Int) : Ring0 os z i (putP ps t) := fun k hk => mem_putP.mpr (.inl (h k hk))
theorem Ring0.step {os : List Nat} {z i : Nat} {ps : List (Int × Int)} (h : Ring0 os z i ps) : Ring0 os z (i + 1) (putP ps (((os.getD i 0 : Nat) : Int), ((os.getD ((i + 1) % z) 0 : Nat) : Int))) := fun k hk => by
  rcases Nat.lt_or_ge k i with c | c
  · exact mem_putP.mpr (.inl (h k c))
  · obtain rfl : k = i := by omega
    exact mem_putP.mpr (.inr rfl)
theorem ring0_ring {os : List Nat} {n z : Nat} {ps ts : List (Int × Int)} (z3 : 3 ≤ z) (zn : z ≤ n) (po : os.Perm (List.range n)) (R : Ring0 os z z ps) (U : PrsU n ps) (m : ∀ t, t ∈ ts ↔ t ∈ ps.map srtT) : RingR ts n (os.take z) := by
  have lo : os.length = n := by rw [po.length_eq, List.length_range]
  have ndo : os.Nodup := po.nodup_iff.mpr List.nodup_range
  have lz : (os.take z).length = z := by rw [List.length_take]; omega
  have gt : ∀ i, i < z → (os.take z).getD i 0 = os.getD i 0 := fun i hi => by
    rw [List.getD_eq_getElem?_getD, List.getElem?_take_of_lt hi, List.getD_eq_getElem?_getD]
  have tt : ∀ k, k < z → tieT ts (os.getD k 0) (os.getD ((k + 1) % z) 0) = true := fun k hk => by
    have h := R k hk
    have u := U _ h
    dsimp only at u
    have := (m _).mpr (List.mem_map.mpr ⟨_, h, rfl⟩)
    unfold tieT
    rw [Bool.or_eq_true, decide_eq_true_iff, decide_eq_true_iff]
    unfold srtT at this
    dsimp only at this
    by_cases c : ((os.getD ((k + 1) % z) 0 : Nat) : Int) < ((os.getD k 0 : Nat) : Int)
    · rw [if_pos c, if_neg (by omega)] at this
      exact .inr this
    · rw [if_neg c, if_pos (by omega)] at this
      exact .inl this
  refine ⟨by omega, ndo.sublist (List.take_sublist ..), fun x hx => List.mem_range.mp (po.mem_iff.mp (List.mem_of_mem_take hx)), fun i hi => ?_, ?_⟩
  · rw [lz] at hi
    rw [gt i (by omega), gt (i + 1) hi]
    have := tt i (by omega)
    rwa [Nat.mod_eq_of_lt hi] at this
  · rw [lz, gt (z - 1) (by omega), gt 0 (by omega)]
    have := tt (z - 1) (by omega)
    rwa [show z - 1 + 1 = z by omega, Nat.mod_self] at this
def spTies44 (K : PySem.W.Frag) : Sp := fun vs H Q _ => ∃ (a : Addr) (ns : List Int) (n : Nat), vs = [.ref a, .int n] ∧ Scr K H a ns ∧ ns.length ≤ 63 ∧ 3 ≤ n ∧ n ≤ 10 ∧
  ∀ r xs ts r0 H', Same H H' → H r = none → H' r = some (.lst xs) → Paired (TieL H') xs ts → (∀ t ∈ ts, 0 ≤ t.1 ∧ t.1 < t.2 ∧ t.2 < (n : Int)) → ts.Nodup → RingR ts n r0 → ts.length ≤ 45 → Q (.ref r) H'
section
variable {P : Program} {w : World} {K : PySem.W.Frag} {mg : Str → Option Value} {base : Heap}
set_option maxHeartbeats 8000000 in
theorem ok__law_ties (B : Bl mg) (d__law_cell : Dn K mg "_law_cell" s__law_cell ["_law_script", "_law_k"]) (d__law_turned : Dn K mg "_law_turned" s__law_turned ["_law_script", "_law_n"]) (d__law_ties : Dn K mg "_law_ties" s__law_ties ["_law_script", "_law_n"]) : FnOk P w K mg base CX0 3 d__law_ties.f d__law_ties.fd ["_law_script", "_law_n"] (spTies44 K) := by
  have G__law_cell : FnOk P w K mg base CX0 2 _ _ _ _ := (ok__law_cell B d__law_cell).mono (by decide)
  have G__law_turned : FnOk P w K mg base CX0 2 _ _ _ _ := ok__law_turned B d__law_cell d__law_turned
  refine d__law_ties.F.ok sc__law_ties (fun vs H Q E h => ?_) (fun cdv A outer s H vs Q E hr h => ?_)
  · obtain ⟨a, ns, n, rfl, _⟩ := h
    rfl
  obtain ⟨a, ns, n, rfl, hS, h63, n3, n10, q⟩ := h
  have hw1 : (A.deeper (PyProof.Rows.envOfC "_law_ties" (defScope s__law_ties) s.heap.objs.size d__law_ties.f cdv)).units + 1 < cLine := by have := hr.un; omega
  have hw8 : (A.deeper (PyProof.Rows.envOfC "_law_ties" (defScope s__law_ties) s.heap.objs.size d__law_ties.f cdv)).units + 8 < cLine := by have := hr.un; omega
  refine ⟨_, (pss_cons (ps_set (i := 2) sc__law_ties.nd rfl (Or.inl rfl) (pe_call G__law_turned hr rfl d__law_turned.m d__law_turned.F.kp d__law_turned.b .nil pass0 (pa_cons (pv 0) (pa_cons (pv 1) pa_nil))))
      (pss_cons (ps_set (i := 3) sc__law_ties.nd rfl (Or.inl rfl) (pe_op op_add pe_int (pe_op op_mod (pe_call G__law_cell hr rfl d__law_cell.m d__law_cell.F.kp d__law_cell.b .nil pass0 (pa_cons (pv 0) (pa_cons pe_int pa_nil))) (pe_op op_sub (pv 1) pe_int))))
      (pss_cons (ps_set (i := 4) sc__law_ties.nd rfl (Or.inl rfl) pe_dnewT)
      (pss_cons (ps_for PassesOwn.never rfl (pi_range1 rfl B.range (pa_cons (pv 3) pa_nil)) (pg_name (i := 5) sc__law_ties.nd rfl (Or.inl rfl))
      (pss_one (ps_asg pe_bl (pg_sub (pv 4) (pe_tupN (pa_cons (pe_ix (ix_listK (K := K) rfl) (pv 2) (pv 5) (fun _ _ => rfl)) (pa_cons (pe_ix (ix_listK (K := K) rfl) (pv 2) (pe_op op_mod (pe_op op_add (pv 5) pe_int) (pv 3)) (fun _ _ => rfl)) pa_nil))) (set_dictP hw1)))))
      (pss_cons (ps_for PassesOwn.never rfl (pi_range2 rfl B.range (pa_cons (pv 3) (pa_cons (pv 1) pa_nil))) (pg_name (i := 5) sc__law_ties.nd rfl (Or.inl rfl))
      (pss_one (ps_if (pt_cmpR op_gt (pe_op op_mod (pe_call G__law_cell hr rfl d__law_cell.m d__law_cell.F.kp d__law_cell.b .nil pass0 (pa_cons (pv 0) (pa_cons (pe_op op_add pe_int (pv 5)) pa_nil))) pe_int) pe_int (nomark _))
      (pss_one (ps_asg pe_bl (pg_sub (pv 4) (pe_tupN (pa_cons (pe_ix (ix_listK (K := K) rfl) (pv 2) (pv 5) (fun _ _ => rfl)) (pa_cons (pe_ix (ix_listK (K := K) rfl) (pv 2) (pe_op op_mod (pe_op op_fdiv (pe_call G__law_cell hr rfl d__law_cell.m d__law_cell.F.kp d__law_cell.b .nil pass0 (pa_cons (pv 0) (pa_cons (pe_op op_add pe_int (pv 5)) pa_nil))) pe_int) (pv 5)) (fun _ _ => rfl)) pa_nil))) (set_dictP hw1))))
      pss_nil)))
      (pss_cons (ps_for PassesOwn.never rfl (pi_range1 rfl B.range (pa_cons (pe_op op_mod (pe_call G__law_cell hr rfl d__law_cell.m d__law_cell.F.kp d__law_cell.b .nil pass0 (pa_cons (pv 0) (pa_cons pe_int pa_nil))) pe_int) pa_nil)) (pg_name (i := 5) sc__law_ties.nd rfl (Or.inl rfl))
      (pss_cons (ps_set (i := 6) sc__law_ties.nd rfl (Or.inl rfl) (pe_op op_mod (pe_call G__law_cell hr rfl d__law_cell.m d__law_cell.F.kp d__law_cell.b .nil pass0 (pa_cons (pv 0) (pa_cons (pe_op op_add pe_int (pv 5)) pa_nil))) (pv 1)))
      (pss_cons (ps_set (i := 7) sc__law_ties.nd rfl (Or.inl rfl) (pe_op op_mod (pe_call G__law_cell hr rfl d__law_cell.m d__law_cell.F.kp d__law_cell.b .nil pass0 (pa_cons (pv 0) (pa_cons (pe_op op_add pe_int (pv 5)) pa_nil))) (pv 1)))
      (pss_one (ps_if (pt_cmpR op_ne (pv 6) (pv 7) (nomark _))
      (pss_one (ps_asg pe_bl (pg_sub (pv 4) (pe_tupN (pa_cons (pv 6) (pa_cons (pv 7) pa_nil))) (set_dictP hw1))))
      pss_nil)))))
      (pss_one (ps_ret (pe_callB (call_sortedPS (w := w) rfl rfl) rfl B.sorted (by decide +kernel) (pa_cons (pe_callTy (call_setPr (K := K) (w := w) rfl rfl rfl hw8) rfl B.set (by decide +kernel) (pa_cons (pe_thawP (pe_lc ["_law_a", "_law_b"] [none, none]  (by kernel_rfl) rfl (pi_dictP (pv 4)) (fun _ _ _ _ _ => (pg_tupK (K := K) (n := 2) rfl rfl (pgs_cons (pg_name (i := 0) (show (["_law_a", "_law_b"] : List Str).Nodup by decide +kernel) rfl (Or.inl rfl)) (pgs_cons (pg_name (i := 1) (show (["_law_a", "_law_b"] : List Str).Nodup by decide +kernel) rfl (Or.inl rfl)) pgs_nil)))) (fun _ _ _ _ _ => pts_nil) (fun _ _ _ _ _ => (pe_tupN (pa_cons (pe_callB (call_min2 rfl) rfl B.min (by decide +kernel) (pa_cons (pv 0) (pa_cons (pv 1) pa_nil))) (pa_cons (pe_callB (call_max2 rfl) rfl B.max (by decide +kernel) (pa_cons (pv 0) (pa_cons (pv 1) pa_nil))) pa_nil)))))) pa_nil)) pa_nil)))))))))), ?_⟩
  refine ⟨_, rfl, _, rfl, a, ns, n, rfl, hS, h63, n10, fun rt us H1 n1 pu => ?_⟩
  obtain ⟨os, eo, po⟩ : ∃ os : List Nat, us = natIp os ∧ os.Perm (List.range n) := by
    refine ⟨us.map Int.toNat, ?_, ?_⟩
    · unfold natIp
      rw [List.map_map]
      conv => lhs; rw [← List.map_id us]
      refine List.map_congr_left fun x hx => ?_
      have := mem_rng.mp (pu.mem_iff.mp hx)
      show x = ((x.toNat : Nat) : Int)
      omega
    · have := pu.map Int.toNat
      unfold rng at this
      rw [List.map_map] at this
      have e : (List.range n).map (Int.toNat ∘ fun i : Nat => (i : Int)) = List.range n := by
        conv => rhs; rw [← List.map_id (List.range n)]
        exact List.map_congr_left fun x _ => Int.toNat_natCast x
      rw [e] at this
      exact this
  have h1 : H1 rt = some (.lst (natV os)) := by rw [n1.here, eo, natV_ints]; rfl
  have lo : os.length = n := by rw [po.length_eq, List.length_range]
  have ndo : os.Nodup := po.nodup_iff.mpr List.nodup_range
  have olt : ∀ k, k < n → os.getD k 0 < n := fun k hk => by
    rw [List.getD_eq_getElem?_getD, List.getElem?_eq_getElem (by omega)]
    exact List.mem_range.mp (po.mem_iff.mp (List.getElem_mem _))
  have one : ∀ {i j : Nat}, i < n → j < n → i ≠ j → os.getD i 0 ≠ os.getD j 0 := fun {i j} hi hj ne e => by
    rw [List.getD_eq_getElem?_getD, List.getElem?_eq_getElem (by omega), List.getD_eq_getElem?_getD, List.getElem?_eq_getElem (by omega)] at e
    exact ne ((List.getElem_inj ndo).mp e)
  refine ⟨_, rfl, a, ns, 1, rfl, hS.same n1.same, h63, by decide, by decide, fun z => ?_⟩
  have z0 := Int.emod_nonneg z (show (n : Int) - 2 ≠ 0 by omega)
  have z1 := Int.emod_lt_of_pos z (show (0 : Int) < (n : Int) - 2 by omega)
  refine ⟨_, rfl, _, _, rfl, rfl, _, _, rfl, rfl, (show (0 : Int) < (n : Int) - 2 by omega), _, _, rfl, rfl, ?_⟩
  obtain ⟨sz, hsz, z3, zn⟩ : ∃ sz : Nat, 3 + z % ((n : Int) - 2) = (sz : Int) ∧ 3 ≤ sz ∧ sz ≤ n := ⟨(3 + z % ((n : Int) - 2)).toNat, by omega, by omega, by omega⟩
  dsimp only
  rw [hsz]
  refine fun pd hpd => ?_
  have hpd0 : H pd = none := n1.same.free hpd
  have n2 : Same H1 (upd H1 pd (.dT (dP []))) := (New.mk0 hpd).same
  have d2 : (upd H1 pd (.dT (dP []))) pd = some (.dT (dP [])) := upd_same
  show _
  generalize hH2 : upd H1 pd (.dT []) = H2
  have n2 : Same H1 H2 := by rw [← hH2]; exact n2
  have d2 : H2 pd = some (.dT (dP [])) := by rw [← hH2]; exact d2
  have ix := fun {H' : Hp} (s : Same H1 H') => (SqL.of (K := K) (s _ _ h1) : SqL K H' rt (natV os))
  have at_ : ∀ k : Nat, k < n → atI (natV os) (k : Int) = some (.int ((os.getD k 0 : Nat) : Int)) := fun k hk => atI_nat (by
    unfold natV
    rw [List.getElem?_map, List.getElem?_eq_getElem (by omega), List.getD_eq_getElem?_getD, List.getElem?_eq_getElem (by omega)]
    rfl)
  refine ⟨_, rfl, _, rfl, by omega, by omega, ?_⟩
  rw [Int.toNat_natCast]
  refine for_range (n := sz) (fun i σ H' => ∃ (kk : Option V) (ps : List (Int × Int)), σ = [some (.ref a), some (.int n), some (.ref rt), some (.int sz), some (.ref pd), kk, none, none] ∧ Same H1 H' ∧ H' pd = some (.dT (dP ps)) ∧ PrsU n ps ∧ ps.length ≤ i ∧ Ring0 os sz i ps)
    ⟨none, [], rfl, n2, d2, fun t ht => absurd ht List.not_mem_nil, Nat.le_refl _, fun k hk => absurd hk (Nat.not_lt_zero _)⟩ ?_ ?_
  · rintro i σ H3 hi ⟨kk, ps, rfl, s3, h3, U, lk, R⟩
    have ei : (0 : Int) + (i : Int) = (i : Int) := by omega
    rw [ei]
    have jl : (i + 1) % sz < sz := Nat.mod_lt _ (by omega)
    have ej : ((i : Int) + 1) % (sz : Int) = (((i + 1) % sz : Nat) : Int) := by rw [Int.natCast_emod]; rfl
    have at2 : atI (natV os) (((i : Int) + 1) % (sz : Int)) = some (.int ((os.getD ((i + 1) % sz) 0 : Nat) : Int)) := by rw [ej]; exact at_ _ (by omega)
    refine ⟨_, rfl, _, rfl, _, rfl, rt, _, _, _, rfl, rfl, ix s3, at_ i (by omega), _, rfl, _, rfl, _, _, rfl, rfl, _, rfl, _, _, rfl, rfl, (show (0 : Int) < (sz : Int) by omega), rt, _, _, _, rfl, rfl, ix s3, at2, (by show 2 ≤ 1000; decide), fun p4 H4 n4 => ?_⟩
    refine ⟨pd, p4, (((os.getD i 0 : Nat) : Int), ((os.getD ((i + 1) % sz) 0 : Nat) : Int)), ps, rfl, rfl, rfl, n4.here, n4.same _ _ h3, by omega, fun H5 c5 => ?_⟩
    have o1 := olt i (by omega)
    have o2 := olt ((i + 1) % sz) (by omega)
    have ne : i ≠ (i + 1) % sz := by
      rcases Nat.lt_or_ge (i + 1) sz with c | c
      · rw [Nat.mod_eq_of_lt c]; omega
      · rw [show i + 1 = sz by omega, Nat.mod_self]; omega
    have o3 := one (show i < n by omega) (show (i + 1) % sz < n by omega) ne
    exact ⟨_, _, rfl, (s3.trans n4.same).chg hpd c5, c5.here, U.put ⟨by show (0 : Int) ≤ ((_ : Nat) : Int); omega, by show ((_ : Nat) : Int) < _; omega, by show (0 : Int) ≤ ((_ : Nat) : Int); omega, by show ((_ : Nat) : Int) < _; omega, fun e => o3 (by have : ((os.getD i 0 : Nat) : Int) = ((os.getD ((i + 1) % sz) 0 : Nat) : Int) := e; omega)⟩, Nat.le_trans (putP_len _ _) (by omega), R.step⟩
  · rintro σ H3 ⟨kk, ps, rfl, s3, h3, U, lk, R⟩
    refine ⟨_, rfl, _, rfl, _, _, rfl, ⟨by omega, by omega, by omega, by omega⟩, ?_⟩
    obtain ⟨m, hm, mn⟩ : ∃ m : Nat, ((n : Int) - (sz : Int)).toNat = m ∧ m + sz = n := ⟨n - sz, by omega, by omega⟩
    rw [hm]
    refine for_range (lo := (sz : Int)) (n := m) (fun i σ H' => ∃ (kk : Option V) (ps : List (Int × Int)), σ = [some (.ref a), some (.int n), some (.ref rt), some (.int sz), some (.ref pd), kk, none, none] ∧ Same H1 H' ∧ H' pd = some (.dT (dP ps)) ∧ PrsU n ps ∧ ps.length ≤ sz + i ∧ Ring0 os sz sz ps)
      ⟨_, ps, rfl, s3, h3, U, lk, R⟩ ?_ ?_
    · rintro i σ H4 hi ⟨kk, ps, rfl, s4, h4, U, lk, R⟩
      have ei : (sz : Int) + (i : Int) = ((sz + i : Nat) : Int) := by omega
      rw [ei]
      generalize hk : sz + i = k
      have kn : k < n := by omega
      have k0 : 0 < k := by omega
      have sH := hS.same (n1.same.trans s4)
      refine ⟨_, rfl, _, rfl, _, _, rfl, rfl, a, ns, _, rfl, sH, h63, by omega, by omega, fun y1 => ?_⟩
      refine ⟨_, _, rfl, rfl, (show (0 : Int) < 4 by decide), _, _, rfl, rfl, _, rfl, ?_⟩
      refine ite2 (fun c => ?_) (fun c => ⟨_, ps, rfl, s4, h4, U, by omega, R⟩)
      refine ⟨_, rfl, _, rfl, _, rfl, rt, _, _, _, rfl, rfl, ix s4, at_ k kn, _, rfl, _, rfl, _, rfl, _, _, rfl, rfl, a, ns, _, rfl, sH, h63, by omega, by omega, fun y2 => ?_⟩
      refine ⟨_, _, rfl, rfl, ⟨by decide, by decide⟩, _, rfl, _, _, rfl, rfl, (show (0 : Int) < (k : Int) by omega), ?_⟩
      have m0 := Int.emod_nonneg (y2 / 4) (show (k : Int) ≠ 0 by omega)
      have m1 := Int.emod_lt_of_pos (y2 / 4) (show (0 : Int) < (k : Int) by omega)
      dsimp only
      generalize y2 / 4 % (k : Int) = jz at m0 m1 ⊢
      obtain ⟨j, rfl⟩ : ∃ j : Nat, jz = (j : Int) := ⟨jz.toNat, by omega⟩
      refine ⟨rt, _, _, _, rfl, rfl, ix s4, at_ j (by omega), (by show 2 ≤ 1000; decide), fun p4 H5 n4 => ?_⟩
      refine ⟨pd, p4, (((os.getD k 0 : Nat) : Int), ((os.getD j 0 : Nat) : Int)), ps, rfl, rfl, rfl, n4.here, n4.same _ _ h4, by omega, fun H6 c5 => ?_⟩
      have o1 := olt k kn
      have o2 := olt j (by omega)
      have o3 := one kn (show j < n by omega) (show k ≠ j by omega)
      exact ⟨_, _, rfl, (s4.trans n4.same).chg hpd c5, c5.here, U.put ⟨by show (0 : Int) ≤ ((_ : Nat) : Int); omega, by show ((_ : Nat) : Int) < _; omega, by show (0 : Int) ≤ ((_ : Nat) : Int); omega, by show ((_ : Nat) : Int) < _; omega, fun e => o3 (by have : ((os.getD k 0 : Nat) : Int) = ((os.getD j 0 : Nat) : Int) := e; omega)⟩, Nat.le_trans (putP_len _ _) (by omega), R.put _⟩
    · rintro σ H4 ⟨kk, ps, rfl, s4, h4, U, lk, R⟩
      have sH := hS.same (n1.same.trans s4)
      refine ⟨_, rfl, a, ns, 23, rfl, sH, h63, by decide, by decide, fun y => ?_⟩
      have y0 := Int.emod_nonneg y (show (5 : Int) ≠ 0 by decide)
      have y1 := Int.emod_lt_of_pos y (show (0 : Int) < 5 by decide)
      refine ⟨_, _, rfl, rfl, (show (0 : Int) < 5 by decide), _, rfl, by omega, by omega, ?_⟩
      obtain ⟨m5, hm5, m5l⟩ : ∃ m5 : Nat, (y % 5).toNat = m5 ∧ m5 < 5 := ⟨_, rfl, by omega⟩
      rw [hm5]
      refine for_range (n := m5) (fun i σ H' => ∃ (kk oo pp : Option V) (ps : List (Int × Int)), σ = [some (.ref a), some (.int n), some (.ref rt), some (.int sz), some (.ref pd), kk, oo, pp] ∧ Same H1 H' ∧ H' pd = some (.dT (dP ps)) ∧ PrsU n ps ∧ ps.length ≤ 10 + i ∧ Ring0 os sz sz ps)
        ⟨_, _, _, ps, rfl, s4, h4, U, by omega, R⟩ ?_ ?_
      · rintro i σ H5 hi ⟨kk, oo, pp, ps, rfl, s5, h5, U, lk, R⟩
        have ei : (0 : Int) + (i : Int) = (i : Int) := by omega
        rw [ei]
        have sH := hS.same (n1.same.trans s5)
        refine ⟨_, rfl, _, rfl, _, _, rfl, rfl, a, ns, _, rfl, sH, h63, by omega, by omega, fun u1 => ?_⟩
        have a0 := Int.emod_nonneg u1 (show (n : Int) ≠ 0 by omega)
        have a1 := Int.emod_lt_of_pos u1 (show (0 : Int) < (n : Int) by omega)
        refine ⟨_, rfl, _, _, rfl, rfl, (show (0 : Int) < (n : Int) by omega), ?_⟩
        dsimp only
        refine ⟨_, rfl, _, rfl, _, _, rfl, rfl, a, ns, _, rfl, sH, h63, by omega, by omega, fun u2 => ?_⟩
        have b0 := Int.emod_nonneg u2 (show (n : Int) ≠ 0 by omega)
        have b1 := Int.emod_lt_of_pos u2 (show (0 : Int) < (n : Int) by omega)
        refine ⟨_, rfl, _, _, rfl, rfl, (show (0 : Int) < (n : Int) by omega), ?_⟩
        dsimp only
        generalize u1 % (n : Int) = x1 at a0 a1 ⊢
        generalize u2 % (n : Int) = x2 at b0 b1 ⊢
        refine ⟨_, rfl, _, rfl, rfl, _, rfl, ?_⟩
        refine ite2 (fun c => ?_) (fun c => ⟨_, _, _, ps, rfl, s5, h5, U, by omega, R⟩)
        have c' : x1 ≠ x2 := fun z => by
          rw [z] at c
          simp at c
        refine ⟨_, rfl, _, rfl, _, rfl, (by show 2 ≤ 1000; decide), fun p4 H6 n4 => ?_⟩
        refine ⟨pd, p4, (x1, x2), ps, rfl, rfl, rfl, n4.here, n4.same _ _ h5, by omega, fun H7 c5 => ?_⟩
        exact ⟨_, _, _, _, rfl, (s5.trans n4.same).chg hpd c5, c5.here, U.put ⟨a0, a1, b0, b1, c'⟩, Nat.le_trans (putP_len _ _) (by omega), R.put _⟩
      · rintro σ H5 ⟨kk, oo, pp, ps, rfl, s5, h5, U, lk, R⟩
        refine ⟨_, rfl, pd, ps, rfl, h5, fun o as pt => ?_⟩
        have la : as.length = ps.length := by have := Paired.length pt; rwa [List.length_map] at this
        refine lc_dictP (fun i ys H' => ys.length = i ∧ Same (upd H5 pd (.frz o (.dT (dP ps)))) H' ∧ Paired (TieL H') ys ((ps.take i).map srtT)) ⟨rfl, Same.refl _, .nil⟩ (fun i ys H' hi ⟨e1, e2, _⟩ => ⟨e2 _ _ upd_same, by omega⟩) (fun i ys H6 b hb ⟨l6, s6, p6⟩ => ?_) (fun ys H6 p ⟨l6, s6, p6⟩ hp => ?_)
        · have il : i < as.length := (List.getElem?_eq_some_iff.mp hb).1
          obtain ⟨t, ht, tb⟩ := paired_get pt (show (as.map V.ref)[i]? = some (.ref b) by rw [List.getElem?_map, hb]; rfl)
          obtain ⟨b', eb, hb'⟩ := tie_frz (o' := .frz o (.dT (dP ps))) h5 (fun _ z => by cases z) tb
          cases eb
          have hb6 := s6 _ _ hb'
          refine ⟨b, _, rfl, SqT.of hb6, rfl, _, _, rfl, _, _, rfl, rfl, ?_⟩
          unfold tTrue
          dsimp only
          rw [if_pos rfl]
          refine ⟨_, rfl, _, rfl, _, _, rfl, _, rfl, _, rfl, _, _, rfl, (by show 2 ≤ 1000; decide), fun p7 H7 n7 => ?_⟩
          refine ⟨by rw [List.length_append, l6]; rfl, s6.trans n7.same, ?_⟩
          obtain ⟨it, et⟩ := List.getElem?_eq_some_iff.mp ht
          rw [List.take_succ_eq_append_getElem it, et, List.map_append]
          refine paired_snoc (Paired.mapP p6 fun v t q => q.same n7.same) ?_
          exact ⟨p7, rfl, n7.here⟩
        · rw [la, List.take_length] at p6
          have hd6 := s6 _ _ (upd_same (H := H5) (a := pd) (o := .frz o (.dT (dP ps))))
          have ppd : p ≠ pd := fun e => by rw [e, hd6] at hp; cases hp
          refine ⟨pd, o, ps, ps, h5, by rw [upd_ne (Ne.symm ppd)]; exact hd6, ?_⟩
          generalize hH8 : upd (upd H6 p (.lst ys)) pd (.dT (dP ps)) = H8
          have s8 : Same H1 H8 := fun b u e => by
            have nb : b ≠ pd := ne_of_none e hpd
            have e6 : H6 b = some u := s6 b u (by rw [upd_ne nb]; exact s5 b u e)
            rw [← hH8, upd_ne nb, upd_ne (ne_of_none e6 hp)]; exact e6
          have h8 : H8 p = some (.lst ys) := by rw [← hH8, upd_ne ppd, upd_same]
          have p8 : Paired (TieL H8) ys (ps.map srtT) := Paired.mapP p6 fun v t ⟨b, eb, hb⟩ => ⟨b, eb, by
            have nb : b ≠ pd := fun e => by rw [e, hd6] at hb; cases hb
            rw [← hH8, upd_ne nb, upd_ne (ne_of_none hb hp)]; exact hb⟩
          have fp : H p = none := by
            cases e : H p with
            | none => rfl
            | some u =>
              have e1 := n1.same _ _ e
              have e6 : H6 p = some u := s6 p u (by rw [upd_ne ppd]; exact s5 p u e1)
              rw [e6] at hp; cases hp
          have okp : ∀ t ∈ ps.map srtT, 0 ≤ t.1 ∧ t.1 < t.2 ∧ t.2 < (n : Int) := fun t ht => by
            obtain ⟨u, hu, rfl⟩ := List.mem_map.mp ht
            have := U u hu
            unfold srtT
            dsimp only
            by_cases c : u.2 < u.1
            · rw [if_pos c, if_neg (by omega)]; omega
            · rw [if_neg c, if_pos (by omega)]; omega
          have s08 := n1.same.trans s8
          refine ⟨p, ys, ps.map srtT, rfl, SqL.of h8, p8, fun t ht => by have := okp t ht; omega, fun pS L H9 n9 at9 nd9 mem9 few9 => ?_⟩
          refine ⟨pS, L, rfl, n9.here, fun x hx => n9.same _ _ (at9 x hx), by omega, fun us vs pr H10 pm pw tl n10' => ?_⟩
          have mem : ∀ t, t ∈ us ↔ t ∈ ps.map srtT := fun t => by rw [pm.mem_iff, mem9]
          refine q pr vs us (os.take sz) H10 (s08.trans (n9.same.trans n10'.same)) (s08.free (n9.same.free n10'.fresh)) n10'.here (Paired.mapP tl fun v t q => q.same n10'.same) (fun t ht => okp t ((mem t).mp ht)) (pm.nodup_iff.mpr nd9) (ring0_ring z3 zn po R U mem) (by rw [pm.length_eq, List.length_map]; exact few9)
end

end K


namespace K
open PySem L2 Lw Bg
abbrev s__law_whole : Stmt := top 22
theorem sc__law_whole : FnScope ["_law_thing"] ["_law_thing"] (defScope s__law_whole) := ⟨rfl, rfl, rfl, by decide +kernel, rfl, by decide +kernel, by decide +kernel⟩
section
variable {P : Program} {w : World} {K : PySem.W.Frag} {mg : Str → Option Value} {base : Heap}
set_option maxHeartbeats 4000000 in
theorem ok__law_whole (B : Bl mg) (d__law_whole : Dn K mg "_law_whole" s__law_whole ["_law_thing"]) : FnOk P w K mg base CX0 1 d__law_whole.f d__law_whole.fd ["_law_thing"] (spWhole K) := by
  refine d__law_whole.F.ok sc__law_whole (fun vs H Q E h => ?_) (fun cdv A outer s H vs Q E hr h => ?_)
  · obtain ⟨x, t, bi, bb, rfl, _⟩ := h
    rfl
  obtain ⟨x, t, bi, bb, rfl, ty, h1, h2, q⟩ := h
  refine ⟨_, (pss_one (ps_ret (pe_and (pe_callB (call_isinstK (K := K) rfl) rfl B.isinstance (by decide +kernel) (pa_cons (pv 0) (pa_cons (pe_bltn (v := .ty "int") (u := .type "int") rfl B.int (by decide +kernel) rfl) pa_nil))) (pe_one (pe_not (pe_callB (call_isinstK (K := K) rfl) rfl B.isinstance (by decide +kernel) (pa_cons (pv 0) (pa_cons (pe_bltn (v := .ty "bool") (u := .type "bool") rfl B.bool (by decide +kernel) rfl) pa_nil)))))))), ?_⟩
  refine ⟨_, rfl, _, _, _, _, _, rfl, rfl, ty, h1, _, rfl, ?_⟩
  cases bi with
  | true =>
    refine iteT ?_
    exact ⟨_, rfl, _, _, _, _, _, rfl, rfl, ty, h2, _, rfl, q⟩
  | false => exact iteF q
end

theorem eqv_tie (s t : Int × Int) : PyData.eqv (tieD s) (tieD t) = decide (s = t) := by
  unfold tieD
  rw [PyData.eqv]
  have e := PySem.W.ked_eqvAll [s.1, s.2] [t.1, t.2]
  have e' : PyData.eqvAll [.int s.1, .int s.2] [.int t.1, .int t.2] = decide ([s.1, s.2] = [t.1, t.2]) := e
  rw [e']
  obtain ⟨a, b⟩ := s
  obtain ⟨c, d⟩ := t
  simp
theorem any_tie (ts : List (Int × Int)) (t : Int × Int) : (ts.map tieD).any (fun e => PyData.eqv e (tieD t)) = decide (t ∈ ts) := by
  rw [List.any_map]
  rw [Bool.eq_iff_iff, List.any_eq_true, decide_eq_true_iff]
  constructor
  · rintro ⟨s, hs, e⟩
    have : PyData.eqv (tieD s) (tieD t) = true := e
    rw [eqv_tie] at this
    rw [← of_decide_eq_true this]; exact hs
  · intro h
    exact ⟨t, h, by show PyData.eqv (tieD t) (tieD t) = true; rw [eqv_tie]; simp⟩
theorem shaped_tie (t : Int × Int) : SeqAt.shaped (tieD t) = true := by
  unfold SeqAt.shaped
  rw [can_tie, Bool.true_and]
  exact decide_eq_true (by have := depth_tie t; omega)

abbrev s__law_ring : Stmt := top 25
theorem sc__law_ring : FnScope ["_law_found", "_law_n", "_law_ties_here", "_law_ring_here", "_law_k", "_law_one", "_law_other"] ["_law_found", "_law_n", "_law_ties_here"] (defScope s__law_ring) := ⟨rfl, rfl, rfl, by decide +kernel, rfl, by decide +kernel, by decide +kernel⟩
abbrev s_law : Stmt := top 26
theorem sc_law : FnScope ["_law_script", "_law_n", "_law_ties_here", "_law_k", "_law_web", "_law_found"] ["_law_script"] (defScope s_law) := ⟨rfl, rfl, rfl, by decide +kernel, rfl, by decide +kernel, by decide +kernel⟩
theorem kitTT {K : PySem.W.Frag} : PySem.W.kitOne K (.type "tuple") (.type "tuple") = some true := by rfl
theorem kitLL {K : PySem.W.Frag} : PySem.W.kitOne K (.type "list") (.type "list") = some true := by rfl
theorem kitII {K : PySem.W.Frag} : PySem.W.kitOne K (.type "int") (.type "int") = some true := by rfl
theorem kitIB {K : PySem.W.Frag} : PySem.W.kitOne K (.type "int") (.type "bool") = some false := by rfl
theorem tieT_tieI {ts : List (Int × Int)} {n : Nat} (ok : ∀ t ∈ ts, 0 ≤ t.1 ∧ t.1 < t.2 ∧ t.2 < (n : Int)) {a b : Nat} : tieT ts a b = true ↔ tieI a b ∈ ts := by
  unfold tieT tieI
  rw [Bool.or_eq_true, decide_eq_true_iff, decide_eq_true_iff]
  rcases Nat.le_total a b with c | c
  · rw [Nat.min_eq_left c, Nat.max_eq_right c]
    refine ⟨fun h => h.elim id fun h => ?_, .inl⟩
    have := ok _ h
    have : a = b := by omega
    rw [this] at h ⊢
    exact h
  · rw [Nat.min_eq_right c, Nat.max_eq_left c]
    refine ⟨fun h => h.elim (fun h => ?_) id, .inr⟩
    have := ok _ h
    have : a = b := by omega
    rw [this] at h ⊢
    exact h
def spRing44 (K : PySem.W.Frag) : Sp := fun vs H Q _ => ∃ (n : Nat) (f ru r : Addr) (rg : List Nat) (xs : List V) (ts : List (Int × Int)), vs = [.ref f, .int n, .ref r] ∧ H f = some (.tup [.str "ring", .ref ru]) ∧ H ru = some (.lst (natV rg)) ∧ RingR ts n rg ∧ n ≤ 10 ∧ SqL K H r xs ∧ Paired (TieL H) xs ts ∧ (∀ t ∈ ts, 0 ≤ t.1 ∧ t.1 < t.2 ∧ t.2 < (n : Int)) ∧ ts.length ≤ 45 ∧
  ∀ H', Same H H' → Q (.bl true) H'
section
variable {P : Program} {w : World} {K : PySem.W.Frag} {mg : Str → Option Value} {base : Heap}
set_option maxHeartbeats 8000000 in
theorem ok__law_ring (B : Bl mg) (d__law_whole : Dn K mg "_law_whole" s__law_whole ["_law_thing"]) (d__law_ring : Dn K mg "_law_ring" s__law_ring ["_law_found", "_law_n", "_law_ties_here"]) : FnOk P w K mg base CX0 2 d__law_ring.f d__law_ring.fd ["_law_found", "_law_n", "_law_ties_here"] (spRing44 K) := by
  have G__law_whole : FnOk P w K mg base CX0 1 _ _ _ _ := ok__law_whole B d__law_whole
  refine d__law_ring.F.ok sc__law_ring (fun vs H Q E h => ?_) (fun cdv A outer s H vs Q E hr h => ?_)
  · obtain ⟨n, f, ru, r, rg, xs, ts, rfl, _⟩ := h
    rfl
  obtain ⟨n, f, ru, r, rg, xs, ts, rfl, hF, hU, R, n10, hR, hq, okt, l45, q⟩ := h
  have hu : (A.deeper (PyProof.Rows.envOfC "_law_ring" (defScope s__law_ring) s.heap.objs.size d__law_ring.f cdv)).units + 64 < cLine := by have := hr.un; omega
  have hv : (A.deeper (PyProof.Rows.envOfC "_law_ring" (defScope s__law_ring) s.heap.objs.size d__law_ring.f cdv)).units + 65 < cLine := by have := hr.un; omega
  have lr : rg.length ≤ n := nodup_le R.nd R.lt
  have l3 := R.len
  refine ⟨_, (pss_cons (ps_if (PW.pt (pw_or (pt_not (pt_truthK (K := K) rfl (pe_callB (call_isinstK (K := K) rfl) rfl B.isinstance (by decide +kernel) (pa_cons (pv 0) (pa_cons (pe_bltn (v := .ty "tuple") (u := .type "tuple") rfl B.tuple (by decide +kernel) rfl) pa_nil))) (fun _ => rfl))) (pw_or (pt_cmpR op_ne (pe_callB (call_lenK (K := K) rfl) rfl B.len (by decide +kernel) (pa_cons (pv 0) pa_nil)) pe_int (nomark _)) (pw_or (pt_cmpR op_ne (pe_ix (ix_tupK (K := K) rfl) (pv 0) pe_int (fun _ _ => rfl)) pe_str (nomark _)) (pw_or1 (pt_not (pt_truthK (K := K) rfl (pe_callB (call_isinstK (K := K) rfl) rfl B.isinstance (by decide +kernel) (pa_cons (pe_ix (ix_tupK (K := K) rfl) (pv 0) pe_int (fun _ _ => rfl)) (pa_cons (pe_bltn (v := .ty "list") (u := .type "list") rfl B.list (by decide +kernel) rfl) pa_nil))) (fun _ => rfl))))))))
      (pss_one (ps_ret pe_bl))
      pss_nil)
      (pss_cons (ps_set (i := 3) sc__law_ring.nd rfl (Or.inl rfl) (pe_ix (ix_tupK (K := K) rfl) (pv 0) pe_int (fun _ _ => rfl)))
      (pss_cons (ps_if (PW.pt (pw_or (pt_cmpR op_lt (pe_callB (call_lenK (K := K) rfl) rfl B.len (by decide +kernel) (pa_cons (pv 3) pa_nil)) pe_int (nomark _)) (pw_or1 (pt_cmpR op_ne (pe_callB (call_lenS2 (w := w) rfl) rfl B.len (by decide +kernel) (pa_cons (pe_callTy (call_setS (K := K) (w := w) rfl rfl rfl) rfl B.set (by decide +kernel) (pa_cons (pv 3) pa_nil)) pa_nil)) (pe_callB (call_lenK (K := K) rfl) rfl B.len (by decide +kernel) (pa_cons (pv 3) pa_nil)) (nomark _)))))
      (pss_one (ps_ret pe_bl))
      pss_nil)
      (pss_cons (ps_for PassesOwn.never rfl (pi_range1 rfl B.range (pa_cons (pe_callB (call_lenK (K := K) rfl) rfl B.len (by decide +kernel) (pa_cons (pv 3) pa_nil)) pa_nil)) (pg_name (i := 4) sc__law_ring.nd rfl (Or.inl rfl))
      (pss_cons (ps_set (i := 5) sc__law_ring.nd rfl (Or.inl rfl) (pe_ix (ix_listK (K := K) rfl) (pv 3) (pv 4) (fun _ _ => rfl)))
      (pss_cons (ps_set (i := 6) sc__law_ring.nd rfl (Or.inl rfl) (pe_ix (ix_listK (K := K) rfl) (pv 3) (pe_op op_sub (pv 4) pe_int) (fun _ _ => rfl)))
      (pss_one (ps_if (PW.pt (pw_or (pt_not (pt_truthK (K := K) rfl (pe_call G__law_whole hr rfl d__law_whole.m d__law_whole.F.kp d__law_whole.b .nil pass0 (pa_cons (pv 5) pa_nil)) (fun _ => rfl))) (pw_or1 (pt_cmpR (op_notInDK (K := K) rfl hv) (pe_tupN (pa_cons (pe_callB (call_min2 rfl) rfl B.min (by decide +kernel) (pa_cons (pv 5) (pa_cons (pv 6) pa_nil))) (pa_cons (pe_callB (call_max2 rfl) rfl B.max (by decide +kernel) (pa_cons (pv 5) (pa_cons (pv 6) pa_nil))) pa_nil))) (pv 2) (by with_unfolding_all rfl)))))
      (pss_one (ps_ret pe_bl))
      pss_nil)))))
      (pss_one (ps_ret pe_bl)))))), ?_⟩
  refine ⟨_, rfl, _, _, _, _, _, rfl, rfl, TyOf.tup hF, kitTT, _, rfl, iteF ?_⟩
  refine ⟨_, rfl, f, _, rfl, .inr (SqT.of hF), rfl, _, rfl, iteF ?_⟩
  refine ⟨_, rfl, f, _, _, _, rfl, rfl, SqT.of hF, atI_nat (j := 0) rfl, rfl, _, rfl, iteF ?_⟩
  refine ⟨_, rfl, f, _, _, _, rfl, rfl, SqT.of hF, atI_nat (j := 1) rfl, _, _, _, _, _, rfl, rfl, TyOf.lst hU, kitLL, _, rfl, iteF ?_⟩
  refine ⟨_, rfl, f, _, _, _, rfl, rfl, SqT.of hF, atI_nat (j := 1) rfl, ?_⟩
  have hUi : SqL K H ru ((natIp rg).map V.int) := by
    have := SqL.of (K := K) hU
    rw [natV_ints] at this
    exact this
  refine ⟨_, rfl, ru, _, rfl, .inl (SqL.of hU), _, _, rfl, rfl, _, rfl, ?_⟩
  rw [show decide ((((natV rg).length : Nat) : Int) < 3) = false from decide_eq_false (by rw [natV_len]; omega)]
  refine iteF ?_
  refine ⟨_, rfl, ru, natIp rg, rfl, hUi, fun x hx => ?_, fun pS L H1 n1 hm => ?_⟩
  · obtain ⟨u, hu, rfl⟩ := mem_natIp.mp hx
    have := R.lt u hu
    omega
  refine ⟨pS, true, L, rfl, n1.here, fun ndL => ?_⟩
  have eL : L.length = rg.length := by
    refine List.Perm.length_eq ((List.perm_ext_iff_of_nodup ndL R.nd).mpr fun x => ?_)
    rw [hm x, mem_natIp]
    constructor
    · rintro ⟨u, hu, e⟩
      have : u = x := by omega
      rw [← this]; exact hu
    · exact fun h => ⟨x, h, rfl⟩
  have hU1 := n1.same _ _ hU
  refine ⟨_, rfl, ru, _, rfl, .inl (SqL.of hU1), rfl, _, rfl, ?_⟩
  rw [show (!decide (V.int ((L.length : Nat) : Int) = V.int (((natV rg).length : Nat) : Int))) = false by rw [natV_len, eL, decide_eq_true rfl]; rfl]
  refine iteF ?_
  refine ⟨_, rfl, ru, _, rfl, .inl (SqL.of hU1), _, rfl, by omega, by rw [natV_len]; omega, ?_⟩
  rw [Int.toNat_natCast, natV_len]
  have at_ : ∀ i : Nat, i < rg.length → atI (natV rg) (i : Int) = some (.int ((rg.getD i 0 : Nat) : Int)) := fun i hi => atI_nat (by
    unfold natV
    rw [List.getElem?_map, List.getElem?_eq_getElem hi, List.getD_eq_getElem?_getD, List.getElem?_eq_getElem hi]
    rfl)
  refine for_range (n := rg.length) (fun i σ H' => (∃ kk oo pp : Option V, σ = [some (.ref f), some (.int n), some (.ref r), some (.ref ru), kk, oo, pp]) ∧ Same H H') ⟨⟨_, _, _, rfl⟩, n1.same⟩ ?_ ?_
  · rintro i σ H2 hi ⟨⟨kk, oo, pp, rfl⟩, s2⟩
    have ei : (0 : Int) + (i : Int) = (i : Int) := by omega
    rw [ei]
    have hU2 := SqL.of (K := K) (s2 _ _ hU)
    refine ⟨_, rfl, _, rfl, ru, _, _, _, rfl, rfl, hU2, at_ i hi, ?_⟩
    obtain ⟨u, at2, tu⟩ : ∃ u : Nat, atI (natV rg) ((i : Int) - 1) = some (.int (u : Int)) ∧ tieT ts (rg.getD i 0) u = true := by
      rcases Nat.eq_zero_or_pos i with c | c
      · refine ⟨rg.getD (rg.length - 1) 0, ?_, ?_⟩
        · have e : ixN (natV rg).length ((i : Int) - 1) = some (rg.length - 1) := by
            unfold ixN
            rw [natV_len, if_neg (by omega), if_pos (by omega)]
            congr 1
            omega
          unfold atI
          rw [e]
          show (natV rg)[rg.length - 1]? = _
          unfold natV
          rw [List.getElem?_map, List.getElem?_eq_getElem (by omega), List.getD_eq_getElem?_getD, List.getElem?_eq_getElem (by omega)]
          rfl
        · have := R.clo
          rw [c]
          unfold tieT at this ⊢
          rw [Bool.or_comm]; exact this
      · refine ⟨rg.getD (i - 1) 0, ?_, ?_⟩
        · rw [show (i : Int) - 1 = ((i - 1 : Nat) : Int) by omega]
          exact at_ _ (by omega)
        · have := R.tie (i - 1) (by omega)
          rw [show i - 1 + 1 = i by omega] at this
          unfold tieT at this ⊢
          rw [Bool.or_comm]; exact this
    refine ⟨_, rfl, _, rfl, _, _, rfl, rfl, ru, _, _, _, rfl, rfl, hU2, at2, ?_⟩
    generalize rg.getD i 0 = x at tu ⊢
    refine ⟨_, rfl, _, _, _, _, rfl, TyOf.int _, kitII, kitIB, _, rfl, iteF ?_⟩
    refine ⟨_, rfl, _, rfl, _, _, rfl, _, rfl, _, rfl, _, _, rfl, (by show 2 ≤ 1000; decide), fun p3 H3 n3 => ?_⟩
    have et : tieI x u = (if (u : Int) < (x : Int) then (u : Int) else (x : Int), if (u : Int) > (x : Int) then (u : Int) else (x : Int)) := by
      unfold tieI
      refine Prod.ext ?_ ?_
      · show ((min x u : Nat) : Int) = _
        by_cases c : (u : Int) < (x : Int)
        · rw [if_pos c]; omega
        · rw [if_neg c]; omega
      · show ((max x u : Nat) : Int) = _
        by_cases c : (u : Int) > (x : Int)
        · rw [if_pos c]; omega
        · rw [if_neg c]; omega
    have t3 : TieL H3 (.ref p3) (tieI x u) := ⟨p3, rfl, by rw [et]; exact n3.here⟩
    have tB : TiesAt K H3 r ts := ⟨xs, (s2.trans n3.same).seq hR, Paired.mapP hq fun _ _ q => (TieL.same (s2.trans n3.same) q).v, by omega⟩
    refine ⟨_, rfl, tieD (tieI x u), ts.map tieD, (t3.v (K := K)).isD, tB.isD, shaped_tie _, shaped_ties _, _, rfl, ?_⟩
    rw [if_pos rfl, any_tie, decide_eq_true ((tieT_tieI okt).mp tu)]
    exact iteF ⟨⟨_, _, _, rfl⟩, s2.trans n3.same⟩
  · rintro σ H2 ⟨⟨kk, oo, pp, rfl⟩, s2⟩
    exact q H2 s2
set_option maxHeartbeats 8000000 in
theorem ok_law (B : Bl mg) (d_is_whole : Dn K mg "is_whole" s_is_whole ["thing"]) (d_is_below : Dn K mg "is_below" s_is_below ["n", "thing"]) (d_common : Dn K mg "common" s_common ["one", "other"]) (d_less : Dn K mg "less" s_less ["one", "other"]) (d_around : Dn K mg "around" s_around ["graph", "v"]) (d_loose_among : Dn K mg "loose_among" s_loose_among ["graph", "left"]) (d_ringed : Dn K mg "ringed" s_ringed ["graph"]) (d_ring_among : Dn K mg "ring_among" s_ring_among ["graph", "left"]) (d_pieces : Dn K mg "pieces" s_pieces ["graph", "places"]) (d_up_to : Dn K mg "up_to" s_up_to ["graph", "piece", "v"]) (d_wood : Dn K mg "wood" s_wood ["graph"]) (d__law_cell : Dn K mg "_law_cell" s__law_cell ["_law_script", "_law_k"]) (d__law_turned : Dn K mg "_law_turned" s__law_turned ["_law_script", "_law_n"]) (d__law_ties : Dn K mg "_law_ties" s__law_ties ["_law_script", "_law_n"]) (d__law_whole : Dn K mg "_law_whole" s__law_whole ["_law_thing"]) (d__law_ring : Dn K mg "_law_ring" s__law_ring ["_law_found", "_law_n", "_law_ties_here"]) (d_law : Dn K mg "law" s_law ["_law_script"]) : FnOk P w K mg base CX0 9 d_law.f d_law.fd ["_law_script"] (spLaw K) := by
  have G_wood : FnOk P w K mg base CX0 8 _ _ _ _ := ok_woodR B d_is_whole d_is_below d_common d_less d_around d_loose_among d_ringed d_ring_among d_pieces d_up_to d_wood
  have G__law_cell : FnOk P w K mg base CX0 8 _ _ _ _ := (ok__law_cell B d__law_cell).mono (by decide)
  have G__law_ties : FnOk P w K mg base CX0 8 _ _ _ _ := (ok__law_ties B d__law_cell d__law_turned d__law_ties).mono (by decide)
  have G__law_ring : FnOk P w K mg base CX0 8 _ _ _ _ := (ok__law_ring B d__law_whole d__law_ring).mono (by decide)
  refine d_law.F.ok sc_law (fun vs H Q E h => ?_) (fun cdv A outer s H vs Q E hr h => ?_)
  · obtain ⟨a, ns, rfl, _⟩ := h
    rfl
  obtain ⟨a, ns, rfl, hS, h63, q⟩ := h
  have hu : (A.deeper (PyProof.Rows.envOfC "law" (defScope s_law) s.heap.objs.size d_law.f cdv)).units + 64 < cLine := by have := hr.un; omega
  refine ⟨_, (pss_cons (ps_set (i := 1) sc_law.nd rfl (Or.inl rfl) (pe_op op_add pe_int (pe_op op_mod (pe_call G__law_cell hr rfl d__law_cell.m d__law_cell.F.kp d__law_cell.b .nil pass0 (pa_cons (pv 0) (pa_cons pe_int pa_nil))) pe_int)))
      (pss_cons (ps_set (i := 2) sc_law.nd rfl (Or.inl rfl) (pe_call G__law_ties hr rfl d__law_ties.m d__law_ties.F.kp d__law_ties.b .nil pass0 (pa_cons (pv 0) (pa_cons (pv 1) pa_nil))))
      (pss_cons (ps_for PassesOwn.never rfl (pi_range1 rfl B.range (pa_cons pe_int pa_nil)) (pg_name (i := 3) sc_law.nd rfl (Or.inl rfl))
      (pss_cons (ps_set (i := 4) sc_law.nd rfl (Or.inl rfl) (pe_tupN (pa_cons (pv 1) (pa_cons (pe_callTy (call_listN (K := K) rfl) rfl B.list (by decide +kernel) (pa_cons (pv 2) pa_nil)) pa_nil))))
      (pss_cons (ps_set (i := 5) sc_law.nd rfl (Or.inl rfl) (pe_call G_wood hr rfl d_wood.m d_wood.F.kp d_wood.b .nil pass0 (pa_cons (pv 4) pa_nil)))
      (pss_cons (ps_if (PW.pt (pw_or (pt_cmpR (op_neDK (K := K) rfl hu) (pv 4) (pe_tupN (pa_cons (pv 1) (pa_cons (pv 2) pa_nil))) (nomark _)) (pw_or1 (pt_not (pt_truthK (K := K) rfl (pe_call G__law_ring hr rfl d__law_ring.m d__law_ring.F.kp d__law_ring.b .nil pass0 (pa_cons (pv 5) (pa_cons (pv 1) (pa_cons (pv 2) pa_nil)))) (fun _ => rfl))))))
      (pss_one (ps_ret pe_bl))
      pss_nil)
      (pss_cons (ps_expr (pe_bmK (K := K) rfl PySem.F.plainAttrs_list PySem.F.slot_list_append PySem.F.type_list_append mt_appendN (pe_ix (ix_tupK (K := K) rfl) (pv 5) pe_int (fun _ _ => rfl)) (pa_cons pe_int pa_nil)))
      (pss_one (ps_asg (pv 1) (pg_sub (pe_ix (ix_tupK (K := K) rfl) (pv 5) pe_int (fun _ _ => rfl)) pe_int set_listN))))))))
      (pss_one (ps_ret pe_bl))))), ?_⟩
  refine ⟨_, rfl, a, ns, 0, rfl, hS, h63, by decide, by decide, fun z => ⟨_, _, rfl, rfl, (show (0 : Int) < _ by decide), _, _, rfl, rfl, ?_⟩⟩
  have r0 := Int.emod_nonneg z (show (8 : Int) ≠ 0 by decide)
  have r1 := Int.emod_lt_of_pos z (show (0 : Int) < 8 by decide)
  dsimp only
  obtain ⟨n, hn, n3, n10⟩ : ∃ n : Nat, 3 + z % 8 = (n : Int) ∧ 3 ≤ n ∧ n ≤ 10 := ⟨(3 + z % 8).toNat, by omega, by omega, by omega⟩
  rw [hn]
  refine ⟨_, rfl, _, rfl, a, ns, n, rfl, hS, h63, n3, n10, fun rt xs ts r0 H1 s1 f1 h1 p1 okt nd R l45 => ?_⟩
  have lx := Paired.length p1
  refine ⟨_, rfl, by decide, by decide, ?_⟩
  refine for_range (n := 2) (fun i σ H' => (∃ kk ww ff : Option V, σ = [some (.ref a), some (.int n), some (.ref rt), kk, ww, ff]) ∧ Same H1 H') ⟨⟨_, _, _, rfl⟩, Same.refl _⟩ ?_ ?_
  · rintro i σ H2 hi ⟨⟨kk, ww, ff, rfl⟩, s2⟩
    have s02 := s1.trans s2
    refine ⟨_, rfl, _, rfl, rt, _, rfl, .inl (SqL.of (s2 _ _ h1)), fun rl H3 n3 => ⟨(by show 2 ≤ 1000; decide), fun pw H4 n4 => ?_⟩⟩
    have s24 := n3.same.trans n4.same
    have s14 := s2.trans s24
    have hl4 : H4 rl = some (.lst xs) := n4.same _ _ n3.here
    have pT : ∀ {H' : Hp}, Same H1 H' → Paired (TieL H') xs ts := fun {H'} s => Paired.mapP p1 fun _ _ q => TieL.same s q
    have tA : ∀ {H' : Hp} {x : Addr}, Same H1 H' → H' x = some (.lst xs) → TiesAt K H' x ts := fun {H' x} s h => ⟨xs, SqL.of h, Paired.mapP (pT s) fun _ _ q => q.v, by omega⟩
    have hG : GraphV K H4 (.ref pw) n ts := ⟨pw, rl, rfl, SqT.of n4.here, tA s14 hl4⟩
    refine ⟨_, rfl, .ref pw, n, ts, r0, rfl, hG, okt, nd, n10, by omega, R, fun rf ru rg H5 s5 fu hu5 hf R5 => ?_⟩
    refine ⟨_, rfl, _, rfl, _, rfl, (by show 2 ≤ 1000; decide), fun p6 H6 n6 => ?_⟩
    have s46 := s5.trans n6.same
    have s16 := s14.trans s46
    have tB2 := tA s16 (s16 _ _ h1)
    refine ⟨webD n ts, webD n ts, (hG.same s46).isD, .tup (SqT.of n6.here) (.cons (.int _) (.cons tB2.isD .nil)), shaped_web _ _, shaped_web _ _, _, rfl, ?_⟩
    rw [if_pos rfl, eqv_self (shaped_web _ _)]
    refine iteF ?_
    refine ⟨_, rfl, _, rfl, _, rfl, n, rf, ru, rt, rg, xs, ts, rfl, n6.same _ _ hf, n6.same _ _ hu5, R5, n10, SqL.of (s16 _ _ h1), pT s16, okt, l45, fun H7 s7 => ⟨_, rfl, iteF ?_⟩⟩
    have hf7 := s7 _ _ (n6.same _ _ hf)
    have hu7 := s7 _ _ (n6.same _ _ hu5)
    have fu1 : H1 ru = none := s14.free fu
    have lrg : rg.length ≤ n := nodup_le R5.nd R5.lt
    refine ⟨_, rfl, rf, _, _, _, rfl, rfl, SqT.of hf7, atI_nat (j := 1) rfl, .inl ⟨rfl, _, SqL.of hu7⟩, ru, _, _, rfl, rfl, hu7, by rw [natV_len]; omega, fun H8 c8 => ?_⟩
    have frn : rf ≠ ru := fun z => by rw [z, hu7] at hf7; cases hf7
    have hf8 := (c8.rest rf frn).trans hf7
    refine ⟨_, rfl, _, rfl, rf, _, _, _, rfl, rfl, SqT.of hf8, atI_nat (j := 1) rfl, ru, _, 0, 0, rfl, rfl, c8.here, ixN_nat (by rw [List.length_append]; exact Nat.succ_pos _), fun H9 c9 => ?_⟩
    exact ⟨⟨_, _, _, rfl⟩, ((s16.trans s7).chg fu1 c8).chg fu1 c9⟩
  · rintro σ H2 ⟨⟨kk, ww, ff, rfl⟩, s2⟩
    exact q H2
end

end K

open PySem PySem.W PyProof.Rows
set_option maxRecDepth 100000 in
set_option maxHeartbeats 0 in
theorem PySem.Challenge.cw_bagwood_k44_a_ring_holds : PySem.Challenge.rw_bagwood_k44_a_ring.Holds := by
  w_on; o_law; k_head; (case hw => w_witness2)
  k_fill
  refine L2.walk_ofK (l := PySem.Challenge.rw_bagwood_k44_a_ring) (n := 63) (k := 9) (x := "_law_script") (CX := L2.CX0) (sp := Lw.spLaw) rfl (by decide) rfl ⟨rfl, by decide, by decide⟩ (fun w h Y => PySem.W.kIn_of Y) ?F ?S ?C
  case F =>
    intro w mg fa h KX G hmg
    have B : L2.Bl mg := by
      refine' L2.bl_mk KX G ?z1 ?z2 ?z3 ?z4 ?z5 ?z6 ?z7 ?z8 ?z9 ?z10 ?z11 ?z12 ?z13 ?z14 ?z15 ?z16 ?z17
      all_goals k_is
    have d_is_whole : Nonempty (L2.Dn (L2.KOf KX) mg "is_whole" K.s_is_whole ["thing"]) := by
      dsimp only [L2.KOf]
      refine' L2.dn_mk1 KX G ?a ?l ?c ?k rfl (fun _ _ _ _ _ _ _ => rfl)
      (case a => k_is); (case l => k_is); (case c => k_is); (case k => k_is)
    obtain ⟨d_is_whole⟩ := d_is_whole
    have d_is_below : Nonempty (L2.Dn (L2.KOf KX) mg "is_below" K.s_is_below ["n", "thing"]) := by
      dsimp only [L2.KOf]
      refine' L2.dn_mk2 KX G ?a ?l ?c ?k rfl (fun _ _ _ _ _ _ _ _ => rfl)
      (case a => k_is); (case l => k_is); (case c => k_is); (case k => k_is)
    obtain ⟨d_is_below⟩ := d_is_below
    have d_common : Nonempty (L2.Dn (L2.KOf KX) mg "common" K.s_common ["one", "other"]) := by
      dsimp only [L2.KOf]
      refine' L2.dn_mk2 KX G ?a ?l ?c ?k rfl (fun _ _ _ _ _ _ _ _ => rfl)
      (case a => k_is); (case l => k_is); (case c => k_is); (case k => k_is)
    obtain ⟨d_common⟩ := d_common
    have d_less : Nonempty (L2.Dn (L2.KOf KX) mg "less" K.s_less ["one", "other"]) := by
      dsimp only [L2.KOf]
      refine' L2.dn_mk2 KX G ?a ?l ?c ?k rfl (fun _ _ _ _ _ _ _ _ => rfl)
      (case a => k_is); (case l => k_is); (case c => k_is); (case k => k_is)
    obtain ⟨d_less⟩ := d_less
    have d_around : Nonempty (L2.Dn (L2.KOf KX) mg "around" K.s_around ["graph", "v"]) := by
      dsimp only [L2.KOf]
      refine' L2.dn_mk2 KX G ?a ?l ?c ?k rfl (fun _ _ _ _ _ _ _ _ => rfl)
      (case a => k_is); (case l => k_is); (case c => k_is); (case k => k_is)
    obtain ⟨d_around⟩ := d_around
    have d_loose_among : Nonempty (L2.Dn (L2.KOf KX) mg "loose_among" K.s_loose_among ["graph", "left"]) := by
      dsimp only [L2.KOf]
      refine' L2.dn_mk2 KX G ?a ?l ?c ?k rfl (fun _ _ _ _ _ _ _ _ => rfl)
      (case a => k_is); (case l => k_is); (case c => k_is); (case k => k_is)
    obtain ⟨d_loose_among⟩ := d_loose_among
    have d_ringed : Nonempty (L2.Dn (L2.KOf KX) mg "ringed" K.s_ringed ["graph"]) := by
      dsimp only [L2.KOf]
      refine' L2.dn_mk1 KX G ?a ?l ?c ?k rfl (fun _ _ _ _ _ _ _ => rfl)
      (case a => k_is); (case l => k_is); (case c => k_is); (case k => k_is)
    obtain ⟨d_ringed⟩ := d_ringed
    have d_ring_among : Nonempty (L2.Dn (L2.KOf KX) mg "ring_among" K.s_ring_among ["graph", "left"]) := by
      dsimp only [L2.KOf]
      refine' L2.dn_mk2 KX G ?a ?l ?c ?k rfl (fun _ _ _ _ _ _ _ _ => rfl)
      (case a => k_is); (case l => k_is); (case c => k_is); (case k => k_is)
    obtain ⟨d_ring_among⟩ := d_ring_among
    have d_pieces : Nonempty (L2.Dn (L2.KOf KX) mg "pieces" K.s_pieces ["graph", "places"]) := by
      dsimp only [L2.KOf]
      refine' L2.dn_mk2 KX G ?a ?l ?c ?k rfl (fun _ _ _ _ _ _ _ _ => rfl)
      (case a => k_is); (case l => k_is); (case c => k_is); (case k => k_is)
    obtain ⟨d_pieces⟩ := d_pieces
    have d_up_to : Nonempty (L2.Dn (L2.KOf KX) mg "up_to" K.s_up_to ["graph", "piece", "v"]) := by
      dsimp only [L2.KOf]
      refine' L2.dn_mk3 KX G ?a ?l ?c ?k rfl (fun _ _ _ _ _ _ _ _ _ => rfl)
      (case a => k_is); (case l => k_is); (case c => k_is); (case k => k_is)
    obtain ⟨d_up_to⟩ := d_up_to
    have d_wood : Nonempty (L2.Dn (L2.KOf KX) mg "wood" K.s_wood ["graph"]) := by
      dsimp only [L2.KOf]
      refine' L2.dn_mk1 KX G ?a ?l ?c ?k rfl (fun _ _ _ _ _ _ _ => rfl)
      (case a => k_is); (case l => k_is); (case c => k_is); (case k => k_is)
    obtain ⟨d_wood⟩ := d_wood
    have d__law_cell : Nonempty (L2.Dn (L2.KOf KX) mg "_law_cell" K.s__law_cell ["_law_script", "_law_k"]) := by
      dsimp only [L2.KOf]
      refine' L2.dn_mk2 KX G ?a ?l ?c ?k rfl (fun _ _ _ _ _ _ _ _ => rfl)
      (case a => k_is); (case l => k_is); (case c => k_is); (case k => k_is)
    obtain ⟨d__law_cell⟩ := d__law_cell
    have d__law_turned : Nonempty (L2.Dn (L2.KOf KX) mg "_law_turned" K.s__law_turned ["_law_script", "_law_n"]) := by
      dsimp only [L2.KOf]
      refine' L2.dn_mk2 KX G ?a ?l ?c ?k rfl (fun _ _ _ _ _ _ _ _ => rfl)
      (case a => k_is); (case l => k_is); (case c => k_is); (case k => k_is)
    obtain ⟨d__law_turned⟩ := d__law_turned
    have d__law_ties : Nonempty (L2.Dn (L2.KOf KX) mg "_law_ties" K.s__law_ties ["_law_script", "_law_n"]) := by
      dsimp only [L2.KOf]
      refine' L2.dn_mk2 KX G ?a ?l ?c ?k rfl (fun _ _ _ _ _ _ _ _ => rfl)
      (case a => k_is); (case l => k_is); (case c => k_is); (case k => k_is)
    obtain ⟨d__law_ties⟩ := d__law_ties
    have d__law_whole : Nonempty (L2.Dn (L2.KOf KX) mg "_law_whole" K.s__law_whole ["_law_thing"]) := by
      dsimp only [L2.KOf]
      refine' L2.dn_mk1 KX G ?a ?l ?c ?k rfl (fun _ _ _ _ _ _ _ => rfl)
      (case a => k_is); (case l => k_is); (case c => k_is); (case k => k_is)
    obtain ⟨d__law_whole⟩ := d__law_whole
    have d__law_ring : Nonempty (L2.Dn (L2.KOf KX) mg "_law_ring" K.s__law_ring ["_law_found", "_law_n", "_law_ties_here"]) := by
      dsimp only [L2.KOf]
      refine' L2.dn_mk3 KX G ?a ?l ?c ?k rfl (fun _ _ _ _ _ _ _ _ _ => rfl)
      (case a => k_is); (case l => k_is); (case c => k_is); (case k => k_is)
    obtain ⟨d__law_ring⟩ := d__law_ring
    have d_law : Nonempty (L2.Dn (L2.KOf KX) mg "law" K.s_law ["_law_script"]) := by
      dsimp only [L2.KOf]
      refine' L2.dn_mk1 KX G ?a ?l ?c ?k rfl (fun _ _ _ _ _ _ _ => rfl)
      (case a => k_is); (case l => k_is); (case c => k_is); (case k => k_is)
    obtain ⟨d_law⟩ := d_law
    exact L2.law_at hmg d_law fun base => K.ok_law B d_is_whole d_is_below d_common d_less d_around d_loose_among d_ringed d_ring_among d_pieces d_up_to d_wood d__law_cell d__law_turned d__law_ties d__law_whole d__law_ring d_law
  case S => exact fun K H a ns hl hO hS => ⟨a, ns, rfl, Lw.Scr.of hO hS, hl, fun _ => rfl⟩
  case C => exact fun _ _ _ _ z => z

