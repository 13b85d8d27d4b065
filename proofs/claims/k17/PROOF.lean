import PyProof.Rows.All
import Wide.All
import OpenK.AllK
import Wide.FinOn
import Lean
import PyProof.EqAt
import PyProof.EqKinds
import PyProof.TupleCall
import PyProof.SetScanFacts
import PyProof.SetKind
import PyProof.DictKinds
import PyProof.FactsAll.set_0
import PyProof.FactsAll.set_1
import PyProof.FactsAll.set_2
import PyProof.FactsAll.set_3
import PyProof.FactsSeq
import PyProof.CollectWalk
import PyProof.ListRange
import PyProof.ZipIter
import PyProof.MeetsSeq
import PyProof.IsRules
import PyProof.Rows.ZipGen
import PyProof.SumWalkG
import PyProof.DictWalks
import PyProof.Rows.SortShell
import PyProof.Rows.SetFrom
import PySem.Challenge.RW_bagwood_k17_whole_touching_sets_meet
set_option Elab.async false
set_option linter.all false
set_option maxRecDepth 100000
local macro_rules | `(tactic| omega) => `(tactic| first | lia | omega (config := {}))
/-! THE HAND LAYER, for ints, bools, texts, own classes, LISTS and tuples (index, slices, in, append, pop ..), calls, loops. Paste it whole ahead of your own text; what your proof does not reach may be deleted. -/
namespace L2
open PySem PySem.Spec PyProof.Rows

/-- a key: an int or a str -/
abbrev Key := Sum Int Str
def keyIs : Key → Value → Bool
  | .inl k, v => Value.isInt k v
  | .inr x, v => Value.isStrOf x v
def keyH (w : World) : Key → Int
  | .inl k => hashInt k
  | .inr x => hashStr w x
theorem keyIs_shape : ∀ {k : Key} {v : Value}, keyIs k v = true → (∃ i t, k = Sum.inl i ∧ v = Value.int i t) ∨ (∃ x t, k = Sum.inr x ∧ v = Value.str x t)
  | .inl i, v, h => by
    obtain ⟨t, e⟩ := Value.isInt_shape (k := i) (v := v) h
    exact .inl ⟨i, t, rfl, e⟩
  | .inr x, v, h => by
    obtain ⟨t, e⟩ := Value.isStrOf_shape (x := x) (v := v) h
    exact .inr ⟨x, t, rfl, e⟩
theorem key_ll (a b : Int) : decide ((Sum.inl a : Key) = Sum.inl b) = (a == b) := by
  by_cases e : a = b
  · subst e; simp
  · have h : ¬ (Sum.inl a : Key) = Sum.inl b := fun q => e (Sum.inl.inj q)
    rw [decide_eq_false h]
    exact (beq_eq_false_iff_ne.mpr e).symm
theorem key_rr (a b : Str) : decide ((Sum.inr a : Key) = Sum.inr b) = decide (a = b) := by
  by_cases e : a = b
  · subst e; simp
  · have h : ¬ (Sum.inr a : Key) = Sum.inr b := fun q => e (Sum.inr.inj q)
    rw [decide_eq_false h, decide_eq_false e]
theorem key_lr (a : Int) (b : Str) : decide ((Sum.inl a : Key) = Sum.inr b) = false := decide_eq_false (fun q => nomatch q)
theorem key_rl (a : Str) (b : Int) : decide ((Sum.inr a : Key) = Sum.inl b) = false := decide_eq_false (fun q => nomatch q)

def mixKind (prog : Program) (w : World) : PySem.KeyKind prog w Key where
  is := keyIs
  hash := keyH w
  inj := fun v a b ha hb => by
    rcases keyIs_shape ha with ⟨i, t, rfl, rfl⟩ | ⟨x, t, rfl, rfl⟩
    · rcases keyIs_shape hb with ⟨j, u, rfl, e⟩ | ⟨y, u, rfl, e⟩
      · injection e with e1 _; rw [e1]
      · exact nomatch e
    · rcases keyIs_shape hb with ⟨j, u, rfl, e⟩ | ⟨y, u, rfl, e⟩
      · exact nomatch e
      · injection e with e1 _; rw [e1]
  byValue := fun k v h => by
    rcases keyIs_shape h with ⟨i, t, rfl, rfl⟩ | ⟨x, t, rfl, rfl⟩ <;> rfl
  pyHash := fun hv h => by
    rcases keyIs_shape hv with ⟨i, t, rfl, rfl⟩ | ⟨x, t, rfl, rfl⟩
    · exact wpAny_pyHash_int h
    · exact wpAny_pyHash_str h
  eqBool := fun hu hv h => by
    rcases keyIs_shape hu with ⟨i, t, rfl, rfl⟩ | ⟨x, t, rfl, rfl⟩
    · rcases keyIs_shape hv with ⟨j, u, rfl, rfl⟩ | ⟨y, u, rfl, rfl⟩
      · rw [key_ll] at h; exact wpAny_eqBool_int h
      · rw [key_lr] at h; exact SeqAt.EqAt.int_str i t y u _ _ _ _ h
    · rcases keyIs_shape hv with ⟨j, u, rfl, rfl⟩ | ⟨y, u, rfl, rfl⟩
      · rw [key_rl] at h; exact SeqAt.EqAt.str_int x t j u _ _ _ _ h
      · rw [key_rr] at h; exact wpAny_eqBool_str h
  «strs» := fun k x t v h => by
    rcases keyIs_shape h with ⟨i, u, rfl, e⟩ | ⟨y, u, rfl, e⟩
    · exact nomatch e
    · injection e with e1 _
      subst e1
      cases v <;> rfl

end L2

namespace L2
open PySem PySem.Spec PyProof.Rows

/-- a value, without the heap -/
inductive V where
  | non | bl (b : Bool) | int (i : Int) | str (x : Str) | byt (b : Array UInt8) | flt (b : UInt64) | ref (a : Addr) | ty (n : String)
  deriving DecidableEq

def RelV : V → Value → Prop
  | .non, u => u = Value.none
  | .bl b, u => u = Value.bool b
  | .int i, u => ∃ t, u = Value.int i t
  | .str x, u => ∃ t, u = Value.str x t
  | .byt b, u => ∃ t, u = Value.bytes b t
  | .flt b, u => ∃ t, u = Value.float b t
  | .ref a, u => u = Value.ref a
  | .ty n, u => u = Value.type n

abbrev Vals : List V → List Value → Prop := Paired RelV
theorem Vals.length {xs : List V} {us : List Value} (r : Vals xs us) : xs.length = us.length := Paired.length r
theorem Vals.get : ∀ {xs : List V} {us : List Value} {i : Nat} {x : V}, Vals xs us → xs[i]? = some x → ∃ u, us[i]? = some u ∧ RelV x u
  | _, _, _, _, .nil, e => by simp at e
  | _, _, 0, _, .cons r _, e => by simp at e; subst e; exact ⟨_, rfl, r⟩
  | _, _, i + 1, x, .cons _ t, e => by
    obtain ⟨u, h1, h2⟩ := Vals.get (i := i) (x := x) t (by simpa using e)
    exact ⟨u, by simpa using h1, h2⟩
theorem Vals.append : ∀ {xs ys : List V} {us ws : List Value}, Vals xs us → Vals ys ws → Vals (xs ++ ys) (us ++ ws)
  | _, _, _, _, .nil, s => s
  | _, _, _, _, .cons r t, s => .cons r (Vals.append t s)
theorem Vals.take : ∀ {xs : List V} {us : List Value} (n : Nat), Vals xs us → Vals (xs.take n) (us.take n)
  | _, _, 0, _ => .nil
  | _, _, _ + 1, .nil => .nil
  | _, _, n + 1, .cons r t => .cons r (Vals.take n t)
theorem Vals.drop : ∀ {xs : List V} {us : List Value} (n : Nat), Vals xs us → Vals (xs.drop n) (us.drop n)
  | _, _, 0, r => r
  | _, _, _ + 1, .nil => .nil
  | _, _, n + 1, .cons _ t => Vals.drop n t

def RelO : Option V → Option Value → Prop
  | some v, some u => RelV v u
  | none, none => True
  | _, _ => False
def KV {κ : Type} : List (κ × V) → List (κ × Value) → Prop := Paired fun (p : κ × V) (q : κ × Value) => p.1 = q.1 ∧ RelV p.2 q.2

/-- a key of a dict (00_mix): an int or a text -/
def kV : Key → V
  | .inl i => .int i
  | .inr x => .str x

/-- what stands at a tracked address -/
inductive HO where
  /-- a list -/
  | lst (xs : List V)
  /-- a tuple (never changes) -/
  | tup (xs : List V)
  /-- a dict whose keys are ints and texts; one whose keys are tuples of ints and texts (the empty one is both) -/
  | dK (kvs : List (Key × V)) | dT (kvs : List (List Key × V))
  /-- a set of ints: its members, its size -/
  | set (S : Int → Bool) (n : Nat)
  /-- an instance of the class at C, its dict at dx, its attributes -/
  | ins (C dx : Addr) (fs : List (Str × V))
  /-- the dict of the instance at x -/
  | own (x : Addr)
  /-- the dict of an exception -/
  | xd (fs : List (Str × V))
  /-- a bound method, f of x -/
  | met (f x : Addr)
  /-- a range object lo, lo + 1, .. below hi -/
  | rng (lo hi : Int)
  /-- a thing that is known to the object (the script; a dict while a loop walks it): read, never written while it is so -/
  | frz (o : Obj) (u : HO)
  /-- a code object's table -/
  | tbl (ps : Array Value)
  /-- any other thing, by what is true of its one object (a def of one's own: SetO a S n := HO.ext fun h => ..) -/
  | ext (φ : Heap → Prop)

abbrev Hp := Addr → Option HO
def upd (H : Hp) (a : Addr) (o : HO) : Hp := fun b => if b = a then some o else H b
theorem upd_same {H : Hp} {a : Addr} {o : HO} : upd H a o a = some o := by unfold upd; rw [if_pos rfl]
theorem upd_ne {H : Hp} {a b : Addr} {o : HO} (h : b ≠ a) : upd H a o b = H b := by unfold upd; rw [if_neg h]
/-- two objects of different content stand apart -/
theorem ne_of {H : Hp} {a b : Addr} {o u : HO} (h : H a = some o) (h' : H b = some u) (d : o ≠ u) : a ≠ b := by
  intro e; subst e; rw [h] at h'; exact d (Option.some.inj h')
theorem ne_of_none {H : Hp} {a b : Addr} {o : HO} (h : H a = some o) (h' : H b = none) : a ≠ b := by
  intro e; subst e; rw [h] at h'; cases h'

section
variable (P : Program) (w : World)
def ObjOk (H : Hp) (h : Heap) (a : Addr) : HO → Prop
  | .lst xs => xs.length ≤ sizeLine ∧ ∃ (its : List Value) (n : Nat), Vals xs its ∧ h.get? a = some { cls := .type "list", data := .seq its.toArray n }
  | .tup xs => xs.length ≤ sizeLine ∧ ∃ its : List Value, Vals xs its ∧ IsTup h a its.toArray
  | .dK kvs => kvs.length ≤ sizeLine ∧ (a == sysModules) = false ∧ ∃ vs, KV kvs vs ∧ h.DictOf (mixKind P w) a vs
  | .dT kvs => kvs.length ≤ sizeLine ∧ (a == sysModules) = false ∧ ∃ xs : List (List Key × Addr × Value),
      Paired (fun (p : List Key × V) (q : List Key × Addr × Value) => p.1 = q.1 ∧ H q.2.1 = some (.tup (p.1.map kV)) ∧ RelV p.2 q.2.2) kvs xs ∧
      ∃ o es ep, h.get? a = some o ∧ o.ExactDict ∧ o.data = .dict es ep ∧ es.toList = xs.map (entryOfKey (tupleKind (mixKind P w))) ∧ (xs.map (·.1)).Nodup
  | .set S n => h.SetOf (intKind P w) a S n
  | .ins C dx fs => H dx = some (.own a) ∧ fs.length ≤ 1000 ∧ dx ≠ a ∧ h.get? a = some (PySem.W.instObj C dx) ∧
      ∃ mA, h.Ns1 dx mA ∧ (∀ f, RelO (fs.lookup f) (mA f)) ∧ PySem.Within mA (fs.map (·.1))
  | .own _ => ∃ o, h.get? a = some o
  | .xd fs => ∃ mA, h.Ns1 a mA ∧ ∀ f, RelO (fs.lookup f) (mA f)
  | .rng lo hi => ∃ t u v, h.get? a = some { cls := .type "range", data := .fields #[.int lo t, .int hi u, .int 1 v] }
  | .frz o u => h.get? a = some o ∧ ObjOk H h a u
  | .tbl ps => h.get? a = some { cls := .none, data := .fields ps }
  | .met f x => h.get? a = some (PySem.W.methodObj (.ref f) (.ref x))
  | .ext φ => φ h ∧ (∃ o, h.get? a = some o) ∧ ∀ h1 h2 : Heap, φ h1 → (∀ o, h1.get? a = some o → h2.get? a = some o) → φ h2
/-- the abstract heap is held -/
def HOk (H : Hp) (h : Heap) : Prop := ∀ a o, H a = some o → ObjOk P w H h a o
end

section
variable {P : Program} {w : World} {H H' : Hp} {h h' : Heap} {a : Addr} {o : HO}
theorem ObjOk.lt (x : ObjOk P w H h a o) : a < h.objs.size := by
  cases o with
  | lst xs => obtain ⟨_, _, _, _, e⟩ := x; exact Heap.lt_size e
  | tup xs => obtain ⟨_, _, _, p⟩ := x; exact p.lt
  | dK kvs => obtain ⟨_, _, _, _, o, _, _, e, _⟩ := x; exact Heap.lt_size e
  | dT kvs => obtain ⟨_, _, _, _, o, _, _, e, _⟩ := x; exact Heap.lt_size e
  | set S n => obtain ⟨o, _, _, _, e, _⟩ := x; exact Heap.lt_size e
  | ins C dx fs => obtain ⟨_, _, _, e, _⟩ := x; exact Heap.lt_size e
  | own y => obtain ⟨_, e⟩ := x; exact Heap.lt_size e
  | xd fs => obtain ⟨_, ⟨_, _, _, e, _⟩, _⟩ := x; exact Heap.lt_size e
  | rng lo hi => obtain ⟨_, _, _, e⟩ := x; exact Heap.lt_size e
  | frz ob u => obtain ⟨e, _⟩ := x; exact Heap.lt_size e
  | tbl ps => exact Heap.lt_size (show h.get? a = some _ from x)
  | met f y => exact Heap.lt_size (show h.get? a = some _ from x)
  | ext φ => obtain ⟨_, ⟨_, e⟩, _⟩ := x; exact Heap.lt_size e
theorem Paired.mapP {α β : Type} {F G : α → β → Prop} : ∀ {l₁ : List α} {l₂ : List β}, Paired F l₁ l₂ → (∀ a b, F a b → G a b) → Paired G l₁ l₂
  | _, _, .nil, _ => .nil
  | _, _, .cons r t, f => .cons (f _ _ r) (Paired.mapP t f)
/-- what an object's description leans on: its own object, its own dict, the tuples -/
theorem ObjOk.stay (x : ObjOk P w H h a o) (k : ∀ b u, (b = a ∨ H b = some (.own a)) → h.get? b = some u → h'.get? b = some u)
    (ho : ∀ b, H b = some (.own a) → H' b = some (.own a)) (ht : ∀ b xs, H b = some (.tup xs) → H' b = some (.tup xs)) : ObjOk P w H' h' a o := by
  induction o with
  | lst xs => obtain ⟨z, its, n, r, e⟩ := x; exact ⟨z, its, n, r, k _ _ (.inl rfl) e⟩
  | tup xs => obtain ⟨z, its, r, ob, e, c⟩ := x; exact ⟨z, its, r, ob, k _ _ (.inl rfl) e, c⟩
  | dK kvs => obtain ⟨z, y, vs, r, ob, es, ep, e, c⟩ := x; exact ⟨z, y, vs, r, ob, es, ep, k _ _ (.inl rfl) e, c⟩
  | dT kvs =>
    obtain ⟨z, y, xs, r, ob, es, ep, e, c⟩ := x
    exact ⟨z, y, xs, Paired.mapP r fun p q z => ⟨z.1, ht _ _ z.2.1, z.2.2⟩, ob, es, ep, k _ _ (.inl rfl) e, c⟩
  | set S n => obtain ⟨ob, es, ep, t, e, c⟩ := x; exact ⟨ob, es, ep, t, k _ _ (.inl rfl) e, c⟩
  | ins C dx fs =>
    obtain ⟨d, z, ne, e, mA, ⟨od, es, ep, e2, c⟩, r⟩ := x
    exact ⟨ho _ d, z, ne, k _ _ (.inl rfl) e, mA, ⟨od, es, ep, k _ _ (.inr d) e2, c⟩, r⟩
  | own y => obtain ⟨ob, e⟩ := x; exact ⟨ob, k _ _ (.inl rfl) e⟩
  | xd fs => obtain ⟨mA, ⟨od, es, ep, e, c⟩, r⟩ := x; exact ⟨mA, ⟨od, es, ep, k _ _ (.inl rfl) e, c⟩, r⟩
  | rng lo hi => obtain ⟨t, u, v, e⟩ := x; exact ⟨t, u, v, k _ _ (.inl rfl) e⟩
  | frz ob u ih => obtain ⟨e, q⟩ := x; exact ⟨k _ _ (.inl rfl) e, ih q⟩
  | tbl ps =>
    have e : h.get? a = some { cls := .none, data := .fields ps } := x
    show h'.get? a = some { cls := .none, data := .fields ps }
    exact k a _ (.inl rfl) e
  | met f y =>
    have e : h.get? a = some (PySem.W.methodObj (.ref f) (.ref y)) := x
    show h'.get? a = some (PySem.W.methodObj (.ref f) (.ref y))
    exact k a _ (.inl rfl) e
  | ext φ => obtain ⟨p, ⟨o, e⟩, st⟩ := x; exact ⟨st _ _ p fun o q => k _ _ (.inl rfl) q, ⟨o, k _ _ (.inl rfl) e⟩, st⟩
theorem HOk.lt (x : HOk P w H h) (e : H a = some o) : a < h.objs.size := (x a o e).lt
theorem HOk.fresh (x : HOk P w H h) (e : h.objs.size ≤ a) : H a = none := by
  cases q : H a with
  | none => rfl
  | some u => exact absurd (Nat.lt_of_lt_of_le (x.lt q) e) (Nat.lt_irrefl _)
/-- every object of the heap is kept -/
theorem HOk.kept (x : HOk P w H h) (k : ∀ b u, h.get? b = some u → h'.get? b = some u) : HOk P w H h' := fun a o e =>
  (x a o e).stay (fun b u _ q => k b u q) (fun _ q => q) fun _ _ q => q
/-- a new object is laid and tracked -/
theorem HOk.laid (x : HOk P w H h) (k : ∀ b u, h.get? b = some u → h'.get? b = some u) (hp : h.objs.size ≤ a) (new : ObjOk P w (upd H a o) h' a o) : HOk P w (upd H a o) h' := fun b u e => by
  have hn := x.fresh hp
  by_cases hb : b = a
  · subst hb; rw [upd_same] at e; cases e; exact new
  · rw [upd_ne hb] at e
    exact (x b u e).stay (fun c v _ q => k c v q) (fun c q => by rw [upd_ne (ne_of_none q hn)]; exact q) fun c xs q => by rw [upd_ne (ne_of_none q hn)]; exact q
end

/-- what may be read as u: it is u, or a known u -/
def Rd (H : Hp) (a : Addr) (u : HO) : Prop := H a = some u ∨ ∃ o, H a = some (.frz o u)
theorem Rd.ok {P : Program} {w : World} {H : Hp} {h : Heap} {a : Addr} {u : HO} (r : Rd H a u) (x : HOk P w H h) : ObjOk P w H h a u := by
  rcases r with r | ⟨o, r⟩
  · exact x a u r
  · obtain ⟨_, q⟩ := x a _ r
    exact q
/-- what may be written -/
def Mut : Option HO → Prop
  | some (.lst _) => True
  | some (.dK _) => True
  | some (.dT _) => True
  | some (.set _ _) => True
  | some (.ins _ _ _) => True
  | some (.ext _) => True
  | _ => False
section
variable {P : Program} {w : World} {H : Hp} {h h' : Heap} {x e : Addr} {o' : HO}
/-- the object at e is changed: x itself, or the dict of the instance x -/
theorem HOk.write (ok : HOk P w H h) (mu : Mut (H x)) (he : e = x ∨ H e = some (.own x)) (k : ∀ b u, b ≠ e → h.get? b = some u → h'.get? b = some u) (heo : ∃ u, h'.get? e = some u)
    (new : ObjOk P w (upd H x o') h' x o') : HOk P w (upd H x o') h' := fun b u q => by
  have nown : ∀ c y, H c = some (.own y) → c ≠ x := fun c y r z => by subst z; rw [r] at mu; exact mu
  have ntup : ∀ c xs, H c = some (.tup xs) → c ≠ x := fun c xs r z => by subst z; rw [r] at mu; exact mu
  by_cases hb : b = x
  · subst hb; rw [upd_same] at q; cases q; exact new
  · rw [upd_ne hb] at q
    by_cases hbe : b = e
    · have q' : H b = some (.own x) := by
        rcases he with z | z
        · exact absurd (hbe.trans z) hb
        · rw [hbe]; exact z
      rw [q] at q'; cases q'
      obtain ⟨v, hv⟩ := heo
      exact ⟨v, by rw [hbe]; exact hv⟩
    · refine (ok b u q).stay (fun c v hc r => k c v ?_ r) (fun c r => by rw [upd_ne (nown c b r)]; exact r) fun c xs r => by rw [upd_ne (ntup c xs r)]; exact r
      rcases hc with rfl | hc
      · exact hbe
      · rintro rfl
        rcases he with z | z
        · exact nown c b hc z
        · rw [hc] at z; cases z; exact hb rfl
end

/-! ### kept unless tracked; of the frames at fs (the callers') the slots may change (an exception that passes writes there); of the records at ex (iterators) nothing is said -/
structure Un (fs ex : List Addr) (H H' : Hp) (h h' : Heap) : Prop where
  keep : ∀ b o, h.get? b = some o → H b = none → b ∉ fs → b ∉ ex → h'.get? b = some o
  slot : ∀ b o, h.get? b = some o → H b = none → b ∈ fs → b ∉ ex → ∃ sl, h'.get? b = some { o with slots := sl }
  free : ∀ b o, h.get? b = some o → H b = none → b ∉ ex → H' b = none
  there : ∀ b o, h.get? b = some o → b ∉ ex → ∃ o', h'.get? b = some o'
  tups : ∀ b xs, H b = some (.tup xs) → H' b = some (.tup xs)
  frzs : ∀ b o u, H b = some (.frz o u) → H' b = some (.frz o u)
  tbls : ∀ b ps, H b = some (.tbl ps) → ∃ more, H' b = some (.tbl (ps ++ more))
section
variable {fs fs' ex ex' : List Addr} {H H1 H2 : Hp} {h h1 h2 h' : Heap} {a x e : Addr} {o : HO}
theorem Un.any (u : Un fs ex H H1 h h1) {b : Addr} {ob : Obj} (q : h.get? b = some ob) (n : H b = none) (hx : b ∉ ex) : ∃ sl, h1.get? b = some { ob with slots := sl } := by
  by_cases hb : b ∈ fs
  · exact u.slot b ob q n hb hx
  · exact ⟨ob.slots, u.keep b ob q n hb hx⟩
theorem Un.kept (k : ∀ b u, h.get? b = some u → h'.get? b = some u) : Un fs ex H H h h' :=
  ⟨fun b ob q _ _ _ => k b ob q, fun b ob q _ _ _ => ⟨ob.slots, k b ob q⟩, fun _ _ _ n _ => n, fun b ob q _ => ⟨ob, k b ob q⟩, fun _ _ q => q, fun _ _ _ q => q, fun _ ps q => ⟨#[], by rw [q]; simp⟩⟩
theorem Un.refl : Un fs ex H H h h := Un.kept fun _ _ q => q
theorem Un.laid (k : ∀ b u, h.get? b = some u → h'.get? b = some u) (hp : h.objs.size ≤ a) (hn : H a = none) : Un fs ex H (upd H a o) h h' where
  keep := fun b u q _ _ _ => k b u q
  slot := fun b u q _ _ _ => ⟨u.slots, k b u q⟩
  free := fun b u q n _ => by rw [upd_ne (Nat.ne_of_lt (Nat.lt_of_lt_of_le (Heap.lt_size q) hp))]; exact n
  there := fun b u q _ => ⟨u, k b u q⟩
  tups := fun b xs q => by rw [upd_ne (ne_of_none q hn)]; exact q
  frzs := fun b u xs q => by rw [upd_ne (ne_of_none q hn)]; exact q
  tbls := fun b ps q => ⟨#[], by rw [upd_ne (ne_of_none q hn), q]; simp⟩
theorem Un.write (mu : Mut (H x)) (he : e = x ∨ H e = some (.own x)) (k : ∀ b u, b ≠ e → h.get? b = some u → h'.get? b = some u) (heo : ∃ u, h'.get? e = some u) : Un fs ex H (upd H x o) h h' := by
  have hx : ∀ b, H b = none → b ≠ x := fun b n z => by subst z; rw [n] at mu; exact mu
  have hb : ∀ b, H b = none → b ≠ e := fun b n z => by
    subst z
    rcases he with r | r
    · exact hx b n r
    · rw [n] at r; cases r
  have hm : ∀ b u, H b = some u → ¬ Mut (some u) → b ≠ x := fun b u q nm z => by subst z; rw [q] at mu; exact nm mu
  refine ⟨fun b u q n _ _ => k b u (hb b n) q, fun b u q n _ _ => ⟨u.slots, k b u (hb b n) q⟩, fun b u q n _ => by rw [upd_ne (hx b n)]; exact n, fun b u q _ => ?_,
    fun b xs q => by rw [upd_ne (hm b _ q fun z => z)]; exact q, fun b u xs q => by rw [upd_ne (hm b _ q fun z => z)]; exact q, fun b ps q => ⟨#[], by rw [upd_ne (hm b _ q fun z => z), q]; simp⟩⟩
  by_cases hbe : b = e
  · subst hbe; exact heo
  · exact ⟨u, k b u hbe q⟩
end

/-! ### the heap without what is tracked -/
def trk (h : Heap) (H : Hp) : List Addr := (List.range h.objs.size).filter fun a => (H a).isSome
def hidT (h : Heap) (H : Hp) : Heap := PySem.W.hideAll h (trk h H)
theorem hidT_size (h : Heap) (H : Hp) : (hidT h H).objs.size = h.objs.size := PySem.W.hideAll_size _ _
theorem hidT_get {h : Heap} {H : Hp} {b : Addr} {o : Obj} (e : h.get? b = some o) (n : H b = none) : (hidT h H).get? b = some o :=
  PySem.W.hideAll_get _ e fun hm => by
    have q : (H b).isSome = true := (List.mem_filter.mp hm).2
    rw [n] at q; simp at q
theorem of_hidT {h : Heap} {H : Hp} {b : Addr} {o : Obj} (e : (hidT h H).get? b = some o) : h.get? b = some o ∧ H b = none := by
  have e' : h.get? b = some o := PySem.W.of_hideAll (trk h H) e
  refine ⟨e', ?_⟩
  cases q : H b with
  | none => rfl
  | some x =>
    have hm : b ∈ trk h H := List.mem_filter.mpr ⟨List.mem_range.mpr (Heap.lt_size e'), by simp [q]⟩
    have z : (hidT h H).get? b = none := PySem.W.hideAll_none (trk h H) hm
    rw [z] at e; cases e

/-! ### OpenK's ledger, filled with every new object but one -/
end L2

namespace L2
open PySem PySem.Spec PyProof.Rows

/-- the module's facts, over the base: the heap at the law's entry without what is tracked there -/
structure Mod (K : PySem.W.Frag) (mg : Str → Option Value) (base : Heap) : Prop where
  kin : K.In base
  glob : base.Ns mainGlobals mg
  blt : ∃ mb, base.Ns builtinsNs mb ∧ ∀ x : Str, x ≠ "__name__" → mb x = bootBuiltins x
  nolimit : base.NoLimit

/-- the context: a def's body (or a comprehension's block) running. base: fixed through the whole law; s₀, H₀: the entry; outer: the frames whose slots others may change (a def's callers); stack: all frames that run;
   ex: iterators that were made ahead of the entry and are walked here (a comprehension's); fn: the names whose cells were made at the entry (a def: all; a comprehension's block: its own); calm: not within an except suite; pn: pins that every state bears; xe: what is wanted of an exception that leaves the code -/
structure Cx where
  prog : Program
  w : World
  K : PySem.W.Frag
  mg : Str → Option Value
  base : Heap
  A : Around
  N : List Str
  s₀ : Shared
  H₀ : Hp
  env : Env
  outer : List Env
  stack : List Env
  ex : List Addr
  fn : Str → Bool
  calm : Bool
  pn : List (Addr × Obj)
  xe : Value → Shared → Prop
/-- the callers' frames -/
def frs (l : List Env) : List Addr := l.filterMap (·.frame)
abbrev Cx.fs (X : Cx) : List Addr := frs X.outer

def Vis (sc : Scope) (x : Str) : Prop := sc.names.lookup x = some .local ∨ sc.names.lookup x = some .cell ∨ sc.names.lookup x = some .free
def Loc (sc : Scope) (x : Str) : Prop := sc.names.lookup x = some .local ∨ sc.names.lookup x = some .cell
def Look (env : Env) (h : Heap) (m : Str → Option Value) (x : Str) (u : Value) : Prop :=
  (env.kindOf x = some .local ∧ m x = some u) ∨ ((env.kindOf x = some .cell ∨ env.kindOf x = some .free) ∧ ∃ c, env.cells.lookup x = some c ∧ h.IsCell c (some u))

structure Cx.Ok (X : Cx) : Prop where
  mod : Mod X.K X.mg X.base
  kind : X.env.scope.kind = .function
  glob : X.env.globals = mainGlobals
  blt : X.env.builtins = builtinsNs
  above : X.s₀.heap.objs.size ≤ X.env.locals
  inj : ∀ x y c, X.env.cells.lookup x = some c → X.env.cells.lookup y = some c → x = y
  has : ∀ x, (X.env.kindOf x = some .cell ∨ X.env.kindOf x = some .free) → ∃ c, X.env.cells.lookup x = some c
  cab : ∀ x c, X.fn x = true → X.env.cells.lookup x = some c → X.s₀.heap.objs.size ≤ c
  hd : X.calm = true → X.A.handled = none
  frames : X.A.frames = some X.stack
  stk : X.stack = X.outer ∨ (X.stack = X.env :: X.outer ∧ X.env.frame = some X.env.locals)
  exf : ∀ b ∈ X.ex, b ≠ X.env.locals ∧ ∀ x c, X.env.cells.lookup x = some c → c ≠ b
  bs : ∀ b o, X.base.get? b = some o → X.s₀.heap.get? b = some o ∧ X.H₀ b = none
  bsz : X.base.objs.size ≤ X.s₀.heap.objs.size
  noex : ∀ b o, X.base.get? b = some o → b ∉ X.ex
  exfs : ∀ b ∈ X.ex, b ∉ X.fs
  funs : X.s₀.heap.FunFrames X.base X.outer
  frf : ∀ b ∈ X.fs, X.H₀ b = none

structure Inv (X : Cx) (pins : List (Addr × Obj)) (σ : List (Option V)) (H : Hp) (s : Shared) : Prop where
  ok : X.Ok
  os : s.os = X.s₀.os
  bare : AllBare s.gens
  base : Un X.fs X.ex X.H₀ H X.s₀.heap s.heap
  loc : ∃ m, s.heap.Ns X.env.locals m ∧ ∀ (i : Nat) (x : Str) (v : V), X.N[i]? = some x → σ[i]? = some (some v) → Vis X.env.scope x → ∃ u, RelV v u ∧ Look X.env s.heap m x u
  cell : ∀ x c, X.env.cells.lookup x = some c → ∃ v, s.heap.IsCell c v
  free : H X.env.locals = none
  freeC : ∀ x c, X.env.cells.lookup x = some c → H c = none
  pin : ∀ p ∈ X.pn ++ pins, s.heap.get? p.1 = some p.2 ∧ H p.1 = none ∧ p.1 ≠ X.env.locals ∧ p.1 ∉ X.fs ∧ ∀ v, p.2.data ≠ .cell v
  hok : HOk X.prog X.w H s.heap
  len : σ.length = X.N.length

section
variable {X : Cx} {pins : List (Addr × Obj)} {σ : List (Option V)} {H H' : Hp} {s : Shared} {h' : Heap}

theorem Cx.Ok.nofr (ok : X.Ok) {b : Addr} {o : Obj} (e : X.base.get? b = some o) : b ∉ X.fs := fun hb => by
  have := (ok.funs.mem hb).1
  rw [e] at this; cases this
theorem Inv.bs (I : Inv X pins σ H s) : ∀ b o, X.base.get? b = some o → s.heap.get? b = some o ∧ H b = none := fun b o e =>
  ⟨I.base.keep b o (I.ok.bs b o e).1 (I.ok.bs b o e).2 (I.ok.nofr e) (I.ok.noex b o e), I.base.free b o (I.ok.bs b o e).1 (I.ok.bs b o e).2 (I.ok.noex b o e)⟩
theorem Inv.bk (I : Inv X pins σ H s) : ∀ b o, X.base.get? b = some o → s.heap.get? b = some o := fun b o e => (I.bs b o e).1
theorem Inv.mod (I : Inv X pins σ H s) : Mod X.K X.mg X.base := I.ok.mod
theorem Inv.kIn (I : Inv X pins σ H s) : X.K.In s.heap := I.ok.mod.kin.keeps I.bk
theorem Inv.lt (I : Inv X pins σ H s) : X.env.locals < s.heap.objs.size := let ⟨_, hn, _⟩ := I.loc; hn.lt
theorem Inv.sz (I : Inv X pins σ H s) : X.s₀.heap.objs.size ≤ s.heap.objs.size := Nat.le_trans I.ok.above (Nat.le_of_lt I.lt)
theorem Inv.nofs (I : Inv X pins σ H s) {a : Addr} (h : s.heap.objs.size ≤ a) : a ∉ X.fs := fun hb => by
  obtain ⟨_, o, ho, _⟩ := I.ok.funs.mem hb
  exact absurd (Nat.lt_of_lt_of_le (Heap.lt_size ho) (Nat.le_trans I.sz h)) (Nat.lt_irrefl _)
theorem Inv.cne (I : Inv X pins σ H s) : ∀ x c, X.env.cells.lookup x = some c → c ≠ X.env.locals := fun x c e z => by
  obtain ⟨v, o, ho, hd⟩ := I.cell x c e
  obtain ⟨m, ⟨o', es, ep, ho', hd', _⟩, _⟩ := I.loc
  rw [z, ho'] at ho; cases ho; rw [hd'] at hd; cases hd
theorem Inv.funs (I : Inv X pins σ H s) : s.heap.FunFrames X.base X.outer := by
  have all : ∀ (l : List Env), (∀ b ∈ frs l, b ∈ X.fs) → X.s₀.heap.FunFrames X.base l → s.heap.FunFrames X.base l := by
    intro l
    induction l with
    | nil => intro _ _; trivial
    | cons env r ih =>
      intro hs hl
      obtain ⟨hk, ⟨L, o, hf, hn, ho, hd⟩, hr⟩ := hl
      have hL : L ∈ X.fs := hs L (by unfold frs; rw [List.filterMap_cons, hf]; exact List.mem_cons_self)
      obtain ⟨sl, e⟩ := I.base.slot L o ho (I.ok.frf L hL) hL fun z => I.ok.exfs L z hL
      exact ⟨hk, ⟨L, _, hf, hn, e, hd⟩, ih (fun b hb => hs b (by unfold frs; rw [List.filterMap_cons, hf]; exact List.mem_cons_of_mem _ hb)) hr⟩
  exact all X.outer (fun _ hb => hb) I.ok.funs

/-- the frames that run, for a call -/
theorem Inv.stack (I : Inv X pins σ H s) : s.heap.FunFrames X.base X.stack := by
  rcases I.ok.stk with e | ⟨e, hf⟩
  · rw [e]; exact I.funs
  · rw [e]
    obtain ⟨m, hn, _⟩ := I.loc
    refine .cons (by rw [I.ok.kind]; decide) hf hn ?_ I.funs
    exact Heap.get?_none_of_le (Nat.le_trans I.ok.bsz I.ok.above)
theorem Inv.stkSub (I : Inv X pins σ H s) : ∀ b ∈ frs X.stack, b ∈ X.env.locals :: X.fs := fun b hb => by
  rcases I.ok.stk with e | ⟨e, hf⟩
  · rw [e] at hb; exact List.mem_cons_of_mem _ hb
  · rw [e] at hb
    unfold frs at hb
    rw [List.filterMap_cons, hf] at hb
    exact hb
theorem Inv.stkFree (I : Inv X pins σ H s) : ∀ b ∈ frs X.stack, H b = none := fun b hb => by
  rcases List.mem_cons.mp (I.stkSub b hb) with e | hb
  · rw [e]; exact I.free
  · obtain ⟨_, o, ho, _⟩ := I.ok.funs.mem hb
    exact I.base.free b o ho (I.ok.frf b hb) fun z => I.ok.exfs b z hb

/-- THE STEP: the untracked objects but the frame and the records at ch are kept (the callers' frames up to slots), the frame's map is kept, the new abstract heap is held -/
theorem Inv.step {g' : Array GenState} {t' : Nat} {d' : Drawn} {ch : List Addr} (I : Inv X pins σ H s)
    (hch : ∀ b ∈ ch, (b ∈ X.ex ∨ X.s₀.heap.objs.size ≤ b) ∧ b ≠ X.env.locals ∧ (∀ x c, X.env.cells.lookup x = some c → c ≠ b) ∧ ∀ p ∈ X.pn ++ pins, p.1 ≠ b)
    (keep : ∀ b o, b ≠ X.env.locals → b ∉ X.fs → b ∉ ch → s.heap.get? b = some o → H b = none → h'.get? b = some o)
    (slot : ∀ b o, b ≠ X.env.locals → b ∈ X.fs → b ∉ ch → s.heap.get? b = some o → H b = none → ∃ sl, h'.get? b = some { o with slots := sl }) (free : ∀ b o, b ∉ ch → s.heap.get? b = some o → H b = none → H' b = none)
    (there : ∀ b o, b ∉ ch → s.heap.get? b = some o → ∃ o', h'.get? b = some o')
    (tups : ∀ b xs, H b = some (.tup xs) → H' b = some (.tup xs)) (frzs : ∀ b o u, H b = some (.frz o u) → H' b = some (.frz o u)) (tbls : ∀ b ps, H b = some (.tbl ps) → ∃ more, H' b = some (.tbl (ps ++ more)))
    (ns : ∀ m, s.heap.Ns X.env.locals m → h'.Ns X.env.locals m) (hok : HOk X.prog X.w H' h') (hg : AllBare g') :
    Inv X pins σ H' { s with heap := h', gens := g', drawn := d', toks := t' } := by
  have neL : ∀ b o, X.s₀.heap.get? b = some o → b ≠ X.env.locals := fun b o e => Nat.ne_of_lt (Nat.lt_of_lt_of_le (Heap.lt_size e) I.ok.above)
  have neC : ∀ b o, X.s₀.heap.get? b = some o → b ∉ X.ex → b ∉ ch := fun b o e hx hb => by
    rcases (hch b hb).1 with z | z
    · exact hx z
    · exact absurd (Nat.lt_of_lt_of_le (Heap.lt_size e) z) (Nat.lt_irrefl _)
  have cellK : ∀ x c, X.env.cells.lookup x = some c → ∀ v, s.heap.IsCell c v → h'.IsCell c v := fun x c e v ⟨o, ho, hd⟩ => by
    have nch : c ∉ ch := fun z => (hch c z).2.2.1 x c e rfl
    by_cases hc : c ∈ X.fs
    · obtain ⟨sl, q⟩ := slot c o (I.cne x c e) hc nch ho (I.freeC x c e)
      exact ⟨_, q, hd⟩
    · exact ⟨o, keep c o (I.cne x c e) hc nch ho (I.freeC x c e), hd⟩
  refine ⟨I.ok, I.os, hg, ⟨fun b o e n hb hx => ?_, fun b o e n hb hx => ?_, fun b o e n hx => ?_, fun b o e hx => ?_, fun b xs e => tups b xs (I.base.tups b xs e), fun b o xs e => frzs b o xs (I.base.frzs b o xs e), fun b ps e => ?_⟩, ?_, fun x c e => ?_, ?_, fun x c e => ?_, fun p hp => ?_, hok, I.len⟩
  · exact keep b o (neL b o e) hb (neC b o e hx) (I.base.keep b o e n hb hx) (I.base.free b o e n hx)
  · obtain ⟨sl, e1⟩ := I.base.slot b o e n hb hx
    obtain ⟨sl', e2⟩ := slot b _ (neL b o e) hb (neC b o e hx) e1 (I.base.free b o e n hx)
    exact ⟨sl', e2⟩
  · obtain ⟨o', e1⟩ := I.base.there b o e hx
    exact free b o' (neC b o e hx) e1 (I.base.free b o e n hx)
  · obtain ⟨o', e1⟩ := I.base.there b o e hx
    exact there b o' (neC b o e hx) e1
  · obtain ⟨m1, e1⟩ := I.base.tbls b ps e
    obtain ⟨m2, e2⟩ := tbls b _ e1
    exact ⟨m1 ++ m2, by rw [e2, Array.append_assoc]⟩
  · obtain ⟨m, hn, hl⟩ := I.loc
    refine ⟨m, ns m hn, fun i x v e1 e2 e3 => ?_⟩
    obtain ⟨u, r, l⟩ := hl i x v e1 e2 e3
    refine ⟨u, r, ?_⟩
    rcases l with l | ⟨k, c, e, z⟩
    · exact .inl l
    · exact .inr ⟨k, c, e, cellK x c e _ z⟩
  · obtain ⟨v, z⟩ := I.cell x c e
    exact ⟨v, cellK x c e v z⟩
  · obtain ⟨m, ⟨o, _, _, ho, _⟩, _⟩ := I.loc
    exact free _ o (fun z => (hch _ z).2.1 rfl) ho I.free
  · obtain ⟨v, o, ho, hd⟩ := I.cell x c e
    exact free c o (fun z => (hch c z).2.2.1 x c e rfl) ho (I.freeC x c e)
  · obtain ⟨e, n, ne, nf, d⟩ := I.pin p hp
    have nch : p.1 ∉ ch := fun z => (hch p.1 z).2.2.2 p hp rfl
    exact ⟨keep p.1 p.2 ne nf nch e n, free p.1 p.2 nch e n, ne, nf, d⟩
/-- .. where the frame's own object is kept too -/
theorem Inv.un {t' : Nat} (I : Inv X pins σ H s) (u : Un X.fs [] H H' s.heap h') (hok : HOk X.prog X.w H' h') : Inv X pins σ H' { s with heap := h', toks := t' } := by
  obtain ⟨m, ⟨o, es, ep, ho, r⟩, _⟩ := id I.loc
  obtain ⟨sl, hL⟩ := u.any ho I.free (by simp)
  exact I.step (g' := s.gens) (d' := s.drawn) (ch := []) (fun _ z => nomatch z) (fun b o _ hb _ e n => u.keep b o e n hb (by simp)) (fun b o _ hb _ e n => u.slot b o e n hb (by simp)) (fun b o _ e n => u.free b o e n (by simp)) (fun b o _ e => u.there b o e (by simp)) u.tups u.frzs u.tbls (fun m' hm => by
    obtain ⟨o', es', ep', ho', r'⟩ := hm
    rw [ho] at ho'; cases ho'
    exact ⟨_, es', ep', hL, r'⟩) hok I.bare
/-- behind a call (or a comprehension's block): the slots of this frame may have changed too, the records at ch may have turned -/
theorem Inv.call {g' : Array GenState} {t' : Nat} {d' : Drawn} {ch : List Addr} (I : Inv X pins σ H s) (u : Un (frs X.stack) ch H H' s.heap h') (hok : HOk X.prog X.w H' h') (hg : AllBare g')
    (hch : ∀ b ∈ ch, (b ∈ X.ex ∨ X.s₀.heap.objs.size ≤ b) ∧ b ≠ X.env.locals ∧ (∀ x c, X.env.cells.lookup x = some c → c ≠ b) ∧ ∀ p ∈ X.pn ++ pins, p.1 ≠ b) :
    Inv X pins σ H' { s with heap := h', gens := g', drawn := d', toks := t' } := by
  obtain ⟨m, ⟨o, es, ep, ho, r⟩, _⟩ := id I.loc
  obtain ⟨sl, hL⟩ := u.any ho I.free fun z => (hch _ z).2.1 rfl
  exact I.step (ch := ch) hch (fun b o hL hb hc e n => u.keep b o e n (fun z => (List.mem_cons.mp (I.stkSub b z)).elim hL hb) hc) (fun b o _ _ hc e n => u.any e n hc) (fun b o hc e n => u.free b o e n hc) (fun b o hc e => u.there b o e hc) u.tups u.frzs u.tbls (fun m' hm => by
    obtain ⟨o', es', ep', ho', r'⟩ := hm
    rw [ho] at ho'; cases ho'
    exact ⟨_, es', ep', hL, r'⟩) hok hg
/-- an untracked record of ours (an iterator) has turned -/
theorem Inv.turned {t' : Nat} {it : Addr} (I : Inv X pins σ H s) (k : ∀ b o, b ≠ it → s.heap.get? b = some o → h'.get? b = some o) (hn : H it = none) (hL : it ≠ X.env.locals)
    (h1 : it ∈ X.ex ∨ X.s₀.heap.objs.size ≤ it) (h2 : ∀ x c, X.env.cells.lookup x = some c → c ≠ it) (h3 : ∀ p ∈ X.pn ++ pins, p.1 ≠ it) : Inv X pins σ H { s with heap := h', toks := t' } := by
  have nit : ∀ b u, H b = some u → b ≠ it := fun b u e z => by rw [z, hn] at e; cases e
  refine I.step (g' := s.gens) (d' := s.drawn) (ch := [it]) (fun b hb => ?_) (fun b o _ _ hc e _ => k b o (fun z => hc (by simp [z])) e) (fun b o _ _ hc e _ => ⟨o.slots, k b o (fun z => hc (by simp [z])) e⟩) (fun _ _ _ _ n => n)
    (fun b o hc e => ⟨o, k b o (fun z => hc (by simp [z])) e⟩) (fun _ _ e => e) (fun _ _ _ e => e) (fun b ps e => ⟨#[], by rw [e]; simp⟩) (fun m hm => ?_) (fun b u e => ?_) I.bare
  · have e : b = it := by simpa using hb
    subst e
    exact ⟨h1, hL, h2, h3⟩
  · obtain ⟨o, es, ep, ho, r⟩ := hm
    exact ⟨o, es, ep, k _ o (Ne.symm hL) ho, r⟩
  · refine (I.hok b u e).stay (fun c v hc q => k c v ?_ q) (fun _ q => q) fun _ _ q => q
    rcases hc with z | z
    · rw [z]; exact nit b u e
    · exact nit c _ z
theorem Inv.tok (I : Inv X pins σ H s) (t : Nat) : Inv X pins σ H { s with toks := t } := I.un (h' := s.heap) (t' := t) Un.refl I.hok
/-- all objects kept -/
theorem Inv.kept {t' : Nat} (I : Inv X pins σ H s) (k : ∀ b u, s.heap.get? b = some u → h'.get? b = some u) : Inv X pins σ H { s with heap := h', toks := t' } := I.un (Un.kept k) (I.hok.kept k)
/-- a new object laid and tracked -/
theorem Inv.laid {a : Addr} {o : HO} {t' : Nat} (I : Inv X pins σ H s) (k : ∀ b u, s.heap.get? b = some u → h'.get? b = some u) (hp : s.heap.objs.size ≤ a) (new : ObjOk X.prog X.w (upd H a o) h' a o) :
    Inv X pins σ (upd H a o) { s with heap := h', toks := t' } := I.un (Un.laid k hp (I.hok.fresh hp)) (I.hok.laid k hp new)
/-- an object written -/
theorem Inv.write {x e : Addr} {o : HO} {t' : Nat} (I : Inv X pins σ H s) (mu : Mut (H x)) (he : e = x ∨ H e = some (.own x)) (k : ∀ b u, b ≠ e → s.heap.get? b = some u → h'.get? b = some u) (heo : ∃ u, h'.get? e = some u)
    (new : ObjOk X.prog X.w (upd H x o) h' x o) : Inv X pins σ (upd H x o) { s with heap := h', toks := t' } := I.un (Un.write mu he k heo) (I.hok.write mu he k heo new)
theorem Inv.pins_of {pins' : List (Addr × Obj)} (I : Inv X pins σ H s) (h : ∀ p ∈ pins', s.heap.get? p.1 = some p.2 ∧ H p.1 = none ∧ p.1 ≠ X.env.locals ∧ p.1 ∉ X.fs ∧ ∀ v, p.2.data ≠ .cell v) : Inv X pins' σ H s :=
  ⟨I.ok, I.os, I.bare, I.base, I.loc, I.cell, I.free, I.freeC, fun p hp => (List.mem_append.mp hp).elim (fun z => I.pin p (List.mem_append_left _ z)) (h p), I.hok, I.len⟩

theorem nodup_ix {N : List Str} (hN : N.Nodup) {i j : Nat} {x : Str} (a : N[i]? = some x) (b : N[j]? = some x) : i = j := by
  obtain ⟨h1, e1⟩ := List.getElem?_eq_some_iff.mp a
  obtain ⟨h2, e2⟩ := List.getElem?_eq_some_iff.mp b
  exact (List.getElem_inj hN).mp (e1.trans e2.symm)

/-- a name is stored; what changed -/
theorem store_ok2 {M : Model} {A : Around} {E : Value → Shared → Prop} {i : Nat} {x : Str} {v : V} {u : Value} {Q : Unit → Shared → Prop} (I : Inv X pins σ H s) (hN : X.N.Nodup) (hi : X.N[i]? = some x) (hx : Loc X.env.scope x) (r : RelV v u)
    (h : ∀ s', Inv X pins (σ.set i (some v)) H s' → (∃ a, Heap.SameBut a s.heap s'.heap ∧ (a = X.env.locals ∨ X.env.cells.lookup x = some a)) → Q () s') (hf : X.fn x = true ∨ X.env.scope.names.lookup x = some .local := by first | exact .inl rfl | exact .inr rfl | assumption) : wpAny M A (storeName X.env x u) Q E s := by
  obtain ⟨m, hn, hl⟩ := id I.loc
  have hcls : (X.env.scope.kind == .class || (X.env.scope.kind == .module && X.env.locals != X.env.globals)) = false := by rw [I.ok.kind]; rfl
  have hiσ : i < σ.length := by rw [I.len]; exact (List.getElem?_eq_some_iff.mp hi).1
  have cne := I.cne
  have tracked : ∀ {a : Addr} {h' : Heap}, (∃ o, s.heap.get? a = some o ∧ H a = none) → Heap.SameBut a s.heap h' → HOk X.prog X.w H h' := fun {a h'} ha hs b ob e => by
    obtain ⟨_, _, hfree⟩ := ha
    refine (I.hok b ob e).stay (fun c w' hc q => (hs.2 c ?_).trans q) (fun _ q => q) fun _ _ q => q
    rintro rfl
    rcases hc with rfl | hc
    · rw [hfree] at e; cases e
    · rw [hfree] at hc; cases hc
  rcases hx with hk | hk
  · refine wpAny_storeName_local hk hn (fun h' hn' hs => ?_) hcls
    obtain ⟨oL, _, _, hoL, _⟩ := id hn
    refine h _ ⟨I.ok, I.os, I.bare, ⟨fun b o e n hb hx => ?_, fun b o e n hb hx => ?_, I.base.free, fun b o e hx => ?_, I.base.tups, I.base.frzs, I.base.tbls⟩, ⟨_, hn', fun j y v' e1 e2 e3 => ?_⟩, fun y c e => ?_, I.free, I.freeC, fun p hp => ?_, tracked ⟨oL, hoL, I.free⟩ hs, by simpa using I.len⟩ ⟨_, hs, .inl rfl⟩
    · exact (hs.2 b (Nat.ne_of_lt (Nat.lt_of_lt_of_le (Heap.lt_size e) I.ok.above))).trans (I.base.keep b o e n hb hx)
    · obtain ⟨sl, e1⟩ := I.base.slot b o e n hb hx
      exact ⟨sl, (hs.2 b (Nat.ne_of_lt (Nat.lt_of_lt_of_le (Heap.lt_size e) I.ok.above))).trans e1⟩
    · obtain ⟨o', e1⟩ := I.base.there b o e hx
      exact ⟨o', (hs.2 b (Nat.ne_of_lt (Nat.lt_of_lt_of_le (Heap.lt_size e) I.ok.above))).trans e1⟩
    · by_cases hj : j = i
      · subst hj
        rw [hi] at e1; cases e1
        rw [List.getElem?_set_self hiσ] at e2
        cases e2
        exact ⟨u, r, .inl ⟨hk, by simp⟩⟩
      · rw [List.getElem?_set_ne (Ne.symm hj)] at e2
        obtain ⟨u', r', q⟩ := hl j y v' e1 e2 e3
        refine ⟨u', r', ?_⟩
        rcases q with ⟨k, e⟩ | ⟨k, c, e, z⟩
        · refine .inl ⟨k, ?_⟩
          have : y ≠ x := fun e => hj (nodup_ix hN e1 (e ▸ hi))
          simp [this, e]
        · exact .inr ⟨k, c, e, z.sameBut hs (cne y c e)⟩
    · obtain ⟨w', z⟩ := I.cell y c e
      exact ⟨w', z.sameBut hs (cne y c e)⟩
    · obtain ⟨e, n, ne, nf, d⟩ := I.pin p hp
      exact ⟨(hs.2 p.1 ne).trans e, n, ne, nf, d⟩
  · have hfn : X.fn x = true := by
      rcases hf with z | z
      · exact z
      · rw [z] at hk; cases hk
    obtain ⟨c, hc⟩ := I.ok.has x (.inl hk)
    obtain ⟨w', z⟩ := I.cell x c hc
    refine wpAny_storeName_cell I.ok.kind hk hc z (fun h' hc' hs => ?_)
    obtain ⟨oc, hoc, hocd⟩ := id z
    refine h { s with heap := h' } ⟨I.ok, I.os, I.bare, ⟨fun b o e n hb hx => ?_, fun b o e n hb hx => ?_, I.base.free, fun b o e hx => ?_, I.base.tups, I.base.frzs, I.base.tbls⟩, ⟨m, hn.sameBut hs (Ne.symm (cne x c hc)), fun j y v' e1 e2 e3 => ?_⟩, fun y c' e => ?_, I.free, I.freeC, fun p hp => ?_, tracked ⟨oc, hoc, I.freeC x c hc⟩ hs, by simpa using I.len⟩ ⟨c, hs, .inr hc⟩
    · exact (hs.2 b (Nat.ne_of_lt (Nat.lt_of_lt_of_le (Heap.lt_size e) (I.ok.cab x c hfn hc)))).trans (I.base.keep b o e n hb hx)
    · obtain ⟨sl, e1⟩ := I.base.slot b o e n hb hx
      exact ⟨sl, (hs.2 b (Nat.ne_of_lt (Nat.lt_of_lt_of_le (Heap.lt_size e) (I.ok.cab x c hfn hc)))).trans e1⟩
    · obtain ⟨o', e1⟩ := I.base.there b o e hx
      exact ⟨o', (hs.2 b (Nat.ne_of_lt (Nat.lt_of_lt_of_le (Heap.lt_size e) (I.ok.cab x c hfn hc)))).trans e1⟩
    · by_cases hj : j = i
      · subst hj
        rw [hi] at e1; cases e1
        rw [List.getElem?_set_self hiσ] at e2
        cases e2
        exact ⟨u, r, .inr ⟨.inl hk, c, hc, hc'⟩⟩
      · rw [List.getElem?_set_ne (Ne.symm hj)] at e2
        obtain ⟨u', r', q⟩ := hl j y v' e1 e2 e3
        refine ⟨u', r', ?_⟩
        rcases q with q | ⟨k, c', e, z'⟩
        · exact .inl q
        · refine .inr ⟨k, c', e, z'.sameBut hs ?_⟩
          rintro rfl
          exact hj (nodup_ix hN e1 (I.ok.inj _ _ _ e hc ▸ hi))
    · by_cases hcc : c' = c
      · subst hcc; exact ⟨_, hc'⟩
      · obtain ⟨w2, z2⟩ := I.cell y c' e
        exact ⟨w2, z2.sameBut hs hcc⟩
    · obtain ⟨e, n, ne, nf, d⟩ := I.pin p hp
      refine ⟨(hs.2 p.1 ?_).trans e, n, ne, nf, d⟩
      intro q
      rw [q, hoc] at e
      have q' : oc = p.2 := Option.some.inj e
      exact d w' (by rw [← q']; exact hocd)
theorem store_ok {M : Model} {A : Around} {E : Value → Shared → Prop} {i : Nat} {x : Str} {v : V} {u : Value} {Q : Unit → Shared → Prop} (I : Inv X pins σ H s) (hN : X.N.Nodup) (hi : X.N[i]? = some x) (hx : Loc X.env.scope x) (r : RelV v u)
    (h : ∀ s', Inv X pins (σ.set i (some v)) H s' → Q () s') (hf : X.fn x = true ∨ X.env.scope.names.lookup x = some .local := by first | exact .inl rfl | exact .inr rfl | assumption) : wpAny M A (storeName X.env x u) Q E s :=
  store_ok2 I hN hi hx r (fun s' I' _ => h s' I') hf
/-- behind a call or a block, the state as it is -/
theorem Inv.call' {s' : Shared} {ch : List Addr} (I : Inv X pins σ H s) (ho : s'.os = s.os) (u : Un (frs X.stack) ch H H' s.heap s'.heap) (hok : HOk X.prog X.w H' s'.heap) (hg : AllBare s'.gens)
    (hch : ∀ b ∈ ch, (b ∈ X.ex ∨ X.s₀.heap.objs.size ≤ b) ∧ b ≠ X.env.locals ∧ (∀ x c, X.env.cells.lookup x = some c → c ≠ b) ∧ ∀ p ∈ X.pn ++ pins, p.1 ≠ b) : Inv X pins σ H' s' := by
  obtain ⟨h', g', d', t', o'⟩ := s'
  have e : o' = s.os := ho
  subst e
  exact I.call (g' := g') (t' := t') (d' := d') u hok hg hch
end

/-! ### the judgements -/
/-- an exception: its class, its own dict's address (where it has one), the abstract heap behind it -/
abbrev XK := Value → Option Addr → Hp → Prop
abbrev St := List (Option V)
abbrev VK := V → Hp → Prop
/-- an expression's reading; a test's; an argument list's -/
abbrev TE := St → Hp → VK → Prop
abbrev TT := St → Hp → (Bool → Hp → Prop) → Prop
abbrev TA := St → Hp → (List V → Hp → Prop) → Prop
/-- what is wanted behind a statement -/
structure Ends where
  nx : St → Hp → Prop
  rt : VK
  bk : St → Hp → Prop := fun _ _ => False
  ct : St → Hp → Prop := fun _ _ => False
abbrev TS := Ends → St → Hp → Prop

def EP (X : Cx) (pins : List (Addr × Obj)) (σ : St) (Q : VK) (u : Value) (s' : Shared) : Prop := ∃ v H', Inv X pins σ H' s' ∧ RelV v u ∧ Q v H'
def TP (X : Cx) (pins : List (Addr × Obj)) (σ : St) (Q : Bool → Hp → Prop) (b : Bool) (s' : Shared) : Prop := ∃ H', Inv X pins σ H' s' ∧ Q b H'
def AP (X : Cx) (pins : List (Addr × Obj)) (σ : St) (Q : List V → Hp → Prop) (us : List Value) (s' : Shared) : Prop := ∃ vs H', Inv X pins σ H' s' ∧ Vals vs us ∧ Q vs H'
def SP (X : Cx) (pins : List (Addr × Obj)) (D : Ends) (f : Flow) (s' : Shared) : Prop :=
  match f with
  | .next => ∃ σ' H', Inv X pins σ' H' s' ∧ D.nx σ' H'
  | .brk => ∃ σ' H', Inv X pins σ' H' s' ∧ D.bk σ' H'
  | .cont => ∃ σ' H', Inv X pins σ' H' s' ∧ D.ct σ' H'
  | .ret u => ∃ v σ' H', Inv X pins σ' H' s' ∧ RelV v u ∧ D.rt v H'

def PE (X : Cx) (e : Expr) (t : TE) : Prop :=
  ∀ (pins : List (Addr × Obj)) (s : Shared) (σ : St) (H : Hp) (Q : VK), Inv X pins σ H s → t σ H Q → wpAny (model X.prog X.w) X.A (eval e X.env) (EP X pins σ Q) X.xe s
def PT (X : Cx) (e : Expr) (t : TT) : Prop :=
  ∀ (pins : List (Addr × Obj)) (s : Shared) (σ : St) (H : Hp) (Q : Bool → Hp → Prop), Inv X pins σ H s → t σ H Q → wpAny (model X.prog X.w) X.A (isTrue e X.env (eval e X.env)) (TP X pins σ Q) X.xe s
/-- a test whatever its 'whole' is (and, or) -/
def PW (X : Cx) (e : Expr) (t : TT) : Prop :=
  ∀ (whole : Sem Value) (pins : List (Addr × Obj)) (s : Shared) (σ : St) (H : Hp) (Q : Bool → Hp → Prop), Inv X pins σ H s → t σ H Q → wpAny (model X.prog X.w) X.A (isTrue e X.env whole) (TP X pins σ Q) X.xe s
theorem PW.pt {X : Cx} {e : Expr} {t : TT} (h : PW X e t) : PT X e t := h _
/-- an argument list (no star), from the left -/
def PA (X : Cx) (es : List Expr) (t : TA) : Prop :=
  ∀ (pos : Pos) (pins : List (Addr × Obj)) (s : Shared) (σ : St) (H : Hp) (Q : List V → Hp → Prop), Inv X pins σ H s → t σ H Q → wpAny (model X.prog X.w) X.A (spliced (backTo pos (starEach es X.env))) (AP X pins σ Q) X.xe s
def PS (X : Cx) (st : Stmt) (t : TS) : Prop :=
  ∀ (pins : List (Addr × Obj)) (s : Shared) (σ : St) (H : Hp) (D : Ends), Inv X pins σ H s → t D σ H → wpAny (model X.prog X.w) X.A (exec st X.env) (SP X pins D) X.xe s
def PSs (X : Cx) (st : List Stmt) (t : TS) : Prop :=
  ∀ (pins : List (Addr × Obj)) (s : Shared) (σ : St) (H : Hp) (D : Ends), Inv X pins σ H s → t D σ H → wpAny (model X.prog X.w) X.A (execs st X.env) (SP X pins D) X.xe s
/-- weaken the end -/
theorem thn {α : Type} {t : Sem α} {Q Q' : α → Shared → Prop} {M : Model} {A : Around} {E : Value → Shared → Prop} {s : Shared} (h : wpAny M A t Q E s) (hQ : ∀ a s, Q a s → Q' a s) : wpAny M A t Q' E s := wpAny_mono h hQ fun _ _ x => x
end L2

namespace L2
open PySem PySem.Spec PyProof.Rows
section
variable {X : Cx}


/-! ### names and constants -/
def tVar (i : Nat) : TE := fun σ H Q => ∃ v, σ[i]? = some (some v) ∧ Q v H
def tC (v : V) : TE := fun _ H Q => Q v H
theorem pe_var {i : Nat} {x : Str} {pos : Pos} (hN : X.N[i]? = some x) (hv : Vis X.env.scope x) (hd : (x == ("__debug__" : Str)) = false := by decide) (hcd : (x == ("__classdict__" : Str)) = false := by decide) : PE X (.Name x pos) (tVar i) := by
  intro pins s σ H Q I h
  obtain ⟨v, e, h⟩ := h
  obtain ⟨m, hn, hl⟩ := I.loc
  obtain ⟨u, r, l⟩ := hl i x v hN e hv
  have fin : EP X pins σ Q u s := ⟨v, H, I, r, h⟩
  rcases l with ⟨hk, hm⟩ | ⟨hk, c, hc, hcell⟩
  · exact wpAny_Name (wpAny_loadName_local I.ok.kind hk hn hm fin) hd
  · rcases hk with hk | hk
    · exact wpAny_Name (wpAny_loadName_cell I.ok.kind hk hc hcell fin) hd
    · exact wpAny_Name (wpAny_loadName_free I.ok.kind hk hc hcell fin hcd) hd
theorem pe_int {i j pos} : PE X (.Constant (.int i) j pos) (tC (.int i)) := fun _ _ _ H _ I h => wpAny_Constant_int ⟨.int i, H, I.tok _, ⟨_, rfl⟩, h⟩
theorem pe_bl {b j pos} : PE X (.Constant (.bool b) j pos) (tC (.bl b)) := fun _ _ _ H _ I h => Constant_bool ⟨.bl b, H, I, rfl, h⟩
theorem pe_non {j pos} : PE X (.Constant .none j pos) (tC .non) := fun _ _ _ H _ I h => Constant_none ⟨.non, H, I, rfl, h⟩

/-- a global name of the def -/
def Gl (X : Cx) (x : Str) : Prop := X.env.kindOf x = some .globalImplicit
theorem ld_glob {E : Value → Shared → Prop} {pins : List (Addr × Obj)} {s : Shared} {σ : St} {H : Hp} {x : Str} {u : Value} {pos : Pos} {Q : Value → Shared → Prop} (I : Inv X pins σ H s) (hg : Gl X x) (hm : X.mg x = some u) (h : Q u s)
    (hd : (x == ("__debug__" : Str)) = false := by decide) : wpAny (model X.prog X.w) X.A (eval (.Name x pos) X.env) Q E s :=
  Calls.Name_function_global I.ok.kind hg (Calls.loadGlobal_global (by rw [I.ok.glob]; exact I.mod.glob.keeps I.bk) hm h) hd
theorem ld_blt {E : Value → Shared → Prop} {pins : List (Addr × Obj)} {s : Shared} {σ : St} {H : Hp} {x : Str} {u : Value} {pos : Pos} {Q : Value → Shared → Prop} (I : Inv X pins σ H s) (hg : Gl X x) (hm : X.mg x = none) (hv : bootBuiltins x = some u) (h : Q u s)
    (hn : x ≠ "__name__" := by decide) (hd : (x == ("__debug__" : Str)) = false := by decide) : wpAny (model X.prog X.w) X.A (eval (.Name x pos) X.env) Q E s := by
  obtain ⟨mb, h1, h2⟩ := I.mod.blt
  exact Calls.Name_function_global I.ok.kind hg (Calls.loadGlobal_builtin (by rw [I.ok.glob]; exact I.mod.glob.keeps I.bk) hm (by rw [I.ok.blt]; exact h1.keeps I.bk) ((h2 x hn).trans hv) h) hd
theorem pe_bltn {x : Str} {v : V} {u : Value} {pos : Pos} (hg : Gl X x) (hm : X.mg x = none) (hv : bootBuiltins x = some u) (r : RelV v u) (hn : x ≠ "__name__" := by decide) (hd : (x == ("__debug__" : Str)) = false := by decide) : PE X (.Name x pos) (tC v) :=
  fun _ _ _ H _ I h => ld_blt I hg hm hv ⟨v, H, I, r, h⟩ hn hd

/-! ### arithmetic -/
variable {a b : Expr} {ta tb : TE} {pos : Pos}

/-! ### comparisons -/

/-! ### and, or, not -/
variable {tA tB' : TT} {rest : List Expr}
def tAnd (t u : TT) : TT := fun σ H Q => t σ H fun c H1 => if c = true then u σ H1 Q else Q false H1
def tOr (t u : TT) : TT := fun σ H Q => t σ H fun c H1 => if c = true then Q true H1 else u σ H1 Q
def tNot (t : TT) : TT := fun σ H Q => t σ H fun c H1 => Q (!c) H1
theorem pw_and1 (ha : PT X a tA) : PW X (.BoolOp .And [a] pos) tA := by
  intro wh pins s σ H Q I h
  refine isTrue_and (thn (ha pins s σ H Q I h) fun c s1 e => ?_)
  cases c with
  | true => exact isTrue_and_nil e
  | false => exact e
theorem pw_or1 (ha : PT X a tA) : PW X (.BoolOp .Or [a] pos) tA := by
  intro wh pins s σ H Q I h
  refine isTrue_or (thn (ha pins s σ H Q I h) fun c s1 e => ?_)
  cases c with
  | false => exact isTrue_or_nil e
  | true => exact e
theorem pw_and (ha : PT X a tA) (hb : PW X (.BoolOp .And (b :: rest) pos) tB') : PW X (.BoolOp .And (a :: b :: rest) pos) (tAnd tA tB') := by
  intro wh pins s σ H Q I h
  refine isTrue_and (thn (ha pins s σ H _ I h) fun c s1 ⟨H1, I1, q1⟩ => ?_)
  cases c with
  | true => exact hb wh pins s1 σ H1 Q I1 q1
  | false => exact ⟨H1, I1, q1⟩
theorem pw_or (ha : PT X a tA) (hb : PW X (.BoolOp .Or (b :: rest) pos) tB') : PW X (.BoolOp .Or (a :: b :: rest) pos) (tOr tA tB') := by
  intro wh pins s σ H Q I h
  refine isTrue_or (thn (ha pins s σ H _ I h) fun c s1 ⟨H1, I1, q1⟩ => ?_)
  cases c with
  | true => exact ⟨H1, I1, q1⟩
  | false => exact hb wh pins s1 σ H1 Q I1 q1
theorem pt_not (ha : PT X a tA) : PT X (.UnaryOp .Not a pos) (tNot tA) := by
  intro pins s σ H Q I h
  exact isTrue_not (ha pins s σ H (fun c H1 => Q (!c) H1) I h)
/-- .. as values (bools) -/
def tAndV (ta tb : TE) : TE := fun σ H Q => ta σ H fun x H1 => ∃ c, x = .bl c ∧ if c = true then tb σ H1 Q else Q (.bl false) H1
def tOrV (ta tb : TE) : TE := fun σ H Q => ta σ H fun x H1 => ∃ c, x = .bl c ∧ if c = true then Q (.bl true) H1 else tb σ H1 Q
def tNotV (ta : TE) : TE := fun σ H Q => ta σ H fun x H1 => ∃ c, x = .bl c ∧ Q (.bl (!c)) H1
theorem pe_one {op} {t : TE} (h : PE X a t) : PE X (.BoolOp op [a] pos) t := fun pins s σ H Q I hw => BoolOp_one (h pins s σ H Q I hw)
theorem pe_and (ha : PE X a ta) (hb : PE X (.BoolOp .And (b :: rest) pos) tb) : PE X (.BoolOp .And (a :: b :: rest) pos) (tAndV ta tb) := by
  intro pins s σ H Q I h
  refine BoolOp_and (thn (ha pins s σ H _ I h) fun v s1 ⟨x, H1, I1, r1, q1⟩ => ?_)
  obtain ⟨c, rfl, q1⟩ := q1
  cases r1
  refine wpAny_truthy_bool ?_
  cases c with
  | true => exact hb pins s1 σ H1 Q I1 q1
  | false => exact ⟨.bl false, H1, I1, rfl, q1⟩
theorem pe_or (ha : PE X a ta) (hb : PE X (.BoolOp .Or (b :: rest) pos) tb) : PE X (.BoolOp .Or (a :: b :: rest) pos) (tOrV ta tb) := by
  intro pins s σ H Q I h
  refine BoolOp_or (thn (ha pins s σ H _ I h) fun v s1 ⟨x, H1, I1, r1, q1⟩ => ?_)
  obtain ⟨c, rfl, q1⟩ := q1
  cases r1
  refine wpAny_truthy_bool ?_
  cases c with
  | false => exact hb pins s1 σ H1 Q I1 q1
  | true => exact ⟨.bl true, H1, I1, rfl, q1⟩
theorem pe_not (ha : PE X a ta) : PE X (.UnaryOp .Not a pos) (tNotV ta) := by
  intro pins s σ H Q I h
  refine UnaryOp_ (thn (ha pins s σ H _ I h) fun v s1 ⟨x, H1, I1, r1, q1⟩ => ?_)
  obtain ⟨c, rfl, q1⟩ := q1
  cases r1
  exact not_of (wpAny_truthy_bool ⟨.bl (!c), H1, I1, rfl, q1⟩)
end
end L2

namespace L2
open PySem PySem.Spec PyProof.Rows

/-! ### a list, a tuple that is read: tracked, frozen, or an object of the module -/
def SqL (K : PySem.W.Frag) (H : Hp) (a : Addr) (xs : List V) : Prop :=
  Rd H a (.lst xs) ∨
    ∃ (o : Obj) (its : Array Value) (n : Nat), K.lookup a = some o ∧ o.cls = .type "list" ∧ o.dict = none ∧ o.data = .seq its n ∧ its.size ≤ sizeLine ∧ Vals xs its.toList
def SqT (K : PySem.W.Frag) (H : Hp) (a : Addr) (xs : List V) : Prop :=
  Rd H a (.tup xs) ∨
    ∃ (o : Obj) (its : Array Value) (n : Nat), K.lookup a = some o ∧ o.cls = .type "tuple" ∧ o.data = .seq its n ∧ its.size ≤ sizeLine ∧ Vals xs its.toList
def absV : Value → Option V
  | .none => some .non
  | .bool b => some (.bl b)
  | .int i _ => some (.int i)
  | .str x _ => some (.str x)
  | .bytes b _ => some (.byt b)
  | .float b _ => some (.flt b)
  | .ref a => some (.ref a)
  | .type n => some (.ty n)
  | _ => none
theorem RelV.abs {x : V} {u : Value} (r : RelV x u) : absV u = some x := by
  cases x with
  | non => cases r; rfl
  | bl _ => cases r; rfl
  | int _ => obtain ⟨t, rfl⟩ := r; rfl
  | str _ => obtain ⟨t, rfl⟩ := r; rfl
  | byt _ => obtain ⟨t, rfl⟩ := r; rfl
  | flt _ => obtain ⟨t, rfl⟩ := r; rfl
  | ref _ => cases r; rfl
  | ty _ => cases r; rfl
theorem RelV.inj {x y : V} {u : Value} (r : RelV x u) (q : RelV y u) : x = y := Option.some.inj (r.abs.symm.trans q.abs)
theorem Vals.inj : ∀ {xs ys : List V} {us : List Value}, Vals xs us → Vals ys us → xs = ys
  | _, _, _, .nil, .nil => rfl
  | _, _, _, .cons r t, .cons r' t' => by rw [r.inj r', Vals.inj t t']
section
variable {X : Cx} {pins : List (Addr × Obj)} {σ : St} {H : Hp} {s : Shared} {a : Addr} {xs ys : List V}
theorem SqL.of {K : PySem.W.Frag} (h : H a = some (.lst xs)) : SqL K H a xs := .inl (.inl h)
theorem SqT.of {K : PySem.W.Frag} (h : H a = some (.tup xs)) : SqT K H a xs := .inl (.inl h)
theorem Inv.list (I : Inv X pins σ H s) (h : SqL X.K H a xs) : ∃ its : List Value, Vals xs its ∧ PlainL s.heap a its.toArray ∧ xs.length ≤ sizeLine := by
  rcases h with h | ⟨o, its, n, hk, hc, hd, hs, hz, r⟩
  · obtain ⟨z, its, n, r, e⟩ := h.ok I.hok
    exact ⟨its, r, ⟨_, n, e, rfl, rfl, rfl⟩, z⟩
  · refine ⟨its.toList, r, ⟨o, n, I.kIn a o hk, hc, hd, by simpa using hs⟩, ?_⟩
    have e := r.length
    simp only [Array.length_toList] at e
    omega
theorem Inv.tuple (I : Inv X pins σ H s) (h : SqT X.K H a xs) : ∃ its : List Value, Vals xs its ∧ IsTup s.heap a its.toArray ∧ xs.length ≤ sizeLine := by
  rcases h with h | ⟨o, its, n, hk, hc, hs, hz, r⟩
  · obtain ⟨z, its, r, p⟩ := h.ok I.hok
    exact ⟨its, r, p, z⟩
  · refine ⟨its.toList, r, ⟨o, I.kIn a o hk, hc, n, by simpa using hs⟩, ?_⟩
    have e := r.length
    simp only [Array.length_toList] at e
    omega
theorem Inv.list_inj (I : Inv X pins σ H s) (h : SqL X.K H a xs) (h' : SqL X.K H a ys) : xs = ys := by
  obtain ⟨its, r, ⟨o, n, e, _, _, d⟩, _⟩ := I.list h
  obtain ⟨its', r', ⟨o', n', e', _, _, d'⟩, _⟩ := I.list h'
  rw [e] at e'; cases e'
  rw [d] at d'
  injection d' with d1 _
  have : its = its' := by simpa using congrArg Array.toList d1
  subst this
  exact r.inj r'
end

/-! ### another wish about exceptions -/
abbrev Cx.wish (X : Cx) (E : Value → Shared → Prop) : Cx := { X with xe := E }
/-- no exception leaves -/
abbrev Cx.nox (X : Cx) : Cx := X.wish fun _ _ => False
theorem Cx.Ok.wish {X : Cx} (ok : X.Ok) (E : Value → Shared → Prop) : (X.wish E).Ok :=
  ⟨ok.mod, ok.kind, ok.glob, ok.blt, ok.above, ok.inj, ok.has, ok.cab, ok.hd, ok.frames, ok.stk, ok.exf, ok.bs, ok.bsz, ok.noex, ok.exfs, ok.funs, ok.frf⟩
theorem Cx.Ok.unwish {X : Cx} {E : Value → Shared → Prop} (ok : (X.wish E).Ok) : X.Ok :=
  ⟨ok.mod, ok.kind, ok.glob, ok.blt, ok.above, ok.inj, ok.has, ok.cab, ok.hd, ok.frames, ok.stk, ok.exf, ok.bs, ok.bsz, ok.noex, ok.exfs, ok.funs, ok.frf⟩
section
variable {X : Cx} {pins : List (Addr × Obj)} {σ : St} {H : Hp} {s : Shared} {E : Value → Shared → Prop}
theorem Inv.wish (I : Inv X pins σ H s) (E : Value → Shared → Prop) : Inv (X.wish E) pins σ H s := ⟨I.ok.wish E, I.os, I.bare, I.base, I.loc, I.cell, I.free, I.freeC, I.pin, I.hok, I.len⟩
theorem Inv.unwish (I : Inv (X.wish E) pins σ H s) : Inv X pins σ H s := ⟨I.ok.unwish, I.os, I.bare, I.base, I.loc, I.cell, I.free, I.freeC, I.pin, I.hok, I.len⟩
theorem SP.unwish {D : Ends} {f : Flow} {s' : Shared} (h : SP (X.wish E) pins D f s') : SP X pins D f s' := by
  cases f with
  | next => obtain ⟨σ', H', I, q⟩ := h; exact ⟨σ', H', I.unwish, q⟩
  | brk => obtain ⟨σ', H', I, q⟩ := h; exact ⟨σ', H', I.unwish, q⟩
  | cont => obtain ⟨σ', H', I, q⟩ := h; exact ⟨σ', H', I.unwish, q⟩
  | ret u => obtain ⟨v, σ', H', I, r, q⟩ := h; exact ⟨v, σ', H', I.unwish, r, q⟩
theorem PSs.nox {st : List Stmt} {t : TS} (h : PSs X.nox st t) : PSs X st t := fun pins s σ H D I hw =>
  wpAny_mono (h pins s σ H D (I.wish _) hw) (fun _ _ q => q.unwish) fun _ _ z => False.elim z
end

/-! ### blocks and small statements -/
section
variable {X : Cx} {st : Stmt} {rest : List Stmt} {t u : TS} {e : Expr} {te : TE} {pos : Pos}
def tNext : TS := fun D σ H => D.nx σ H
def tSeq (t u : TS) : TS := fun D σ H => t { D with nx := u D } σ H
theorem pss_nil : PSs X [] tNext := fun _ _ σ H _ I h => wpAny_execs_nil ⟨σ, H, I, h⟩
theorem pss_cons (h1 : PS X st t) (h2 : PSs X rest u) : PSs X (st :: rest) (tSeq t u) := by
  intro pins s σ H D I h
  refine wpAny_execs_cons (thn (h1 pins s σ H { D with nx := u D } I h) fun f s1 q => ?_)
  cases f with
  | next =>
    obtain ⟨σ', H', I', q⟩ := q
    exact h2 pins s1 σ' H' D I' q
  | ret v => exact q
  | brk => exact q
  | cont => exact q
theorem pss_one (h1 : PS X st t) : PSs X [st] t := by
  intro pins s σ H D I h
  refine wpAny_execs_cons (thn (h1 pins s σ H D I h) fun f s1 q => ?_)
  cases f with
  | next => exact wpAny_execs_nil q
  | ret v => exact q
  | brk => exact q
  | cont => exact q
/-- in a def's body nothing is shown -/
theorem Inv.quiet {pins : List (Addr × Obj)} {σ : St} {H : Hp} {s : Shared} (I : Inv X pins σ H s) : interactive X.env = false := by simp [interactive, I.ok.kind]
/-- an expression whose value is dropped -/
def tDrop (te : TE) : TS := fun D σ H => te σ H fun _ H1 => D.nx σ H1
theorem ps_expr (he : PE X e te) (hs : swapsWith e none pos.line X.env = pure false := by rfl) : PS X (.Expr e pos) (tDrop te) := by
  intro pins s σ H D I h
  exact wpAny_Expr_any (thn (he pins s σ H _ I h) fun v s1 ⟨x, H1, I1, r1, q1⟩ => ⟨σ, H1, I1, q1⟩) I.quiet hs
def tRet (te : TE) : TS := fun D σ H => te σ H D.rt
theorem ps_ret (he : PE X e te) : PS X (.Return (some e) pos) (tRet te) := by
  intro pins s σ H D I h
  exact wpAny_Return_some (thn (he pins s σ H _ I h) fun v s1 ⟨x, H1, I1, r1, q1⟩ => ⟨x, σ, H1, I1, r1, q1⟩)
def tIfS (c : TT) (t u : TS) : TS := fun D σ H => c σ H fun b H1 => if b = true then t D σ H1 else u D σ H1
theorem ps_if {c : Expr} {a b : List Stmt} {tc : TT} (hc : PT X c tc) (ha : PSs X a t) (hb : PSs X b u) : PS X (.If c a b pos) (tIfS tc t u) := by
  intro pins s σ H D I h
  refine wpAny_If (thn (hc pins s σ H _ I h) fun d s1 ⟨H1, I1, q1⟩ => ?_)
  cases d with
  | true => exact ha pins s1 σ H1 D I1 q1
  | false => exact hb pins s1 σ H1 D I1 q1
/-- code that the proof never comes to -/
def tNever : TS := fun _ _ _ => False
theorem ps_never : PS X st tNever := fun _ _ _ _ _ _ h => h.elim
end

/-! ### targets -/
abbrev TG := V → St → Hp → (St → Hp → Prop) → Prop
abbrev TGs := List V → St → Hp → (St → Hp → Prop) → Prop
def PG (X : Cx) (target : Expr) (t : TG) : Prop :=
  ∀ (pins : List (Addr × Obj)) (s : Shared) (σ : St) (H : Hp) (v : V) (u : Value) (Q : St → Hp → Prop), Inv X pins σ H s → RelV v u → t v σ H Q →
    wpAny (model X.prog X.w) X.A (assign target X.env u) (fun _ s' => ∃ σ' H', Inv X pins σ' H' s' ∧ Q σ' H') X.xe s
/-- several targets, one after another -/
def PGs (X : Cx) (ts : List Expr) (t : TGs) : Prop :=
  ∀ (pins : List (Addr × Obj)) (s : Shared) (σ : St) (H : Hp) (vs : List V) (us : List Value) (Q : St → Hp → Prop), Inv X pins σ H s → Vals vs us → t vs σ H Q →
    wpAny (model X.prog X.w) X.A (assignInOrder ((assignEach ts X.env).map (·.2)) us) (fun _ s' => ∃ σ' H', Inv X pins σ' H' s' ∧ Q σ' H') X.xe s
section
variable {X : Cx} {pos : Pos}
def gName (i : Nat) : TG := fun v σ H Q => Q (σ.set i (some v)) H
theorem pg_name {i : Nat} {x : Str} (hN : X.N.Nodup) (hi : X.N[i]? = some x) (hx : Loc X.env.scope x) (hf : X.fn x = true ∨ X.env.scope.names.lookup x = some .local := by first | exact .inl rfl | exact .inr rfl | assumption) : PG X (.Name x pos) (gName i) := by
  intro pins s σ H v u Q I r h
  exact wpAny_assign_Name (store_ok I hN hi hx r (fun s' I' => ⟨_, H, I', h⟩) hf)
def gNil : TGs := fun vs σ H Q => vs = [] ∧ Q σ H
def gCons (t : TG) (u : TGs) : TGs := fun vs σ H Q => ∃ v r, vs = v :: r ∧ t v σ H fun σ' H' => u r σ' H' Q
theorem pgs_nil : PGs X [] gNil := by
  intro pins s σ H vs us Q I r h
  obtain ⟨e, h⟩ := h
  subst e
  cases r
  exact assignInOrder_nil ⟨σ, H, I, h⟩
theorem pgs_cons {e : Expr} {es : List Expr} {t : TG} {u : TGs} (h1 : PG X e t) (h2 : PGs X es u)
    (hs : (assignEach (e :: es) X.env).map (·.2) = assign e X.env :: (assignEach es X.env).map (·.2) := by rfl) : PGs X (e :: es) (gCons t u) := by
  intro pins s σ H vs us Q I r h
  obtain ⟨v, vr, e1, h⟩ := h
  subst e1
  cases r with
  | cons r rr =>
    rw [hs]
    refine assignInOrder_cons (thn (h1 pins s σ H _ _ _ I r h) fun _ s1 ⟨σ1, H1, I1, q1⟩ => ?_)
    exact h2 pins s1 σ1 H1 _ _ Q I1 rr q1
/-- (a, b, ..) = a tuple of that length -/
def gTup (K : PySem.W.Frag) (n : Nat) (t : TGs) : TG := fun v σ H Q => ∃ a xs, v = .ref a ∧ SqT K H a xs ∧ xs.length = n ∧ t xs σ H Q
theorem pg_tup {es : List Expr} {k : Nat} {t : TGs} {n : Nat} (hc : X.calm = true) (h : PGs X es t)
    (hn : (assignEach es X.env).length = n := by rfl) (hst : (assignEach es X.env).findIdx? (·.1) = none := by rfl) : PG X (.Tuple es k pos) (gTup X.K n t) := by
  intro pins s σ H v u Q I r hw
  obtain ⟨a, xs, e1, hq, hl, hw⟩ := hw
  subst e1
  cases r
  obtain ⟨its, rv, ht, hz⟩ := I.tuple hq
  refine assign_Tuple_tuple (I.ok.hd hc) ht (by simp [hn, ← hl, rv.length]) hst fun h' hx => ?_
  have I1 : Inv X pins σ H { s with heap := h' } := I.kept (t' := s.toks) fun b o e => hx b o (Nat.ne_of_lt (Heap.lt_size e)) e
  exact h pins _ σ H xs _ Q I1 (by simpa using rv) hw
/-- target = value -/
def tAsg (te : TE) (g : TG) : TS := fun D σ H => te σ H fun x H1 => g x σ H1 D.nx
/-- name = value -/
theorem ps_set {i : Nat} {x : Str} {e : Expr} {te : TE} {pos' : Pos} (hN : X.N.Nodup) (hi : X.N[i]? = some x) (hx : Loc X.env.scope x) (he : PE X e te) (hs : swapsWith e (some (.Name x pos')) pos.line X.env = pure false := by rfl) (hf : X.fn x = true ∨ X.env.scope.names.lookup x = some .local := by first | exact .inl rfl | exact .inr rfl | assumption) :
    PS X (.Assign [.Name x pos'] e pos) (tAsg te (gName i)) := by
  intro pins s σ H D I h
  refine wpAny_Assign_Name (thn (he pins s σ H _ I h) fun v s1 ⟨y, H1, I1, r1, q1⟩ => ?_) hs
  exact store_ok I1 hN hi hx r1 (fun s2 I2 => ⟨_, H1, I2, q1⟩) hf
end

/-! ### while -/
section
variable {X : Cx} {pos : Pos}
/-- the invariant W with its measure -/
def tWhile (c : TT) (tb : TS) : TS := fun D σ H => ∃ W : Nat → St → Hp → Prop, (∃ m, W m σ H) ∧ ∀ m σ H, W m σ H →
  c σ H fun b H1 => if b = true then ∃ N : St → Hp → Prop, (∀ σ' H', N σ' H' → ∃ m', m' < m ∧ W m' σ' H') ∧ tb { D with nx := N, ct := N, bk := D.nx } σ H1 else D.nx σ H1
theorem ps_while {c : Expr} {body : List Stmt} {tc : TT} {tb : TS} (hp : PassesOwn (model X.prog X.w) X.A X.env X.xe) (hc : PT X c tc) (hb : PSs X body tb) : PS X (.While c body [] pos) (tWhile tc tb) := by
  intro pins s σ H D I h
  obtain ⟨W, ⟨m0, w0⟩, turn⟩ := h
  refine wpAny_While (codeAny_whileLoop (fun n s' => ∃ σ' H', Inv X pins σ' H' s' ∧ W n σ' H') ?_ m0 ⟨σ, H, I, w0⟩)
  rintro n s1 ⟨σ1, H1, I1, w1⟩
  refine wpAny_passesOwn hp (thn (hc pins s1 σ1 H1 _ I1 (turn n σ1 H1 w1)) fun b s2 ⟨H2, I2, q2⟩ => ?_)
  cases b with
  | true =>
    obtain ⟨N, hN, q2⟩ := q2
    rw [if_pos rfl]
    refine wpAny_passesOwn hp (thn (hb pins s2 σ1 H2 _ I2 q2) fun f s3 q3 => ?_)
    cases f with
    | next =>
      obtain ⟨σ3, H3, I3, n3⟩ := q3
      obtain ⟨m', hm, w3⟩ := hN σ3 H3 n3
      exact ⟨m', hm, σ3, H3, I3, w3⟩
    | cont =>
      obtain ⟨σ3, H3, I3, n3⟩ := q3
      obtain ⟨m', hm, w3⟩ := hN σ3 H3 n3
      exact ⟨m', hm, σ3, H3, I3, w3⟩
    | brk => exact q3
    | ret v => exact q3
  | false =>
    rw [if_neg Bool.false_ne_true]
    exact wpAny_execs_nil ⟨σ1, H2, I2, q2⟩
end

/-! ### what a loop or a comprehension walks -/
/-- at turn i: it yields x (the heap may grow), or it stops -/
structure It where
  go : Nat → Hp → Prop
  yld : Nat → Hp → V → Hp → Prop
  stop : Nat → Hp → Prop
/-- the iterator's own objects may turn: they are not the frame's, not pinned, younger than the entry (or a comprehension's own) -/
def FpOk (X : Cx) (pins : List (Addr × Obj)) (H : Hp) (b : Addr) : Prop :=
  H b = none ∧ b ≠ X.env.locals ∧ b ∉ X.fs ∧ (b ∈ X.ex ∨ X.s₀.heap.objs.size ≤ b) ∧ (∀ x c, X.env.cells.lookup x = some c → c ≠ b) ∧ ∀ p ∈ X.pn ++ pins, p.1 ≠ b
theorem Inv.fpOk {X : Cx} {pins : List (Addr × Obj)} {σ : St} {H H' : Hp} {s : Shared} {b : Addr} (I : Inv X pins σ H s) (hb : s.heap.objs.size ≤ b) (hn : H' b = none) : FpOk X pins H' b := by
  refine ⟨hn, Nat.ne_of_gt (Nat.lt_of_lt_of_le I.lt hb), I.nofs hb, .inr (Nat.le_trans I.sz hb), fun x c e z => ?_, fun p hp z => ?_⟩
  · obtain ⟨v, q⟩ := I.cell x c e
    exact absurd (Nat.lt_of_lt_of_le q.lt (by rw [z]; exact hb)) (Nat.lt_irrefl _)
  · exact absurd (Nat.lt_of_lt_of_le (Heap.lt_size (I.pin p hp).1) (by rw [z]; exact hb)) (Nat.lt_irrefl _)
structure Turn (P : Program) (w : World) (K : PySem.W.Frag) (tg : Expr) (J : It) (fp : List Addr) (it : Addr) (tn : Nat → Heap → Prop) : Prop where
  mem : it ∈ fp
  obj : ∀ i h, tn i h → ∀ b ∈ fp, ∃ o, h.get? b = some o ∧ ∀ v, o.data ≠ .cell v
  keep : ∀ i h h', tn i h → (∀ b ∈ fp, ∀ o, h.get? b = some o → h'.get? b = some o) → tn i h'
  item : ∀ (X : Cx), X.prog = P → X.w = w → X.K = K → X.calm = true → ∀ (i : Nat) (pins : List (Addr × Obj)) (s : Shared) (σ : St) (H : Hp) (E : Value → Shared → Prop), Inv X pins σ H s → (∀ b ∈ fp, FpOk X pins H b) → tn i s.heap → J.go i H →
    wpAny (model P w) X.A (pyNext (.ref it)) (fun r s1 => ∃ u, r = some u ∧
      wpAny (model P w) X.A (letOwnedTupleGo tg (.ref it) u) (fun _ s2 => ∃ x H', Inv X pins σ H' s2 ∧ RelV x u ∧ J.yld i H x H' ∧ tn (i + 1) s2.heap ∧ ∀ b ∈ fp, H' b = none) E s1) E s
  done : ∀ (X : Cx), X.prog = P → X.w = w → X.K = K → X.calm = true → ∀ (i : Nat) (pins : List (Addr × Obj)) (s : Shared) (σ : St) (H : Hp) (E : Value → Shared → Prop), Inv X pins σ H s → (∀ b ∈ fp, FpOk X pins H b) → tn i s.heap → J.stop i H →
    wpAny (model P w) X.A (pyNext (.ref it)) (fun r s1 => r = none ∧ Inv X pins σ H s1) E s
  self : ∀ (A : Around) (i : Nat) (s : Shared) (Q : Value → Shared → Prop) (E : Value → Shared → Prop), tn i s.heap → Q (.ref it) s → wpAny (model P w) A (pyIter (.ref it)) Q E s
abbrev TI := St → Hp → (It → Hp → Prop) → Prop
/-- an iterator has come -/
def PIE (X : Cx) (pins : List (Addr × Obj)) (σ : St) (tg : Expr) (R : It → Hp → Prop) (itv : Value) (s2 : Shared) : Prop :=
  ∃ (it : Addr) (fp : List Addr) (tn : Nat → Heap → Prop) (J : It) (H' : Hp), itv = .ref it ∧ Inv X pins σ H' s2 ∧ Turn X.prog X.w X.K tg J fp it tn ∧ tn 0 s2.heap ∧ (∀ b ∈ fp, FpOk X pins H' b) ∧ R J H'
def PI (X : Cx) (tg iter : Expr) (wi : TI) : Prop :=
  ∀ (pins : List (Addr × Obj)) (s : Shared) (σ : St) (H : Hp) (R : It → Hp → Prop), Inv X pins σ H s → wi σ H R →
    wpAny (model X.prog X.w) X.A (eval iter X.env) (fun v s1 => wpAny (model X.prog X.w) X.A (pyIter v) (PIE X pins σ tg R) X.xe s1) X.xe s

/-- the step ahead of the store is nothing for an iterator that keeps no tuple -/
theorem go_of {M : Model} {A : Around} {E : Value → Shared → Prop} {s : Shared} {tg : Expr} {it : Addr} {u : Value} {o : Obj} {n : String} {vs : Array Value} {Q : Unit → Shared → Prop} (ho : s.heap.get? it = some o) (hc : o.cls = .type n) (hd : o.data = .fields vs)
    (hn : ["enumerate", "zip", "dict_itemiterator", "dict_reverseitemiterator", "odict_iterator", "itertools.zip_longest", "itertools.pairwise"].contains n = false) (hQ : Q () s) : wpAny M A (letOwnedTupleGo tg (.ref it) u) Q E s := by
  unfold letOwnedTupleGo
  cases tg <;> first
    | exact wpAny_pure hQ
    | (cases u <;> first
        | exact wpAny_pure hQ
        | (refine wpAny_bind (wpAny_load ho ?_)
           rw [hc, hd]
           show wpAny M A (if (["enumerate", "zip", "dict_itemiterator", "dict_reverseitemiterator", "odict_iterator", "itertools.zip_longest", "itertools.pairwise"].contains n && vs[0]? == some (rawInt _)) = true then _ else _) Q E s
           rw [if_neg (by intro h; rw [hn, Bool.false_and] at h; cases h)]
           exact wpAny_pure hQ))

/-- the list at a, as it stands at each turn (a loop may append to it) -/
def Itl (K : PySem.W.Frag) (a : Addr) : It :=
  ⟨fun i H => ∃ xs x, SqL K H a xs ∧ xs[i]? = some x, fun i H x H' => H' = H ∧ ∀ xs, SqL K H a xs → xs[i]? = some x, fun i H => ∃ xs, SqL K H a xs ∧ xs.length ≤ i⟩
/-- lo, lo + 1, .. (n of them) -/
def Itr (lo : Int) (n : Nat) : It := ⟨fun i _ => i < n, fun i H x H' => H' = H ∧ x = .int (lo + i), fun i _ => n ≤ i⟩
theorem turn_list {P : Program} {w : World} {K : PySem.W.Frag} {tg : Expr} (a it : Addr) : Turn P w K tg (Itl K a) [it] it (fun i h => h.IsListIter it a i) where
  mem := by simp
  obj := fun i h st b hb => by
    have e : b = it := by simpa using hb
    subst e
    obtain ⟨o, e, c, d⟩ := st
    exact ⟨o, e, fun v z => by rw [d] at z; cases z⟩
  keep := fun i h h' st k => st.at fun o e => k it (by simp) o e
  item := by
    intro X hP hw hK hc i pins s σ H E I hf st hg
    subst hP hw hK
    obtain ⟨xs, x, hq, hx⟩ := hg
    obtain ⟨its, rv, p, hz⟩ := I.list hq
    obtain ⟨u, hu, ru⟩ := rv.get hx
    obtain ⟨f0, f1, f2, f3, f4, f5⟩ := hf it (by simp)
    refine wpAny_pyNext_list_item st p.isList (x := u) (by simpa using hu) fun h' st' sb => ?_
    have I1 : Inv X pins σ H { s with heap := h' } := I.turned (t' := s.toks) (fun b o hb e => (sb.2 b hb).trans e) f0 f1 f3 f4 f5
    obtain ⟨o, e, c, d⟩ := id st'
    exact ⟨u, rfl, go_of (s := { s with heap := h' }) e c d (by decide) ⟨x, H, I1, ru, ⟨rfl, fun ys hy => by rw [I.list_inj hy hq]; exact hx⟩, st', fun b hb => (hf b hb).1⟩⟩
  done := by
    intro X hP hw hK hc i pins s σ H E I hf st hg
    subst hP hw hK
    obtain ⟨xs, hq, hx⟩ := hg
    obtain ⟨its, rv, p, hz⟩ := I.list hq
    obtain ⟨f0, f1, f2, f3, f4, f5⟩ := hf it (by simp)
    have hl := rv.length
    exact wpAny_pyNext_list_end (I.ok.hd hc) st p.isList (by simp; omega) fun h' eb => ⟨rfl, I.turned (t' := s.toks) (fun b o hb e => eb b o hb e) f0 f1 f3 f4 f5⟩
  self := fun _ _ _ _ _ st h => wpAny_pyIter_listiter st h
theorem turn_range {P : Program} {w : World} {K : PySem.W.Frag} {tg : Expr} (it : Addr) (lo : Int) (n : Nat) : Turn P w K tg (Itr lo n) [it] it (fun i h => IsRangeIter h it (lo + (i : Nat) * 1) ((n : Int) - (i : Nat)) 1) where
  mem := by simp
  obj := fun i h st b hb => by
    have e : b = it := by simpa using hb
    subst e
    exact ⟨_, st, fun v z => by
      have z' : Data.fields _ = Data.cell v := z
      cases z'⟩
  keep := fun i h h' st k => k it (by simp) _ st
  item := by
    intro X hP hw hK hc i pins s σ H E I hf st hg
    subst hP hw hK
    obtain ⟨f0, f1, f2, f3, f4, f5⟩ := hf it (by simp)
    have W := Walks.range (prog := X.prog) (w := X.w) (I.ok.hd hc) it lo 1 n
    refine W.item i s _ _ hg st fun v h' tk hv st' kk => ?_
    obtain ⟨t, rfl⟩ := hv
    have I1 : Inv X pins σ H { s with heap := h', toks := tk } := I.turned (fun b o hb e => kk b o (by simpa using hb) e) f0 f1 f3 f4 f5
    refine ⟨_, rfl, go_of (s := { s with heap := h', toks := tk }) (n := "range_iterator") st' rfl rfl (by decide) ⟨.int (lo + i), H, I1, ⟨t, ?_⟩, ⟨rfl, rfl⟩, st', fun b hb => (hf b hb).1⟩⟩
    rw [Int.mul_one]
  done := by
    intro X hP hw hK hc i pins s σ H E I hf st hg
    subst hP hw hK
    obtain ⟨f0, f1, f2, f3, f4, f5⟩ := hf it (by simp)
    exact wpAny_pyNext_range_end (I.ok.hd hc) st (by have : n ≤ i := hg; omega) fun h' eb => ⟨rfl, I.turned (t' := s.toks) (fun b o hb e => eb b o hb e) f0 f1 f3 f4 f5⟩
  self := fun _ _ _ _ _ st h => wpAny_pyIter_rangeiter st h
end L2

namespace L2
open PySem PySem.Spec PyProof.Rows
section
variable {X : Cx} {tg : Expr}
def iList (K : PySem.W.Frag) (tl : TE) : TI := fun σ H R => tl σ H fun x H1 => ∃ a, x = .ref a ∧ (∃ xs, SqL K H1 a xs) ∧ R (Itl K a) H1
theorem pi_list {l : Expr} {tl : TE} (hl : PE X l tl) : PI X tg l (iList X.K tl) := by
  intro pins s σ H R I h
  refine thn (hl pins s σ H _ I h) fun v s1 ⟨x, H1, I1, r1, q1⟩ => ?_
  obtain ⟨a, e, ⟨xs, hq⟩, q⟩ := q1
  subst e
  cases r1
  obtain ⟨its, rv, p, hz⟩ := I1.list hq
  refine wpAny_pyIter_list p.isList ?_
  refine ⟨s1.heap.objs.size, [s1.heap.objs.size], _, _, H1, rfl, I1.kept (t' := s1.toks) fun b o e => Heap.get?_push_of_some _ e, turn_list a _, ⟨_, Heap.get?_push_size _ rfl, rfl, rfl⟩, fun b hb => ?_, q⟩
  have e : b = s1.heap.objs.size := by simpa using hb
  subst e
  exact I1.fpOk (Nat.le_refl _) (I1.hok.fresh (Nat.le_refl _))
/-- a range object just made, walked -/
theorem range_it {pins : List (Addr × Obj)} {σ : St} {H : Hp} {s : Shared} {R : It → Hp → Prop} {E : Value → Shared → Prop} {lo hi : Int} {t u v : Tok} {tk : Nat} (I : Inv X pins σ H s) (h1 : -(2 ^ 62) ≤ lo) (h2 : lo < 2 ^ 62) (h3 : -(2 ^ 62) ≤ hi) (h4 : hi < 2 ^ 62)
    (q : R (Itr lo (hi - lo).toNat) H) : wpAny (model X.prog X.w) X.A (pyIter (.ref s.heap.objs.size)) (PIE X pins σ tg R) E { s with heap := s.heap.push { cls := .type "range", data := .fields #[.int lo t, .int hi u, .int 1 v] }, toks := tk } := by
  refine wpAny_pyIter_range (IsRange.new ..) (small_one h1 h2 h3 h4) ?_
  have I1 : Inv X pins σ H { s with heap := s.heap.push { cls := .type "range", data := .fields #[.int lo t, .int hi u, .int 1 v] }, toks := tk } := I.kept fun b o e => Heap.get?_push_of_some _ e
  refine ⟨(s.heap.push { cls := .type "range", data := .fields #[.int lo t, .int hi u, .int 1 v] }).objs.size, [(s.heap.push { cls := .type "range", data := .fields #[.int lo t, .int hi u, .int 1 v] }).objs.size], _, _, H, rfl,
    I1.kept (t' := tk) fun b o e => Heap.get?_push_of_some _ e, turn_range _ lo (hi - lo).toNat, ?_, fun b hb => ?_, q⟩
  · have e1 : lo + ((0 : Nat) : Int) * 1 = lo := by simp
    have e2 : (((hi - lo).toNat : Nat) : Int) - ((0 : Nat) : Int) = Builtin.Range.rangeSize lo hi 1 := by rw [rangeSize_one]; split <;> omega
    show IsRangeIter _ _ (lo + ((0 : Nat) : Int) * 1) ((((hi - lo).toNat : Nat) : Int) - ((0 : Nat) : Int)) 1
    rw [e1, e2]
    exact Heap.get?_push_size _ rfl
  · have e : b = (s.heap.push { cls := .type "range", data := .fields #[.int lo t, .int hi u, .int 1 v] }).objs.size := by simpa using hb
    subst e
    exact I1.fpOk (Nat.le_refl _) (I1.hok.fresh (Nat.le_refl _))
def iRng1 (ta : TA) : TI := fun σ H R => ta σ H fun vs H1 => ∃ j : Int, vs = [.int j] ∧ -(2 ^ 62) ≤ j ∧ j < 2 ^ 62 ∧ R (Itr 0 j.toNat) H1
theorem pi_range1 {a : Expr} {ta : TA} {p pos : Pos} (hg : Gl X "range") (hm : X.mg "range" = none) (ha : PA X [a] ta) (hs : starEach [a] X.env = [(false, eval a X.env)] := by rfl) : PI X tg (.Call (.Name "range" p) [a] [] pos) (iRng1 ta) := by
  intro pins s σ H R I h
  refine Call_ (ld_blt I hg hm boot_range (PyProof.Rows.callWith_type1 (thn (ha pos pins s σ H _ I h) fun us s1 ⟨vs, H1, I1, r1, q1⟩ => ?_) hs rfl))
  obtain ⟨j, e, q1, q2, q⟩ := q1
  subst e
  cases r1 with
  | cons r rr =>
    cases rr
    obtain ⟨t, rfl⟩ := r
    exact call_range_1 (range_it I1 (by omega) (by omega) q1 q2 (by simpa using q))

/-! ### for -/
/-- W: the invariant by the turn and a measure; N: what the body is to reach -/
def tFor (wi : TI) (g : TG) (tb : TS) : TS := fun D σ H => wi σ H fun J H1 => ∃ W : Nat → Nat → St → Hp → Prop, (∃ m, W 0 m σ H1) ∧ ∀ i m σ H, W i m σ H →
  (J.stop i H ∧ D.nx σ H) ∨ (J.go i H ∧ ∃ N : St → Hp → Prop, (∀ σ' H', N σ' H' → ∃ m', m' < m ∧ W (i + 1) m' σ' H') ∧ ∀ x H', J.yld i H x H' → g x σ H' fun σ2 H2 => tb { D with nx := N, ct := N, bk := D.nx } σ2 H2)
/-- the records at fp as they stand -/
def pinsAt (fp : List Addr) (h : Heap) : List (Addr × Obj) := fp.filterMap fun b => (h.get? b).map fun o => (b, o)
theorem mem_pinsAt {fp : List Addr} {h : Heap} {b : Addr} {o : Obj} (hb : b ∈ fp) (e : h.get? b = some o) : (b, o) ∈ pinsAt fp h := List.mem_filterMap.mpr ⟨b, hb, by rw [e]; rfl⟩
theorem of_pinsAt {fp : List Addr} {h : Heap} {p : Addr × Obj} (hp : p ∈ pinsAt fp h) : p.1 ∈ fp ∧ h.get? p.1 = some p.2 := by
  obtain ⟨b, hb, e⟩ := List.mem_filterMap.mp hp
  cases q : h.get? b with
  | none => rw [q] at e; cases e
  | some o =>
    rw [q] at e
    have e' : (b, o) = p := Option.some.inj e
    subst e'
    exact ⟨hb, q⟩
theorem Inv.pinned {pins : List (Addr × Obj)} {σ : St} {H : Hp} {s : Shared} {fp : List Addr} (I : Inv X pins σ H s) (hf : ∀ b ∈ fp, FpOk X pins H b) (ho : ∀ b ∈ fp, ∃ o, s.heap.get? b = some o ∧ ∀ v, o.data ≠ .cell v) : Inv X (pins ++ pinsAt fp s.heap) σ H s :=
  I.pins_of fun p hp => (List.mem_append.mp hp).elim (fun z => I.pin p (List.mem_append_right _ z)) fun z => by
    obtain ⟨hb, e⟩ := of_pinsAt z
    obtain ⟨f0, f1, f2, _⟩ := hf p.1 hb
    obtain ⟨o, e', d⟩ := ho p.1 hb
    rw [e] at e'; cases e'
    exact ⟨e, f0, f1, f2, d⟩
theorem Inv.unpinned {pins pl : List (Addr × Obj)} {σ : St} {H : Hp} {s : Shared} (I : Inv X (pins ++ pl) σ H s) : Inv X pins σ H s := I.pins_of fun p hp => I.pin p (List.mem_append_right _ (List.mem_append_left _ hp))
theorem ps_for {iter : Expr} {body : List Stmt} {wi : TI} {g : TG} {tb : TS} {pos : Pos} (hp : PassesOwn (model X.prog X.w) X.A X.env X.xe) (hc : X.calm = true) (hi : PI X tg iter wi) (hg : PG X tg g) (hb : PSs X body tb)
    (hs : ∀ x, foldedSetIterable iter X.env x = pure x := by intro _; rfl) : PS X (.For tg iter body [] pos) (tFor wi g tb) := by
  intro pins s σ H D I h
  refine wpAny_For (thn (hi pins s σ H _ I h) fun v s1 h1 => thn h1 fun itv s2 h2 => ?_) hs
  obtain ⟨it, fp, tn, J, H2, e, I2, T, st2, f2, W, ⟨m0, w0⟩, turn⟩ := h2
  subst e
  have stat : ∀ {H' : Hp}, (∀ b ∈ fp, H' b = none) → ∀ b ∈ fp, FpOk X pins H' b := fun hn b hb => ⟨hn b hb, (f2 b hb).2⟩
  refine codeAny_forLoop_any (fun n s' => ∃ i σ' H', Inv X pins σ' H' s' ∧ tn i s'.heap ∧ (∀ b ∈ fp, H' b = none) ∧ W i n σ' H') ?_ m0 ⟨0, σ, H2, I2, st2, fun b hb => (f2 b hb).1, w0⟩
  rintro n s3 ⟨i, σ3, H3, I3, st3, fr3, w3⟩
  rcases turn i n σ3 H3 w3 with ⟨stop, qn⟩ | ⟨go, N, hN, step⟩
  · refine wpAny_passesOwn hp (thn (T.done X rfl rfl rfl hc i pins s3 σ3 H3 X.xe I3 (stat fr3) st3 stop) fun r s4 ⟨hr, I4⟩ => ?_)
    subst hr
    exact wpAny_execs_nil ⟨σ3, H3, I4, qn⟩
  · refine wpAny_passesOwn hp (thn (T.item X rfl rfl rfl hc i pins s3 σ3 H3 X.xe I3 (stat fr3) st3 go) fun r s4 ⟨u, hr, h4⟩ => ?_)
    subst hr
    refine wpAny_passesOwn hp (thn h4 fun _ s5 ⟨x, H5, I5, r5, y5, st5, fr5⟩ => ?_)
    have I5' := I5.pinned (stat fr5) (T.obj _ _ st5)
    refine wpAny_passesOwn hp (thn (hg _ s5 σ3 H5 x u _ I5' r5 (step x H5 y5)) fun _ s6 ⟨σ6, H6, I6, q6⟩ => ?_)
    refine wpAny_passesOwn hp (thn (hb _ s6 σ6 H6 _ I6 q6) fun f s7 q7 => ?_)
    have again : ∀ {σ7 : St} {H7 : Hp}, Inv X (pins ++ pinsAt fp s5.heap) σ7 H7 s7 → N σ7 H7 → ∃ m, m < n ∧ ∃ i σ' H', Inv X pins σ' H' s7 ∧ tn i s7.heap ∧ (∀ b ∈ fp, H' b = none) ∧ W i m σ' H' := fun {σ7 H7} I7 n7 => by
      obtain ⟨m', hm, w7⟩ := hN σ7 H7 n7
      refine ⟨m', hm, i + 1, σ7, H7, I7.unpinned, T.keep _ _ _ st5 fun b hb o e => (I7.pin (b, o) (List.mem_append_right _ (List.mem_append_right _ (mem_pinsAt hb e)))).1, fun b hb => ?_, w7⟩
      obtain ⟨o, e, d⟩ := T.obj _ _ st5 b hb
      exact (I7.pin (b, o) (List.mem_append_right _ (List.mem_append_right _ (mem_pinsAt hb e)))).2.1
    cases f with
    | next => obtain ⟨σ7, H7, I7, n7⟩ := q7; exact again I7 n7
    | cont => obtain ⟨σ7, H7, I7, n7⟩ := q7; exact again I7 n7
    | brk => obtain ⟨σ7, H7, I7, q7⟩ := q7; exact ⟨σ7, H7, I7.unpinned, q7⟩
    | ret v => obtain ⟨x7, σ7, H7, I7, r7, q7⟩ := q7; exact ⟨x7, σ7, H7, I7.unpinned, r7, q7⟩
end

/-! ### the forms one uses -/
/-- over a list that the body leaves as it is -/
theorem for_list {K : PySem.W.Frag} {a : Addr} {xs : List V} {g : TG} {tb : TS} {D : Ends} {σ : St} {H : Hp} (Pv : Nat → St → Hp → Prop) (h0 : Pv 0 σ H) (hl : ∀ i σ H, i ≤ xs.length → Pv i σ H → SqL K H a xs)
    (hs : ∀ i x σ H, xs[i]? = some x → Pv i σ H → g x σ H fun σ2 H2 => tb { D with nx := Pv (i + 1), ct := Pv (i + 1), bk := D.nx } σ2 H2) (hd : ∀ σ H, Pv xs.length σ H → D.nx σ H) :
    ∃ W : Nat → Nat → St → Hp → Prop, (∃ m, W 0 m σ H) ∧ ∀ i m σ H, W i m σ H →
      ((Itl K a).stop i H ∧ D.nx σ H) ∨ ((Itl K a).go i H ∧ ∃ N : St → Hp → Prop, (∀ σ' H', N σ' H' → ∃ m', m' < m ∧ W (i + 1) m' σ' H') ∧ ∀ x H', (Itl K a).yld i H x H' → g x σ H' fun σ2 H2 => tb { D with nx := N, ct := N, bk := D.nx } σ2 H2) := by
  refine ⟨fun i m σ H => m = xs.length - i ∧ i ≤ xs.length ∧ Pv i σ H, ⟨xs.length, by simp, Nat.zero_le _, h0⟩, ?_⟩
  rintro i m σ H ⟨rfl, hi, p⟩
  have q := hl i σ H hi p
  by_cases hlt : i < xs.length
  · refine .inr ⟨⟨xs, xs[i], q, by simp [hlt]⟩, Pv (i + 1), fun σ' H' p' => ⟨xs.length - (i + 1), by omega, rfl, hlt, p'⟩, fun x H' y => ?_⟩
    obtain ⟨e, y⟩ := y
    subst e
    exact hs i x σ _ (y xs q) p
  · have e : i = xs.length := by omega
    subst e
    exact .inl ⟨⟨xs, q, Nat.le_refl _⟩, hd σ H p⟩
theorem for_range {lo : Int} {n : Nat} {g : TG} {tb : TS} {D : Ends} {σ : St} {H : Hp} (Pv : Nat → St → Hp → Prop) (h0 : Pv 0 σ H)
    (hs : ∀ i σ H, i < n → Pv i σ H → g (.int (lo + i)) σ H fun σ2 H2 => tb { D with nx := Pv (i + 1), ct := Pv (i + 1), bk := D.nx } σ2 H2) (hd : ∀ σ H, Pv n σ H → D.nx σ H) :
    ∃ W : Nat → Nat → St → Hp → Prop, (∃ m, W 0 m σ H) ∧ ∀ i m σ H, W i m σ H →
      ((Itr lo n).stop i H ∧ D.nx σ H) ∨ ((Itr lo n).go i H ∧ ∃ N : St → Hp → Prop, (∀ σ' H', N σ' H' → ∃ m', m' < m ∧ W (i + 1) m' σ' H') ∧ ∀ x H', (Itr lo n).yld i H x H' → g x σ H' fun σ2 H2 => tb { D with nx := N, ct := N, bk := D.nx } σ2 H2) := by
  refine ⟨fun i m σ H => m = n - i ∧ i ≤ n ∧ Pv i σ H, ⟨n, by simp, Nat.zero_le _, h0⟩, ?_⟩
  rintro i m σ H ⟨rfl, hi, p⟩
  by_cases hlt : i < n
  · refine .inr ⟨hlt, Pv (i + 1), fun σ' H' p' => ⟨n - (i + 1), by omega, rfl, hlt, p'⟩, fun x H' y => ?_⟩
    obtain ⟨e, y⟩ := y
    subst e y
    exact hs i σ _ hlt p
  · have e : i = n := by omega
    subst e
    exact .inl ⟨Nat.le_refl _, hd σ H p⟩
end L2

namespace L2
open PySem PySem.Spec PyProof.Rows

abbrev R2 := V → V → Hp → VK → Prop
/-- a two-place operation on values: f is binaryOp op, inplaceOp op or compareOp op -/
def OpR (X : Cx) (f : Value → Value → Sem Value) (r : R2) : Prop :=
  ∀ (pins : List (Addr × Obj)) (s : Shared) (σ : St) (H : Hp) (x y : V) (v u : Value) (Q : VK), Inv X pins σ H s → RelV x v → RelV y u → r x y H Q →
    wpAny (model X.prog X.w) X.A (f v u) (EP X pins σ Q) X.xe s
/-- a call of a value that is known (a builtin, a type) with values -/
def CallR (X : Cx) (f : Value) (r : List V → Hp → VK → Prop) : Prop :=
  ∀ (pins : List (Addr × Obj)) (s : Shared) (σ : St) (H : Hp) (xs : List V) (us : List Value) (Q : VK), Inv X pins σ H s → Vals xs us → r xs H Q →
    wpAny (model X.prog X.w) X.A (call f us) (EP X pins σ Q) X.xe s
/-- a value's truth -/
def TruR (X : Cx) (r : V → Hp → (Bool → Hp → Prop) → Prop) : Prop :=
  ∀ (pins : List (Addr × Obj)) (s : Shared) (σ : St) (H : Hp) (x : V) (v : Value) (Q : Bool → Hp → Prop), Inv X pins σ H s → RelV x v → r x H Q →
    wpAny (model X.prog X.w) X.A (truthy v) (TP X pins σ Q) X.xe s

def tOp (r : R2) (ta tb : TE) : TE := fun σ H Q => ta σ H fun x H1 => tb σ H1 fun y H2 => r x y H2 Q
/-- ints in, under C, and a value out -/
def rI (C : Int → Int → Prop) (g : Int → Int → V) : R2 := fun x y H Q => ∃ i j, x = .int i ∧ y = .int j ∧ C i j ∧ Q (g i j) H
def rI0 (g : Int → Int → V) : R2 := fun x y H Q => ∃ i j, x = .int i ∧ y = .int j ∧ Q (g i j) H

section
variable {X : Cx} {a b c : Expr} {ta tb tc : TE} {pos : Pos}

theorem binT (ha : PE X a ta) (hb : PE X b tb) {pins : List (Addr × Obj)} {s : Shared} {σ : St} {H : Hp} {R : V → V → Hp → Prop} (I : Inv X pins σ H s)
    (h : ta σ H fun x H1 => tb σ H1 fun y H2 => R x y H2) {Q : Value → Shared → Prop} {f : Value → Value → Sem Value}
    (hf : ∀ v u s2 x y H2, Inv X pins σ H2 s2 → RelV x v → RelV y u → R x y H2 → wpAny (model X.prog X.w) X.A (f v u) Q X.xe s2) :
    wpAny (model X.prog X.w) X.A (eval a X.env) (fun v s₁ => wpAny (model X.prog X.w) X.A (eval b X.env) (fun u s₂ => wpAny (model X.prog X.w) X.A (f v u) Q X.xe s₂) X.xe s₁) X.xe s := by
  refine thn (ha pins s σ H _ I h) fun v s1 ⟨x, H1, I1, r1, q1⟩ => ?_
  refine thn (hb pins s1 σ H1 _ I1 q1) fun u s2 ⟨y, H2, I2, r2, q2⟩ => ?_
  exact hf v u s2 x y H2 I2 r1 r2 q2

theorem pe_op {op : Operator} {r : R2} (ho : OpR X (binaryOp op) r) (ha : PE X a ta) (hb : PE X b tb) : PE X (.BinOp a op b pos) (tOp r ta tb) := by
  intro pins s σ H Q I h
  exact wpAny_BinOp (binT ha hb I h fun v u s2 x y H2 I2 rx ry q => ho pins s2 σ H2 x y v u Q I2 rx ry q)

/-! ### ints -/
theorem opI {f : Value → Value → Sem Value} {C : Int → Int → Prop} {g : Int → Int → Int}
    (rule : ∀ (i j : Int) (t u : Tok) (s : Shared) (Q : Value → Shared → Prop) (E : Value → Shared → Prop), C i j → Q (.int (g i j) s.toks) { s with toks := s.toks + 1 } → wpAny (model X.prog X.w) X.A (f (.int i t) (.int j u)) Q E s) :
    OpR X f (rI C fun i j => .int (g i j)) := by
  intro pins s σ H x y v u Q I rx ry h
  obtain ⟨i, j, rfl, rfl, hc, q⟩ := h
  obtain ⟨t, rfl⟩ := rx
  obtain ⟨t', rfl⟩ := ry
  exact rule i j t t' s _ _ hc ⟨.int (g i j), H, I.tok _, ⟨_, rfl⟩, q⟩
theorem opI0 {f : Value → Value → Sem Value} {g : Int → Int → Int}
    (rule : ∀ (i j : Int) (t u : Tok) (s : Shared) (Q : Value → Shared → Prop) (E : Value → Shared → Prop), Q (.int (g i j) s.toks) { s with toks := s.toks + 1 } → wpAny (model X.prog X.w) X.A (f (.int i t) (.int j u)) Q E s) :
    OpR X f (rI0 fun i j => .int (g i j)) := by
  intro pins s σ H x y v u Q I rx ry h
  obtain ⟨i, j, rfl, rfl, q⟩ := h
  obtain ⟨t, rfl⟩ := rx
  obtain ⟨t', rfl⟩ := ry
  exact rule i j t t' s _ _ ⟨.int (g i j), H, I.tok _, ⟨_, rfl⟩, q⟩
theorem opB0 {f : Value → Value → Sem Value} {g : Int → Int → Bool}
    (rule : ∀ (i j : Int) (t u : Tok) (s : Shared) (Q : Value → Shared → Prop) (E : Value → Shared → Prop), Q (.bool (g i j)) s → wpAny (model X.prog X.w) X.A (f (.int i t) (.int j u)) Q E s) :
    OpR X f (rI0 fun i j => .bl (g i j)) := by
  intro pins s σ H x y v u Q I rx ry h
  obtain ⟨i, j, rfl, rfl, q⟩ := h
  obtain ⟨t, rfl⟩ := rx
  obtain ⟨t', rfl⟩ := ry
  exact rule i j t t' s _ _ ⟨.bl (g i j), H, I, rfl, q⟩

def CDiv (i j : Int) : Prop := 0 < j ∧ j < 1073741824
def CMul (i j : Int) : Prop := (-(2 ^ 64) < i ∧ i < 2 ^ 64) ∨ (-(2 ^ 64) < j ∧ j < 2 ^ 64)
theorem CMul.ok {i j : Int} (h : CMul i j) : IntMulOk i j := by
  rcases h with ⟨h1, h2⟩ | ⟨h1, h2⟩
  · exact .of_left (intBits_le_64 h1 h2)
  · exact .of_right (intBits_le_64 h1 h2)

theorem op_add : OpR X (binaryOp .Add) (rI0 fun i j => .int (i + j)) := opI0 fun _ _ _ _ _ _ _ q => add_int q
theorem op_mul : OpR X (binaryOp .Mult) (rI CMul fun i j => .int (i * j)) := opI fun _ _ _ _ _ _ _ hc q => mul_int q hc.ok
/-- // by a positive divisor -/
theorem op_fdiv : OpR X (binaryOp .FloorDiv) (rI CDiv fun i j => .int (i / j)) := opI fun i j _ _ _ _ _ hc q => by
  have h1 : (0 : Int) < j := hc.1
  have h2 : j < 1073741824 := hc.2
  exact floordiv_int (by omega) (by rw [Int.fdiv_eq_ediv_of_nonneg i (by omega)]; exact q) (.inl (PyProof.noPylong_small (by omega)))
/-- % by a positive divisor of any size -/
theorem op_mod : OpR X (binaryOp .Mod) (rI (fun _ j => 0 < j) fun i j => .int (i % j)) := opI fun i j _ _ _ _ _ hc q => by
  have h1 : (0 : Int) < j := hc
  exact mod_int' (by omega) (by rw [Int.fmod_eq_emod_of_nonneg i (by omega)]; exact q)



/-! ### bools among ints: n += (a < b) -/
end

/-! ### comparisons -/
/-- the scalars that == tells apart as data does -/
def scal : V → V → Bool
  | .non, .non => true | .non, .int _ => true | .int _, .non => true | .non, .bl _ => true | .bl _, .non => true | .non, .str _ => true | .str _, .non => true
  | .int _, .int _ => true | .bl _, .bl _ => true | .str _, .str _ => true | .byt _, .byt _ => true
  | .int _, .str _ => true | .str _, .int _ => true | .bl _, .str _ => true | .str _, .bl _ => true
  | _, _ => false
def rEq : R2 := fun x y H Q => scal x y = true ∧ Q (.bl (decide (x = y))) H
def rNe : R2 := fun x y H Q => scal x y = true ∧ Q (.bl (!decide (x = y))) H

theorem dec_int {i j : Int} : decide (V.int i = V.int j) = (i == j) := by
  rw [Bool.eq_iff_iff]
  simp
theorem dec_bl {i j : Bool} : decide (V.bl i = V.bl j) = (i == j) := by
  rw [Bool.eq_iff_iff]
  simp
theorem dec_str {i j : Str} : decide (V.str i = V.str j) = (i == j) := by
  rw [Bool.eq_iff_iff]
  simp
theorem dec_byt {i j : Array UInt8} : decide (V.byt i = V.byt j) = (i.toList == j.toList) := by
  rw [Bool.eq_iff_iff]
  cases i
  cases j
  simp

section
variable {X : Cx} {a b c : Expr} {ta tb tc : TE} {pos : Pos}
theorem fin_bl {pins : List (Addr × Obj)} {σ : St} {H : Hp} {s : Shared} {Q : VK} {k k' : Bool} (I : Inv X pins σ H s) (q : Q (.bl k) H) (e : k = k') : EP X pins σ Q (.bool k') s := by
  subst e
  exact ⟨.bl k, H, I, rfl, q⟩
theorem op_eq : OpR X (compareOp .Eq) rEq := by
  intro pins s σ H x y v u Q I rx ry h
  obtain ⟨hs, q⟩ := h
  cases x with
  | non =>
    cases rx
    cases y with
    | non => cases ry; exact PySem.EqNone.eq_none_none (fin_bl I q (by simp))
    | bl j => cases ry; exact PySem.EqNone.eq_none_bool (fin_bl I q (by simp))
    | int j => obtain ⟨t', rfl⟩ := ry; exact PySem.EqNone.eq_none_int (fin_bl I q (by simp))
    | str j => obtain ⟨t', rfl⟩ := ry; exact PySem.EqNone.eq_none_str (fin_bl I q (by simp))
    | _ => exact absurd (show false = true from hs) Bool.false_ne_true
  | bl i =>
    cases rx
    cases y with
    | non => cases ry; exact PySem.EqNone.eq_bool_none (fin_bl I q (by simp))
    | bl j => cases ry; exact eq_bool (fin_bl I q dec_bl)
    | str j => obtain ⟨t', rfl⟩ := ry; exact PySem.EqMixed.eq_bool_str (fin_bl I q (by simp))
    | _ => exact absurd (show false = true from hs) Bool.false_ne_true
  | int i =>
    obtain ⟨t, rfl⟩ := rx
    cases y with
    | non => cases ry; exact PySem.EqNone.eq_int_none (fin_bl I q (by simp))
    | int j => obtain ⟨t', rfl⟩ := ry; exact eq_int (fin_bl I q dec_int)
    | str j => obtain ⟨t', rfl⟩ := ry; exact PySem.EqMixed.eq_int_str (fin_bl I q (by simp))
    | _ => exact absurd (show false = true from hs) Bool.false_ne_true
  | str i =>
    obtain ⟨t, rfl⟩ := rx
    cases y with
    | non => cases ry; exact PySem.EqNone.eq_str_none (fin_bl I q (by simp))
    | bl j => cases ry; exact PySem.EqMixed.eq_str_bool (fin_bl I q (by simp))
    | int j => obtain ⟨t', rfl⟩ := ry; exact PySem.EqMixed.eq_str_int (fin_bl I q (by simp))
    | str j => obtain ⟨t', rfl⟩ := ry; exact eq_str (fin_bl I q dec_str)
    | _ => exact absurd (show false = true from hs) Bool.false_ne_true
  | byt i =>
    obtain ⟨t, rfl⟩ := rx
    cases y with
    | byt j => obtain ⟨t', rfl⟩ := ry; exact PySem.W.eq_bytes (fin_bl I q dec_byt)
    | _ => exact absurd (show false = true from hs) Bool.false_ne_true
  | _ => cases y <;> exact absurd (show false = true from hs) Bool.false_ne_true
theorem op_ne : OpR X (compareOp .NotEq) rNe := by
  intro pins s σ H x y v u Q I rx ry h
  obtain ⟨hs, q⟩ := h
  cases x with
  | non =>
    cases rx
    cases y with
    | non => cases ry; exact PySem.EqNone.ne_none_none (fin_bl I q (by simp))
    | bl j => cases ry; exact PySem.EqNone.ne_none_bool (fin_bl I q (by simp))
    | int j => obtain ⟨t', rfl⟩ := ry; exact PySem.EqNone.ne_none_int (fin_bl I q (by simp))
    | str j => obtain ⟨t', rfl⟩ := ry; exact PySem.EqNone.ne_none_str (fin_bl I q (by simp))
    | _ => exact absurd (show false = true from hs) Bool.false_ne_true
  | bl i =>
    cases rx
    cases y with
    | non => cases ry; exact PySem.EqNone.ne_bool_none (fin_bl I q (by simp))
    | bl j => cases ry; exact ne_bool (fin_bl I q (congrArg not dec_bl))
    | str j => obtain ⟨t', rfl⟩ := ry; exact PySem.EqMixed.ne_bool_str (fin_bl I q (by simp))
    | _ => exact absurd (show false = true from hs) Bool.false_ne_true
  | int i =>
    obtain ⟨t, rfl⟩ := rx
    cases y with
    | non => cases ry; exact PySem.EqNone.ne_int_none (fin_bl I q (by simp))
    | int j => obtain ⟨t', rfl⟩ := ry; exact ne_int (fin_bl I q (congrArg not dec_int))
    | str j => obtain ⟨t', rfl⟩ := ry; exact PySem.EqMixed.ne_int_str (fin_bl I q (by simp))
    | _ => exact absurd (show false = true from hs) Bool.false_ne_true
  | str i =>
    obtain ⟨t, rfl⟩ := rx
    cases y with
    | non => cases ry; exact PySem.EqNone.ne_str_none (fin_bl I q (by simp))
    | bl j => cases ry; exact PySem.EqMixed.ne_str_bool (fin_bl I q (by simp))
    | int j => obtain ⟨t', rfl⟩ := ry; exact PySem.EqMixed.ne_str_int (fin_bl I q (by simp))
    | str j => obtain ⟨t', rfl⟩ := ry; exact ne_str (fin_bl I q (congrArg not dec_str))
    | _ => exact absurd (show false = true from hs) Bool.false_ne_true
  | byt i =>
    obtain ⟨t, rfl⟩ := rx
    cases y with
    | byt j => obtain ⟨t', rfl⟩ := ry; exact PySem.W.ne_bytes (fin_bl I q (congrArg not dec_byt))
    | _ => exact absurd (show false = true from hs) Bool.false_ne_true
  | _ => cases y <;> exact absurd (show false = true from hs) Bool.false_ne_true

theorem op_lt : OpR X (compareOp .Lt) (rI0 fun i j => .bl (decide (i < j))) := opB0 fun _ _ _ _ _ _ _ q => lt_int q
theorem op_le : OpR X (compareOp .LtE) (rI0 fun i j => .bl (decide (i ≤ j))) := opB0 fun _ _ _ _ _ _ _ q => le_int q
theorem op_gt : OpR X (compareOp .Gt) (rI0 fun i j => .bl (decide (j < i))) := opB0 fun _ _ _ _ _ _ _ q => gt_int q
theorem op_ge : OpR X (compareOp .GtE) (rI0 fun i j => .bl (decide (j ≤ i))) := opB0 fun _ _ _ _ _ _ _ q => ge_int q

theorem op_notN : OpR X (compareOp .IsNot) (fun x y H Q => y = .non ∧ Q (.bl (!decide (x = .non))) H) := by
  intro pins s σ H x y v u Q I rx ry h
  obtain ⟨rfl, q⟩ := h
  cases ry
  refine isnot_none_gen (fin_bl I q ?_)
  cases x <;> first
    | (cases rx; rfl)
    | (obtain ⟨t, rfl⟩ := rx; rfl)



theorem nomark (b : Expr) {op : CmpOp} (h : op ≠ .In := by decide) (h2 : op ≠ .NotIn := by decide) : behindInMarks op b = false := by
  have e1 : (op == CmpOp.In) = false := by cases op <;> first | rfl | exact absurd rfl h
  have e2 : (op == CmpOp.NotIn) = false := by cases op <;> first | rfl | exact absurd rfl h2
  cases b <;> simp [behindInMarks, e1, e2]
/-- a comparison as a value; hm: nomark b, or (for in, not in) by with_unfolding_all rfl -/
theorem pe_cmpR {op : CmpOp} {r : R2} (ho : OpR X (compareOp op) r) (ha : PE X a ta) (hb : PE X b tb) (hm : behindInMarks op b = false) : PE X (.Compare a [op] [b] pos) (tOp r ta tb) := by
  intro pins s σ H Q I h
  exact wpAny_Compare1 (binT ha hb I h fun v u s2 x y H2 I2 rx ry q => ho pins s2 σ H2 x y v u Q I2 rx ry q) hm
/-- a reading of a value as a test -/
def tTest (t : TE) : TT := fun σ H Q => t σ H fun x H' => ∃ k, x = .bl k ∧ Q k H'
theorem pt_cmpR {op : CmpOp} {r : R2} (ho : OpR X (compareOp op) r) (ha : PE X a ta) (hb : PE X b tb) (hm : behindInMarks op b = false) : PT X (.Compare a [op] [b] pos) (tTest (tOp r ta tb)) := by
  intro pins s σ H Q I h
  refine wpAny_isTrue_Compare1 (thn (ha pins s σ H _ I h) fun v s1 ⟨x, H1, I1, r1, q1⟩ => thn (hb pins s1 σ H1 _ I1 q1) fun u s2 ⟨y, H2, I2, r2, q2⟩ =>
    thn (ho pins s2 σ H2 x y v u _ I2 r1 r2 q2) fun c s3 ⟨z, H3, I3, r3, k, e, q3⟩ => ?_) hm
  subst e
  cases r3
  exact wpAny_truthy_bool ⟨H3, I3, q3⟩
/-- a op1 b op2 c -/
def tChain (r r' : R2) (ta tb tc : TE) : TE := fun σ H Q => ta σ H fun x H1 => tb σ H1 fun y H2 => r x y H2 fun z H3 => ∃ k, z = .bl k ∧
  (if k = true then tc σ H3 fun w' H4 => r' y w' H4 Q else Q (.bl false) H3)
theorem pe_chain {op op' : CmpOp} {r r' : R2} (ho : OpR X (compareOp op) r) (ho' : OpR X (compareOp op') r') (ha : PE X a ta) (hb : PE X b tb) (hc : PE X c tc)
    (hm : lastMarks [op, op'] [b, c] = false := by with_unfolding_all rfl) : PE X (.Compare a [op, op'] [b, c] pos) (tChain r r' ta tb tc) := by
  intro pins s σ H Q I h
  refine Compare_chain (thn (ha pins s σ H _ I h) fun v s1 ⟨x, H1, I1, r1, q1⟩ => chain_link (thn (hb pins s1 σ H1 _ I1 q1) fun u s2 ⟨y, H2, I2, r2, q2⟩ =>
    thn (ho pins s2 σ H2 x y v u _ I2 r1 r2 q2) fun d s3 ⟨z, H3, I3, r3, k, e, q3⟩ => ?_)) hm
  subst e
  cases r3
  refine wpAny_truthy_bool ?_
  cases k with
  | false => exact ite_ff ⟨.bl false, H3, I3, rfl, q3⟩
  | true => exact ite_tt (chain_last (thn (hc pins s3 σ H3 _ I3 q3) fun w' s4 ⟨z', H4, I4, r4, q4⟩ => ho' pins s4 σ H4 y z' u w' Q I4 r2 r4 q4))

/-! ### truth -/
/-- a value's truth by the abstract heap -/
def TruV (K : PySem.W.Frag) (x : V) (H : Hp) (k : Bool) : Prop :=
  match x with
  | .non => k = false
  | .bl b => k = b
  | .int i => k = (i != 0)
  | .str y => y.length ≤ sizeLine ∧ k = ((y.length : Int) != 0)
  | .byt y => y.size ≤ sizeLine ∧ k = ((y.size : Int) != 0)
  | .ref p => (∃ xs, SqL K H p xs ∧ k = !xs.isEmpty) ∨ (∃ xs, SqT K H p xs ∧ k = !xs.isEmpty) ∨ ∃ kvs, H p = some (.dK kvs) ∧ k = !kvs.isEmpty
  | _ => False
theorem isEmpty_kv {κ : Type} {kvs : List (κ × V)} {vs : List (κ × Value)} (r : KV kvs vs) : (!vs.isEmpty) = !kvs.isEmpty := by
  cases r <;> rfl
theorem isEmpty_of {xs : List V} {its : List Value} (r : Vals xs its) : (!its.toArray.isEmpty) = !xs.isEmpty := by
  cases r <;> simp
theorem line63 : (sizeLine : Nat) < 2 ^ 63 := by rw [sizeLine_eq]; decide
theorem tru_ok : TruR X (fun x H Q => ∃ k, TruV X.K x H k ∧ Q k H) := by
  intro pins s σ H x v Q I rx h
  obtain ⟨k, e, q⟩ := h
  have hl := line63
  have hs : sizeLine = 16777216 := sizeLine_eq
  cases x with
  | non =>
    cases rx
    have e' : k = false := e
    subst e'
    exact truthy_none ⟨H, I, q⟩
  | bl b =>
    cases rx
    have e' : k = b := e
    subst e'
    exact wpAny_truthy_bool ⟨H, I, q⟩
  | int i =>
    obtain ⟨t, rfl⟩ := rx
    have e' : k = (i != 0) := e
    subst e'
    exact PySem.P.truthy_int ⟨H, I, q⟩
  | str y =>
    obtain ⟨t, rfl⟩ := rx
    obtain ⟨hy, e'⟩ : y.length ≤ sizeLine ∧ k = ((y.length : Int) != 0) := e
    subst e'
    exact PySem.P.truthy_str (by omega) ⟨H, I.tok _, q⟩
  | byt y =>
    obtain ⟨t, rfl⟩ := rx
    obtain ⟨hy, e'⟩ : y.size ≤ sizeLine ∧ k = ((y.size : Int) != 0) := e
    subst e'
    exact PySem.W.truthy_bytes (by omega) ⟨H, I.tok _, q⟩
  | ref p =>
    cases rx
    have e' : (∃ xs, SqL X.K H p xs ∧ k = !xs.isEmpty) ∨ (∃ xs, SqT X.K H p xs ∧ k = !xs.isEmpty) ∨ ∃ kvs, H p = some (.dK kvs) ∧ k = !kvs.isEmpty := e
    rcases e' with ⟨xs, hx, e'⟩ | ⟨xs, hx, e'⟩ | ⟨kvs, hx, e'⟩
    · subst e'
      obtain ⟨its, r, pl, hz⟩ := I.list hx
      have hlen := r.length
      exact wpAny_truthy_list pl.isList (by simp only [List.size_toArray]; omega) ⟨H, I.tok _, by rw [isEmpty_of r]; exact q⟩
    · subst e'
      obtain ⟨its, r, pl, hz⟩ := I.tuple hx
      have hlen := r.length
      exact truthy_tuple pl (by simp only [List.size_toArray]; omega) ⟨H, I.tok _, by rw [isEmpty_of r]; exact q⟩
    · subst e'
      obtain ⟨hz, hS, vs, r, m⟩ : kvs.length ≤ sizeLine ∧ (p == sysModules) = false ∧ ∃ vs, KV kvs vs ∧ s.heap.DictOf (mixKind X.prog X.w) p vs := I.hok p _ hx
      have hlen : kvs.length = vs.length := Paired.length r
      exact wpAny_truthy_dict hS m (by omega) ⟨H, I.tok _, by rw [isEmpty_kv r]; exact q⟩
  | _ => exact (show False from e).elim
/-- any expression whose test is its value's truth (a name, a call, a subscript, a field ..: he by fun _ => rfl) -/
theorem pt_truth (ha : PE X a ta) (he : ∀ whole, isTrue a X.env whole = (do let v ← whole; standAt a.pos; holding [v] (truthy v))) :
    PT X a (fun σ H Q => ta σ H fun x H' => ∃ k, TruV X.K x H' k ∧ Q k H') := by
  intro pins s σ H Q I h
  exact isTrue_plain (thn (ha pins s σ H _ I h) fun v s1 ⟨x, H1, I1, r1, q1⟩ => tru_ok pins s1 σ H1 x v Q I1 r1 q1) (he _)

/-! ### strs and bytes -/


/-! ### scalar builtins, by CallR -/
theorem vals1 {x : V} {us : List Value} (r : Vals [x] us) : ∃ u, us = [u] ∧ RelV x u := by
  cases r with
  | cons r1 r2 => cases r2; exact ⟨_, rfl, r1⟩
theorem vals2 {x y : V} {us : List Value} (r : Vals [x, y] us) : ∃ u w', us = [u, w'] ∧ RelV x u ∧ RelV y w' := by
  cases r with
  | cons r1 r2 =>
    cases r2 with
    | cons r3 r4 => cases r4; exact ⟨_, _, rfl, r1, r3⟩
theorem call_min2 (hc : X.calm = true) : CallR X (.builtin "min") (fun xs H Q => ∃ i j, xs = [.int i, .int j] ∧ Q (.int (if j < i then j else i)) H) := by
  intro pins s σ H xs us Q I r h
  obtain ⟨i, j, rfl, q⟩ := h
  obtain ⟨u, w', rfl, ⟨t, rfl⟩, ⟨t', rfl⟩⟩ := vals2 r
  refine min_two_ints (I.ok.hd hc) fun h' tk k => ⟨_, H, I.kept k, ?_, q⟩
  by_cases hj : j < i
  · rw [if_pos hj, if_pos hj]; exact ⟨_, rfl⟩
  · rw [if_neg hj, if_neg hj]; exact ⟨_, rfl⟩
end
end L2

namespace L2
open PySem PySem.Spec PyProof.Rows

/-! ### an instance, its attributes a map -/
structure ObjM (h : Heap) (x dx C : Addr) (mA : Str → Option Value) : Prop where
  obj : h.get? x = some (PySem.W.instObj C dx)
  ns : h.Ns1 dx mA
  ne : dx ≠ x

theorem lookIn_ns {h : Heap} {dx : Addr} {mA : Str → Option Value} (n : h.Ns1 dx mA) : ∃ od, h.get? dx = some od ∧ ∀ name, PySem.W.lookIn name od = some (mA name) := by
  obtain ⟨o, es, ep, ho, hd, hk, _, hm⟩ := n
  refine ⟨o, ho, fun name => ?_⟩
  have e := hm name
  unfold nsFind findBy at e
  rw [← Array.find?_toList] at e
  unfold PySem.W.lookIn
  rw [hd]
  dsimp only
  split
  · rename_i y q
    rw [q] at e
    exact congrArg some e
  · rename_i q
    rw [q] at e
    have a : es.toList.any (·.refKey) = false := by
      rw [List.any_eq_false]
      intro y hy
      obtain ⟨z, t, hkey⟩ := hk y (Array.mem_toList_iff.mp hy)
      simp [DictEntry.refKey, hkey]
    have a' : ¬ es.toList.any (·.refKey) = true := by rw [a]; exact Bool.false_ne_true
    rw [if_neg a']
    exact congrArg some e

theorem ObjM.look {h : Heap} {x dx C : Addr} {mA : Str → Option Value} (I : ObjM h x dx C mA) : ∃ od, PySem.W.InstAt h x (PySem.W.instObj C dx) C (some od) ∧ ∀ name, PySem.W.lookIn name od = some (mA name) :=
  let ⟨od, ho, hl⟩ := lookIn_ns I.ns
  ⟨od, ⟨I.obj, rfl, rfl, ho⟩, hl⟩

section
variable {prog : Program} {w : World} {A : Around} {E : Value → Shared → Prop} {s : Shared} {K : PySem.W.Frag} {x dx C f : Addr} {mA : Str → Option Value} {name : Str} {v : Value}





end

/-! ### the attributes as a list of pairs -/


section
variable {P : Program} {w : World} {H H' : Hp} {h h' : Heap} {a C dx : Addr} {fs fs' : List (Str × V)}
theorem ins_get (hok : HOk P w H h) (e : H a = some (.ins C dx fs)) : ∃ mA, ObjM h a dx C mA ∧ (∀ f, RelO (fs.lookup f) (mA f)) ∧ PySem.Within mA (fs.map (·.1)) ∧ fs.length ≤ 1000 ∧ H dx = some (.own a) := by
  obtain ⟨d, z, ne, ob, mA, n, r, q⟩ := (show ObjOk P w H h a (.ins C dx fs) from hok a _ e)
  exact ⟨mA, ⟨ob, n, ne⟩, r, q, z, d⟩
end

/-! ### what of the text a class must have -/
structure Cls (K : PySem.W.Frag) (C : Addr) : Prop where
  pg : PySem.W.plainGet K C Str.empty = true
  hd : PySem.W.hasDictIn K C = true
  po : PySem.W.plainOver K C = true
  sa : PySem.W.findIn K (.ref C) "__setattr__" = some (some (.builtin "object.__setattr__"))
theorem Cls.get {K : PySem.W.Frag} {C : Addr} (c : Cls K C) (f : Str) : PySem.W.plainGet K C f = true := c.pg

section
variable {X : Cx} {pins : List (Addr × Obj)} {σ : St} {H : Hp} {s : Shared} {a C dx : Addr} {fs : List (Str × V)} {f : Str} {v : V} {A : Around} {E : Value → Shared → Prop}






end

/-! ### readings and rules -/

section
variable {X : Cx} {o e value : Expr} {f : Str} {pos pos' tpos : Pos} {ta tv : TE}

end

/-! ### isinstance -/
section
variable {X : Cx} {pins : List (Addr × Obj)} {σ : St} {H : Hp} {s : Shared} {A : Around} {E : Value → Shared → Prop} {Q : Value → Shared → Prop} {c : Value} {b : Bool}
/-- the type of a value, as the fragment's deciders take it; for an instance its class -/
inductive TyOf (K : PySem.W.Frag) (H : Hp) : V → Value → Prop where
  | non : TyOf K H .non (.type "NoneType")
  | bl (x : Bool) : TyOf K H (.bl x) (.type "bool")
  | int (i : Int) : TyOf K H (.int i) (.type "int")
  | str (x : Str) : TyOf K H (.str x) (.type "str")
  | flt (x : UInt64) : TyOf K H (.flt x) (.type "float")
  | lst {a : Addr} {xs : List V} (e : H a = some (.lst xs)) : TyOf K H (.ref a) (.type "list")
  | frz {a : Addr} {o : Obj} {xs : List V} (e : H a = some (.frz o (.lst xs))) : TyOf K H (.ref a) (.type "list")
  | tup {a : Addr} {xs : List V} (e : H a = some (.tup xs)) : TyOf K H (.ref a) (.type "tuple")
  | dK {a : Addr} {kvs : List (Key × V)} (e : H a = some (.dK kvs)) : TyOf K H (.ref a) (.type "dict")
  | dT {a : Addr} {kvs : List (List Key × V)} (e : H a = some (.dT kvs)) : TyOf K H (.ref a) (.type "dict")
  | ins {a C dx : Addr} {fs : List (Str × V)} (e : H a = some (.ins C dx fs)) (cl : Cls K C) (ha : PySem.W.findIn K (.ref C) "__class__" = some (some (.builtin "object.__class__")))
      (hn : PySem.W.specialIn K (.builtin "object.__class__") "__get__" = some (some (.builtin "getset_descriptor.__get__"))) (htk : PySem.W.takesIn K (.builtin "object.__class__") = some true)
      (hm : PySem.W.mroIn K C (.type "object") = some true) : TyOf K H (.ref a) (.ref C)
/-- isinstance(x, c) for one class c, a built-in or an own one: kitOne's answer -/
theorem isinst_ok {x : V} {u t : Value} (I : Inv X pins σ H s) (rx : RelV x u) (ty : TyOf X.K H x t) (e : PySem.W.kitOne X.K t c = some b) (h : ∀ tk, Q (.bool b) { s with toks := tk }) :
    wpAny (model X.prog X.w) A (call (.builtin "isinstance") [u, c]) Q E s := by
  cases ty with
  | non => cases (show u = Value.none from rx); exact PySem.W.kia_one PySem.W.kitx_none I.kIn True.intro e (fun z => nomatch z) h
  | bl y => cases (show u = Value.bool y from rx); exact PySem.W.kia_one PySem.W.kitx_bool I.kIn True.intro e (fun z => nomatch z) h
  | int i => obtain ⟨t, q⟩ := (show ∃ t, u = Value.int i t from rx); cases q; exact PySem.W.kia_one PySem.W.kitx_int I.kIn True.intro e (fun z => nomatch z) h
  | str y => obtain ⟨t, q⟩ := (show ∃ t, u = Value.str y t from rx); cases q; exact PySem.W.kia_one PySem.W.kitx_str I.kIn True.intro e (fun z => nomatch z) h
  | flt y => obtain ⟨t, q⟩ := (show ∃ t, u = Value.float y t from rx); cases q; exact PySem.W.kia_one PySem.W.kitx_float I.kIn True.intro e (fun z => nomatch z) h
  | @lst a xs ea =>
    cases (show u = Value.ref a from rx)
    obtain ⟨_, _, n, _, h1⟩ := (show ObjOk X.prog X.w H s.heap a (.lst xs) from I.hok a _ ea)
    exact PySem.W.kia_one PySem.W.kitx_list I.kIn ⟨_, h1, rfl⟩ e (fun z => nomatch z) h
  | @frz a ob xs ea =>
    cases (show u = Value.ref a from rx)
    obtain ⟨_, _, _, n, _, h1⟩ := (show ObjOk X.prog X.w H s.heap a (.frz ob (.lst xs)) from I.hok a _ ea)
    exact PySem.W.kia_one PySem.W.kitx_list I.kIn ⟨_, h1, rfl⟩ e (fun z => nomatch z) h
  | @tup a xs ea =>
    cases (show u = Value.ref a from rx)
    obtain ⟨_, _, _, p⟩ := (show ObjOk X.prog X.w H s.heap a (.tup xs) from I.hok a _ ea)
    obtain ⟨o, h1, h2, _⟩ := p
    exact PySem.W.kia_one PySem.W.kitx_tuple I.kIn ⟨o, h1, h2⟩ e (fun z => nomatch z) h
  | @dK a kvs ea =>
    cases (show u = Value.ref a from rx)
    obtain ⟨_, _, vs, _, p⟩ := (show ObjOk X.prog X.w H s.heap a (.dK kvs) from I.hok a _ ea)
    obtain ⟨o, es, ep, h1, h2, _⟩ := p
    exact PySem.W.kia_one PySem.W.kitx_dict I.kIn ⟨o, h1, h2.1⟩ e (fun z => nomatch z) h
  | @dT a kvs ea =>
    cases (show u = Value.ref a from rx)
    obtain ⟨_, _, xs, _, o, es, ep, h1, h2, _⟩ := (show ObjOk X.prog X.w H s.heap a (.dT kvs) from I.hok a _ ea)
    exact PySem.W.kia_one PySem.W.kitx_dict I.kIn ⟨o, h1, h2.1⟩ e (fun z => nomatch z) h
  | @ins a C dx fs ea cl ha hn htk hm =>
    cases (show u = Value.ref a from rx)
    obtain ⟨mA, O, _⟩ := ins_get I.hok ea
    obtain ⟨od, J, _⟩ := O.look
    exact PySem.W.kia_one (PySem.W.kitx_own (cl.get _) cl.hd ha hn htk hm) I.kIn J e (fun z => nomatch z) h
end
end L2

namespace L2
open PySem PySem.Spec PyProof.Rows

/-! ### room -/
structure Room (k : Nat) (A : Around) : Prop where
  hd : A.handled = none
  dp : A.depth + 3 * k + 5 < recursionLimit
  un : A.units + 16 * k + 200 < cLine
theorem Room.mono {j k : Nat} {A : Around} (r : Room k A) (h : j ≤ k) : Room j A := ⟨r.hd, by have := r.dp; omega, by have := r.un; omega⟩
theorem Room.deeper {k : Nat} {A : Around} (r : Room (k + 1) A) (env : Env) : Room k (A.deeper env) :=
  ⟨r.hd, by have := r.dp; show A.depth + 1 + 3 * k + 5 < _; omega, by have := r.un; show A.units + 3 + 16 * k + 200 < _; omega⟩
theorem Room.depth {k : Nat} {A : Around} (r : Room k A) : A.depth < recursionLimit := by have := r.dp; omega
theorem Room.units {k : Nat} {A : Around} (r : Room k A) : A.units + 64 < cLine := by have := r.un; omega

/-! ### argument lists and displays -/
def tNil : TA := fun _ H Q => Q [] H
def tCons (ta : TE) (tr : TA) : TA := fun σ H Q => ta σ H fun x H1 => tr σ H1 fun xs H2 => Q (x :: xs) H2
section
variable {X : Cx} {e : Expr} {es : List Expr} {te : TE} {t : TA} {pos : Pos}
theorem pa_nil : PA X [] tNil := fun _ _ _ _ H Q I h => Calls.spliced_nil ⟨[], H, I, .nil, h⟩
theorem pa_cons (ha : PE X e te) (hr : PA X es t) (hs : starEach (e :: es) X.env = (false, eval e X.env) :: starEach es X.env := by rfl) : PA X (e :: es) (tCons te t) := by
  intro pos pins s σ H Q I h
  rw [hs]
  show wpAny _ _ (spliced ((false, eval e X.env) :: backTo pos (starEach es X.env))) _ _ s
  refine Calls.spliced_cons (thn (ha pins s σ H _ I h) fun u s1 ⟨x, H1, I1, r1, q1⟩ => ?_)
  exact thn (hr pos pins s1 σ H1 _ I1 q1) fun us s2 ⟨xs, H2, I2, r2, q2⟩ => ⟨x :: xs, H2, I2, .cons r1 r2, q2⟩

end

/-! ### what a def promises -/
/-- a def's promise: the bound arguments in the parameters' order, the heap, the wanted end, the wanted exception -/
abbrev Sp := List V → Hp → VK → XK → Prop
/-- how an exception lies behind a call (file 08 gives it): the callers' frames, abstract heap and state ahead of the call, the wish, the exception, the state -/
abbrev CXT := List Env → Hp → Shared → XK → Value → Shared → Prop

/-- the state at a call -/
structure Env0 (P : Program) (w : World) (K : PySem.W.Frag) (mg : Str → Option Value) (base : Heap) (A : Around) (outer : List Env) (s : Shared) (H : Hp) : Prop where
  frames : A.frames = some outer
  mod : Mod K mg base
  bs : ∀ b o, base.get? b = some o → s.heap.get? b = some o ∧ H b = none
  bsz : base.objs.size ≤ s.heap.objs.size
  funs : s.heap.FunFrames base outer
  frf : ∀ b ∈ frs outer, H b = none
  hok : HOk P w H s.heap
  bare : AllBare s.gens
/-- a call's end -/
def CE (outer : List Env) (P : Program) (w : World) (H : Hp) (s : Shared) (Q : VK) (u : Value) (s' : Shared) : Prop :=
  ∃ v H', s'.os = s.os ∧ AllBare s'.gens ∧ Un (frs outer) [] H H' s.heap s'.heap ∧ HOk P w H' s'.heap ∧ RelV v u ∧ Q v H'
def CR (CX : CXT) (outer : List Env) (P : Program) (w : World) (H : Hp) (s : Shared) (Q : VK) (E : XK) (r : Result) (s' : Shared) : Prop :=
  match r with
  | .ok (.ret u) => CE outer P w H s Q u s'
  | .ok _ => False
  | .error e => CX outer H s E e s'
structure FnOk (P : Program) (w : World) (K : PySem.W.Frag) (mg : Str → Option Value) (base : Heap) (CX : CXT) (k : Nat) (f : Addr) (fd : FuncData) (ps : List Str) (sp : Sp) : Prop where
  len : ∀ vs H Q E, sp vs H Q E → vs.length = ps.length
  run : ∀ (A : Around) (outer : List Env) (s : Shared) (H : Hp) (args : Args) (us : List Value) (vs : List V) (Q : VK) (E : XK), Room k A → Env0 P w K mg base A outer s H → BindsTo s fd args (ps.zip us) → Vals vs us → sp vs H Q E →
    codeAny (model P w) A (.call (.ref f) args) (CR CX outer P w H s Q E) s
theorem FnOk.mono {P : Program} {w : World} {K : PySem.W.Frag} {mg : Str → Option Value} {base : Heap} {CX : CXT} {j k : Nat} {f : Addr} {fd : FuncData} {ps : List Str} {sp : Sp} (F : FnOk P w K mg base CX j f fd ps sp) (h : j ≤ k) :
    FnOk P w K mg base CX k f fd ps sp := ⟨F.len, fun A outer s H args us vs Q E hr => F.run A outer s H args us vs Q E (hr.mono h)⟩


section
variable {X : Cx} {pins : List (Addr × Obj)} {σ : St} {H : Hp} {s s' : Shared}
/-- from a body: what a callee wants -/
theorem Inv.env0 (I : Inv X pins σ H s) : Env0 X.prog X.w X.K X.mg X.base X.A X.stack s H :=
  ⟨I.ok.frames, I.ok.mod, I.bs, Nat.le_trans I.ok.bsz I.sz, I.stack, I.stkFree, I.hok, I.bare⟩
/-- behind a call -/
theorem Inv.after {Q : VK} {u : Value} (I : Inv X pins σ H s) (h : CE X.stack X.prog X.w H s Q u s') : EP X pins σ Q u s' := by
  obtain ⟨v, H', os, bare, un, hok, r, q⟩ := h
  obtain ⟨hh, g, d, t, os'⟩ := s'
  obtain rfl : os' = s.os := os
  exact ⟨v, H', I.call (h' := hh) (g' := g) (d' := d) (t' := t) (ch := []) un hok bare (fun b z => absurd z (by simp)), r, q⟩
end

/-! ### calls -/
/-- f(..): the written arguments, then the defaults dvs; E: what is wanted of an exception -/
def tCall (sp : Sp) (dvs : List V) (E : XK) (t : TA) : TE := fun σ H Q => t σ H fun vs H1 => sp (vs ++ dvs) H1 Q E

/-- how the parameters are bound: us the positional arguments, kw the keywords' values by name, ds the defaults that fill up -/
def Binds (K : PySem.W.Frag) (fd : FuncData) (ps : List Str) (ds : List Value) : Prop :=
  ∀ (s : Shared) (us : List Value), K.In s.heap → (us ++ ds).length = ps.length → BindsTo s fd ⟨us, []⟩ (ps.zip (us ++ ds))
/-- every parameter is given -/
theorem Binds.all {K : PySem.W.Frag} {fd : FuncData} {ps : List Str} (h : ∀ us : List Value, us.length = ps.length → bindArgs fd ⟨us, []⟩ = pure (ps.zip us)) : Binds K fd ps [] := fun s us _ hl => by
  rw [List.append_nil] at hl ⊢
  exact .of_eq (h us hl)

/-- an exception of a callee reaches what this body wants of exceptions -/
def Passes (CX : CXT) (X : Cx) (E : XK) : Prop := ∀ (pins : List (Addr × Obj)) (σ : St) (H : Hp) (s : Shared) (e : Value) (s' : Shared), Inv X pins σ H s → CX X.stack H s E e s' → X.xe e s'

section
variable {X : Cx} {CX : CXT} {k : Nat} {f C : Addr} {fd : FuncData} {ps : List Str} {sp : Sp} {dvs : List V} {ds : List Value} {E : XK} {x m : Str} {p pos apos : Pos} {e o : Expr} {es : List Expr} {ta : TE} {t : TA}

/-- the callee runs -/
theorem run_fn {pins : List (Addr × Obj)} {σ : St} {H : Hp} {s : Shared} {Q : VK} {us : List Value} {vs : List V} (F : FnOk X.prog X.w X.K X.mg X.base CX k f fd ps sp) (hr : Room k X.A) (hb : Binds X.K fd ps ds) (hd : Vals dvs ds) (hx : Passes CX X E)
    (I : Inv X pins σ H s) (r : Vals vs us) (h : sp (vs ++ dvs) H Q E) : wpAny (model X.prog X.w) X.A (call (.ref f) us) (EP X pins σ Q) X.xe s := by
  have r2 : Vals (vs ++ dvs) (us ++ ds) := r.append hd
  have hl : (us ++ ds).length = ps.length := by rw [← r2.length]; exact F.len _ _ _ _ h
  refine wpAny_call (codeAny_mono (F.run X.A X.stack s H ⟨us, []⟩ (us ++ ds) (vs ++ dvs) Q E hr I.env0 (hb s us I.kIn hl) r2 h) fun r s' hq => ?_)
  cases r with
  | error e => exact hx pins σ H s e s' I hq
  | ok fl =>
    cases fl with
    | ret u => exact I.after hq
    | next => exact False.elim hq
    | brk => exact False.elim hq
    | cont => exact False.elim hq

theorem pe_call (F : FnOk X.prog X.w X.K X.mg X.base CX k f fd ps sp) (hr : Room k X.A) (hg : Gl X x) (hm : X.mg x = some (.ref f)) (hk : PySem.W.keepIn X.K (.ref f) = true) (hb : Binds X.K fd ps ds) (hd : Vals dvs ds) (hx : Passes CX X E)
    (ha : PA X (e :: es) t) (hdb : (x == ("__debug__" : Str)) = false := by decide) (he : starEach (e :: es) X.env = (false, eval e X.env) :: starEach es X.env := by rfl) (hpl : (backTo pos (starEach es X.env)).any (·.1) = false := by rfl) :
    PE X (.Call (.Name x p) (e :: es) [] pos) (tCall sp dvs E t) := by
  intro pins s σ H Q I h
  refine wpAny_Call_Name_kw (ld_glob I hg hm ?_ hdb)
  refine PySem.W.callWith_K (h₀ := X.base) I.ok.mod.kin hk (thn (ha pos pins s σ H _ I h) fun us s1 ⟨vs, H1, I1, r, q⟩ => ⟨I1.kIn, ?_⟩) he hpl
  exact run_fn F hr hb hd hx I1 r q



end

/-! ### keywords -/
section
variable {X : Cx} {CX : CXT} {k : Nat} {f C : Addr} {fd : FuncData} {ps ks : List Str} {sp : Sp} {E : XK} {x m : Str} {p pos apos kpos : Pos} {e o : Expr} {es : List Expr} {kws : List Keyword} {te ta : TE} {t tk : TA} {nm : Option Str}

variable {g : List Value → List Value → List Value} {gV : List V → List V → List V}
end

/-! ### a def's body keeps its promise -/
/-- names: the parameters first -/
structure FnScope (N P : List Str) (sc : Scope) : Prop where
  kind : sc.kind = .function
  co : sc.isCoroutine = false
  gen : sc.isGenerator = false
  nd : N.Nodup
  pre : N.take P.length = P
  par : ∀ x ∈ P, sc.names.lookup x = some .local ∨ sc.names.lookup x = some .cell
  nofree : ∀ y ∈ sc.names, y.2 ≠ .free

theorem bindL_out {kindOf : Str → Option NameKind} {x : Str} : ∀ {binds : List (Str × Value)} {m : Str → Option Value}, (∀ v, (x, v) ∉ binds) → bindL kindOf binds m x = m x
  | [], _, _ => rfl
  | (n, v) :: r, m, h => by
    unfold bindL
    rw [bindL_out fun w hw => h w (List.mem_cons_of_mem _ hw)]
    split
    · have : x ≠ n := by rintro rfl; exact h v List.mem_cons_self
      simp [this]
    · rfl
theorem bindC_out {kindOf : Str → Option NameKind} {x : Str} : ∀ {binds : List (Str × Value)} {m : Str → Option Value}, (∀ v, (x, v) ∉ binds) → bindC kindOf binds m x = m x
  | [], _, _ => rfl
  | (n, v) :: r, m, h => by
    unfold bindC
    rw [bindC_out fun w hw => h w (List.mem_cons_of_mem _ hw)]
    split
    · rfl
    · have : x ≠ n := by rintro rfl; exact h v List.mem_cons_self
      simp [this]
theorem bindL_get {kindOf : Str → Option NameKind} {x : Str} {v : Value} : ∀ {P : List Str} {vs : List Value} {i : Nat} {m : Str → Option Value}, P.Nodup → P[i]? = some x → vs[i]? = some v → kindOf x = some .local →
    bindL kindOf (P.zip vs) m x = some v
  | [], _, _, _, _, h, _, _ => by simp at h
  | _ :: _, [], _, _, _, _, h, _ => by simp at h
  | p :: P, w :: vs, 0, m, nd, h1, h2, hk => by
    simp at h1 h2; subst h1; subst h2
    show bindL kindOf ((p, w) :: P.zip vs) m p = _
    unfold bindL
    rw [bindL_out fun v hv => (List.nodup_cons.mp nd).1 (List.of_mem_zip hv).1, if_pos hk]
    simp
  | p :: P, w :: vs, i + 1, m, nd, h1, h2, hk => by
    show bindL kindOf ((p, w) :: P.zip vs) m x = _
    unfold bindL
    exact bindL_get (i := i) (List.nodup_cons.mp nd).2 (by simpa using h1) (by simpa using h2) hk
theorem bindC_get {kindOf : Str → Option NameKind} {x : Str} {v : Value} : ∀ {P : List Str} {vs : List Value} {i : Nat} {m : Str → Option Value}, P.Nodup → P[i]? = some x → vs[i]? = some v → kindOf x ≠ some .local →
    bindC kindOf (P.zip vs) m x = some v
  | [], _, _, _, _, h, _, _ => by simp at h
  | _ :: _, [], _, _, _, _, h, _ => by simp at h
  | p :: P, w :: vs, 0, m, nd, h1, h2, hk => by
    simp at h1 h2; subst h1; subst h2
    show bindC kindOf ((p, w) :: P.zip vs) m p = _
    unfold bindC
    rw [bindC_out fun v hv => (List.nodup_cons.mp nd).1 (List.of_mem_zip hv).1, if_neg hk]
    simp
  | p :: P, w :: vs, i + 1, m, nd, h1, h2, hk => by
    show bindC kindOf ((p, w) :: P.zip vs) m x = _
    unfold bindC
    exact bindC_get (i := i) (List.nodup_cons.mp nd).2 (by simpa using h1) (by simpa using h2) hk

/-- the names' values at the entry -/
def start (N : List Str) (vs : List V) : St := vs.map some ++ List.replicate (N.length - vs.length) none

/-- the context of a def's body, at its entry; an exception leaves the frame, then lies as CX says -/
def cxOf (CX : CXT) (P : Program) (w : World) (K : PySem.W.Frag) (mg : Str → Option Value) (base : Heap) (N : List Str) (qual : Str) (scope : Scope) (f : Addr) (cd : Value) (A : Around) (outer : List Env) (s : Shared) (H : Hp) (E : XK) : Cx where
  prog := P
  w := w
  K := K
  mg := mg
  base := base
  A := A.deeper (envOfC qual scope s.heap.objs.size f cd)
  N := N
  s₀ := s
  H₀ := H
  env := envOfC qual scope s.heap.objs.size f cd
  outer := outer
  stack := envOfC qual scope s.heap.objs.size f cd :: outer
  ex := []
  calm := true
  fn := fun _ => true
  pn := []
  xe := fun e s' => wpAny (model P w) (A.deeper (envOfC qual scope s.heap.objs.size f cd)) (leaving (envOfC qual scope s.heap.objs.size f cd) e) (fun _ s'' => CX outer H s E e s'') (fun e' s'' => CX outer H s E e' s'') s'

theorem cell_has {sc : Scope} {n : Nat} {x : Str} (h : sc.names.lookup x = some .cell) : ∃ c, (cellsFrom n sc.names []).lookup x = some c := by
  have q := PySem.W.cellsFrom_some sc.names n [] (.inl h)
  exact Option.isSome_iff_exists.mp q

theorem inv_start {CX : CXT} {P : Program} {w : World} {K : PySem.W.Frag} {mg : Str → Option Value} {base : Heap} {N ps : List Str} {qual : Str} {scope : Scope} {f : Addr} {cd : Value} {A : Around} {outer : List Env} {s s1 : Shared} {H : Hp} {E : XK} {us : List Value} {vs : List V}
    (S : FnScope N ps scope) (hd : A.handled = none) (e0 : Env0 P w K mg base A outer s H) (hl : vs.length = ps.length) (r : Vals vs us)
    (x : InCallC s s.heap.objs.size (bindL (envOfC qual scope s.heap.objs.size f cd).kindOf (ps.zip us) fun _ => none) (cellsFrom (s.heap.objs.size + 1) scope.names []) (bindC (envOfC qual scope s.heap.objs.size f cd).kindOf (ps.zip us) fun _ => none) s1) :
    Inv (cxOf CX P w K mg base N qual scope f cd A outer s H E) [] (start N vs) H s1 := by
  have hpl : ps.length ≤ N.length := by have := congrArg List.length S.pre; rw [List.length_take] at this; omega
  obtain ⟨h1, tk, rfl, hk⟩ := x.done
  have noA : ∀ b : Addr, b ∉ (cxOf CX P w K mg base N qual scope f cd A outer s H E).ex := fun b z => absurd (show b ∈ ([] : List Addr) from z) (by simp)
  refine ⟨⟨e0.mod, S.kind, rfl, rfl, Nat.le_refl _, fun y z c h1 h2 => ?_, fun y hy => ?_, fun y c _ h => ?_, fun _ => hd, Around.frames_deeper e0.frames, .inr ⟨rfl, rfl⟩, fun b z => absurd z (noA b), e0.bs, e0.bsz, fun b _ _ => noA b, fun b z => absurd z (noA b), e0.funs, e0.frf⟩,
    rfl, e0.bare, Un.kept hk, ⟨_, x.toInCall.ns, fun i y v h1 h2 h3 => ?_⟩, fun y c h => ⟨_, x.cell y c h⟩, e0.hok.fresh (Nat.le_refl _), fun y c h => ?_, fun p hp => absurd (show p ∈ ([] : List (Addr × Obj)) from hp) (by simp), e0.hok.kept hk, ?_⟩
  · exact name_of_addr x.apart (PySem.mem_of_lookup h1) (PySem.mem_of_lookup h2)
  · have hy : scope.names.lookup y = some .cell ∨ scope.names.lookup y = some .free := hy
    rcases hy with hy | hy
    · exact cell_has hy
    · exact absurd rfl (S.nofree _ (PySem.mem_of_lookup hy))
  · exact Nat.le_of_lt (x.above y c (PySem.mem_of_lookup h))
  · have hi : i < vs.length := by
      unfold start at h2
      by_cases hi : i < vs.length
      · exact hi
      · rw [List.getElem?_append_right (by simpa using hi)] at h2
        rw [List.getElem?_replicate] at h2
        split at h2 <;> cases h2
    have ha : vs[i]? = some v := by
      unfold start at h2
      rw [List.getElem?_append_left (by simpa using hi), List.getElem?_map] at h2
      cases e : vs[i]? with
      | none => rw [e] at h2; cases h2
      | some a => rw [e] at h2; cases h2; rfl
    obtain ⟨u, hu, rv⟩ := r.get ha
    have hp : ps[i]? = some y := by
      rw [← S.pre, List.getElem?_take_of_lt (by omega)]; exact h1
    have ndP : ps.Nodup := by rw [← S.pre]; exact S.nd.sublist (List.take_sublist _ _)
    refine ⟨u, rv, ?_⟩
    rcases S.par y (List.mem_of_getElem? hp) with k | k
    · exact .inl ⟨k, bindL_get ndP hp hu k⟩
    · obtain ⟨c, e⟩ := cell_has (n := s.heap.objs.size + 1) k
      refine .inr ⟨.inl k, c, e, ?_⟩
      have q := x.cell y c e
      rw [bindC_get ndP hp hu (by show scope.names.lookup y ≠ _; rw [k]; decide)] at q
      exact q
  · exact e0.hok.fresh (Nat.le_of_lt (x.above y c (PySem.mem_of_lookup h)))
  · unfold start
    show _ = N.length
    rw [List.length_append, List.length_map, List.length_replicate]
    omega

/-- THE RULE: a def (or a method) of the text, by its body. The body's reading t is chosen for each entry; it is run at the parameters' values -/
theorem fn_of {CX : CXT} {P : Program} {w : World} {K : PySem.W.Frag} {mg : Str → Option Value} {base : Heap} {k : Nat} {f : Addr} {name qual : Str} {params : Arguments} {body : List Stmt} {scope : Scope} {dV kV doc pm cdv ct oc : Value} {an od : Option Addr}
    {osl : Array (Option Value)} {N ps : List Str} {sp : Sp} (lk : K.lookup f = some ⟨oc, od, .func (PySem.W.fnOf name qual params body scope dV kV doc pm an cdv ct), osl⟩) (hcd : PySem.W.codeIn K cdv qual = true) (S : FnScope N ps scope)
    (len : ∀ vs H Q E, sp vs H Q E → vs.length = ps.length)
    (hbody : ∀ (A : Around) (outer : List Env) (s : Shared) (H : Hp) (vs : List V) (Q : VK) (E : XK), Room k (A.deeper (envOfC qual scope s.heap.objs.size f cdv)) → sp vs H Q E →
      ∃ t, PSs (cxOf CX P w K mg base N qual scope f cdv A outer s H E) body t ∧ t { nx := fun _ H' => Q .non H', rt := Q } (start N vs) H) :
    FnOk P w K mg base CX (k + 1) f (PySem.W.fnOf name qual params body scope dV kV doc pm an cdv ct) ps sp := by
  refine ⟨len, fun A outer s H args us vs Q E hr e0 hb r hsp => ?_⟩
  have hl := len _ _ _ _ hsp
  have KX : K.In s.heap := e0.mod.kin.keeps fun b o e => (e0.bs b o e).1
  have lim : s.heap.NoLimit := e0.mod.nolimit.keeps fun b o e => (e0.bs b o e).1
  have hkind : ∀ y ∈ ps.zip us, scope.names.lookup y.1 = some .local ∨ (scope.names.lookup y.1 = some .cell ∧ ((cellsFrom (s.heap.objs.size + 1) scope.names []).lookup y.1).isSome = true) := fun ⟨n, v⟩ hy => by
    rcases S.par n (List.of_mem_zip hy).1 with q | q
    · exact .inl q
    · exact .inr ⟨q, PySem.W.cellsFrom_some _ _ _ (.inl q)⟩
  refine codeAny_call_function hr.depth (KX _ _ lk) rfl S.co S.gen rfl (PySem.W.codeRec_of KX hcd) (hb _ _ _ _ ?_)
  refine wpAny_newFunctionEnv_cells S.kind hkind fun env he s1 x => ?_
  subst he
  refine ⟨lim.keeps x.toInCall.keep, codeAny_func ?_⟩
  obtain ⟨t, ht, hq⟩ := hbody A outer s H vs Q E (hr.deeper _) hsp
  have I : Inv (cxOf CX P w K mg base N qual scope f cdv A outer s H E) [] (start N vs) H s1 := inv_start S hr.hd e0 hl r x
  refine wpAny_mono (ht [] s1 (start N vs) H _ I hq) (fun fl s' hs => ?_) fun e s' hs => hs
  have fin : ∀ {σ' : St} {H' : Hp} {v : V} {u : Value}, Inv (cxOf CX P w K mg base N qual scope f cdv A outer s H E) [] σ' H' s' → RelV v u → Q v H' → CE outer P w H s Q u s' :=
    fun {σ' H' v u} J rv q => ⟨v, H', J.os, J.bare, J.base, J.hok, rv, q⟩
  cases fl with
  | ret u =>
    obtain ⟨v, σ', H', J, rv, q⟩ := hs
    exact fin J rv q
  | next =>
    obtain ⟨σ', H', J, q⟩ := hs
    exact fin (v := V.non) (u := Value.none) J rfl q
  | brk =>
    obtain ⟨_, _, _, q⟩ := hs
    exact False.elim q
  | cont =>
    obtain ⟨_, _, _, q⟩ := hs
    exact False.elim q
end L2

namespace L2
open PySem PySem.Spec PyProof.Rows
section
variable {X : Cx} {x : Str} {p pos : Pos} {e : Expr} {es : List Expr} {t : TA} {id T : String} {r : List V → Hp → VK → Prop}

def tCB (r : List V → Hp → VK → Prop) (t : TA) : TE := fun σ H Q => t σ H fun vs H1 => r vs H1 Q
/-- f(e, ..), f a built-in function -/
theorem pe_callB (hc : CallR X (.builtin id) r) (hg : Gl X x) (hm : X.mg x = none) (hv : bootBuiltins x = some (.builtin id)) (ha : PA X (e :: es) t) (hn : x ≠ "__name__" := by decide) (hdb : (x == ("__debug__" : Str)) = false := by decide)
    (he : starEach (e :: es) X.env = (false, eval e X.env) :: starEach es X.env := by rfl) (hpl : (backTo pos (starEach es X.env)).any (·.1) = false := by rfl) : PE X (.Call (.Name x p) (e :: es) [] pos) (tCB r t) := by
  intro pins s σ H Q I h
  refine wpAny_Call_Name_kw (ld_blt I hg hm hv ?_ hn hdb)
  exact PyProof.Rows.callWith_builtin1 (thn (ha pos pins s σ H _ I h) fun us s1 ⟨vs, H1, I1, r1, q1⟩ => hc pins s1 σ H1 vs us Q I1 r1 q1) he hpl
/-- T(e, ..), T a built-in type -/
theorem pe_callTy (hc : CallR X (.type T) r) (hg : Gl X x) (hm : X.mg x = none) (hv : bootBuiltins x = some (.type T)) (ha : PA X (e :: es) t) (hn : x ≠ "__name__" := by decide) (hdb : (x == ("__debug__" : Str)) = false := by decide)
    (he : starEach (e :: es) X.env = (false, eval e X.env) :: starEach es X.env := by rfl) (hpl : (backTo pos (starEach es X.env)).any (·.1) = false := by rfl) : PE X (.Call (.Name x p) (e :: es) [] pos) (tCB r t) := by
  intro pins s σ H Q I h
  refine wpAny_Call_Name_kw (ld_blt I hg hm hv ?_ hn hdb)
  exact PyProof.Rows.callWith_type1 (thn (ha pos pins s σ H _ I h) fun us s1 ⟨vs, H1, I1, r1, q1⟩ => hc pins s1 σ H1 vs us Q I1 r1 q1) he hpl
end
end L2

namespace HT
open PySem PyProof.Rows



section
open PySem.SeqAt
open PySem.AutoSeq1 (wpAny_loadPart')
open PySem.MeetsSeq PySem.MeetsSeq2 PySem.MeetsSeq3

end

section
variable {prog : Program} {w : World} {A : Around} {E : Value → Shared → Prop} {s : Shared}



/-! ### t[a:b], not the whole -/
/-- a slice's bound as a place among n (d where it is left out) -/
def sIx (n d : Nat) : Option Int → Nat
  | none => d
  | some v => if v < 0 then (v + (n : Int)).toNat else min v.toNat n
theorem sIx_nat (n d k : Nat) : sIx n d (some (k : Int)) = min k n := by
  show (if (k : Int) < 0 then ((k : Int) + (n : Int)).toNat else min (k : Int).toNat n) = min k n
  rw [if_neg (by omega), Int.toNat_natCast]

end
end HT

namespace L2
open PySem PySem.Spec PyProof.Rows

/-! ### the parts of a slice -/
abbrev TO := St → Hp → (Option Int → Hp → Prop) → Prop
/-- a slice's part (left out, or an int) -/
def PO (X : Cx) (e : Option Expr) (t : TO) : Prop :=
  ∀ (pins : List (Addr × Obj)) (s : Shared) (σ : St) (H : Hp) (Q : Option Int → Hp → Prop), Inv X pins σ H s → t σ H Q →
    wpAny (model X.prog X.w) X.A (evalPart e X.env) (fun u s' => ∃ o H', Inv X pins σ H' s' ∧ IsPart u o ∧ Q o H') X.xe s
def tPart (t : TE) : TO := fun σ H Q => t σ H fun x H1 => ∃ i, x = .int i ∧ Q (some i) H1


section
variable {X : Cx} {e : Expr} {te : TE} {lo hi : Option Expr} {tl th : TO} {pos p2 : Pos}

theorem po_some (h : PE X e te) : PO X (some e) (tPart te) := by
  intro pins s σ H Q I hw
  rw [evalPart_some]
  refine thn (h pins s σ H _ I hw) fun u s1 ⟨x, H1, I1, r1, q1⟩ => ?_
  obtain ⟨i, rfl, q⟩ := q1
  obtain ⟨t, rfl⟩ := r1
  exact ⟨some i, H1, I1, .int i t, q⟩

/-- what a slice of a value is, by values: the slice object stands at sl -/
def SlR (X : Cx) (r : V → Option Int → Option Int → Hp → VK → Prop) : Prop :=
  ∀ (pins : List (Addr × Obj)) (s : Shared) (σ : St) (H : Hp) (x : V) (v vl vu : Value) (lo hi : Option Int) (sl : Addr) (Q : VK), Inv X pins σ H s → RelV x v → s.heap.IsSliceOf sl vl vu .none → IsPart vl lo → IsPart vu hi → r x lo hi H Q →
    ∃ T id, typeLookup (.type T) "__getitem__" = pure (some (.builtin id)) ∧ s.TypeIs v T ∧ wpAny (model X.prog X.w) X.A (getItem v (.ref sl)) (EP X pins σ Q) X.xe s
def tSl (r : V → Option Int → Option Int → Hp → VK → Prop) (te : TE) (tl th : TO) : TE := fun σ H Q => te σ H fun x H1 => tl σ H1 fun l H2 => th σ H2 fun u H3 => r x l u H3 Q
/-- a[lo:hi], any a -/
theorem pe_slice {r : V → Option Int → Option Int → Hp → VK → Prop} (hr : SlR X r) (he : PE X e te) (hl : PO X lo tl) (hu : PO X hi th) : PE X (.Subscript e (.Slice lo hi none p2) pos) (tSl r te tl th) := by
  intro pins s σ H Q I h
  refine Subscript_ (thn (he pins s σ H _ I h) fun v s1 ⟨x, H1, I1, r1, q1⟩ => ?_)
  refine wpAny_Slice (thn (hl pins s1 σ H1 _ I1 q1) fun vl s2 ⟨l, H2, I2, pl, q2⟩ => thn (hu pins s2 σ H2 _ I2 q2) fun vu s3 ⟨u, H3, I3, pu, q3⟩ => ?_)
  rw [evalPart_none]
  refine wpAny_pure ?_
  have I4 : Inv X pins σ H3 { s3 with heap := s3.heap.push { cls := .type "slice", data := .fields #[vl, vu, .none] } } := I3.kept (t' := s3.toks) fun b ob q => Heap.get?_push_of_some _ q
  obtain ⟨T, id, hT, ht, hg⟩ := hr pins { s3 with heap := s3.heap.push { cls := .type "slice", data := .fields #[vl, vu, .none] } } σ H3 x v vl vu l u s3.heap.objs.size Q I4 r1 (Heap.IsSliceOf.new ..) pl pu q3
  show wpAny (model X.prog X.w) X.A (subscriptTail e (.Slice lo hi none p2) v (.ref s3.heap.objs.size)) (EP X pins σ Q) X.xe { s3 with heap := s3.heap.push { cls := .type "slice", data := .fields #[vl, vu, .none] } }
  exact tail_any (ops := [.ref s3.heap.objs.size, v]) ht hT hg (by with_unfolding_all rfl)

/-- the items of xs[lo:hi] -/
def cutV (xs : List V) (lo hi : Option Int) : List V := (xs.drop (HT.sIx xs.length 0 lo)).take (HT.sIx xs.length xs.length hi - HT.sIx xs.length 0 lo)
theorem cutV_length (xs : List V) (lo hi : Option Int) : (cutV xs lo hi).length ≤ xs.length := by
  unfold cutV
  rw [List.length_take, List.length_drop]
  omega

/-! ### t < u, t + u -/
end
end L2

namespace L2
open PySem PySem.Spec PyProof.Rows

/-! ### places -/
/-- the place that an index of any sign means -/
def ixN (n : Nat) (i : Int) : Option Nat := if 0 ≤ i then (if i < n then some i.toNat else none) else if -(n : Int) ≤ i then some (i + n).toNat else none
def atI {α : Type} (xs : List α) (i : Int) : Option α := (ixN xs.length i).bind fun j => xs[j]?
theorem ixN_seq {n : Nat} {i : Int} {j : Nat} (h : ixN n i = some j) : seqIndex? i n = some j ∧ j < n ∧ -(n : Int) ≤ i ∧ i < n := by
  unfold ixN at h
  by_cases h0 : 0 ≤ i
  · rw [if_pos h0] at h
    by_cases h1 : i < n
    · rw [if_pos h1] at h
      have e : i.toNat = j := Option.some.inj h
      exact ⟨by rw [seqIndex_of h0 h1, e], by omega, by omega, h1⟩
    · rw [if_neg h1] at h; cases h
  · rw [if_neg h0] at h
    by_cases h1 : -(n : Int) ≤ i
    · rw [if_pos h1] at h
      have e : (i + n).toNat = j := Option.some.inj h
      exact ⟨by rw [seqIndex_neg (by omega) h1, e], by omega, h1, by omega⟩
    · rw [if_neg h1] at h; cases h
theorem atI_get {α : Type} {xs : List α} {i : Int} {v : α} (h : atI xs i = some v) : ∃ j, seqIndex? i xs.length = some j ∧ xs[j]? = some v ∧ j < xs.length ∧ -(xs.length : Int) ≤ i ∧ i < xs.length := by
  unfold atI at h
  cases e : ixN xs.length i with
  | none => rw [e] at h; cases h
  | some j =>
    rw [e] at h
    obtain ⟨h1, h2, h3, h4⟩ := ixN_seq e
    exact ⟨j, h1, h, h2, h3, h4⟩
theorem atI_nat {α : Type} {xs : List α} {j : Nat} {v : α} (h : xs[j]? = some v) : atI xs (j : Int) = some v := by
  have hj : j < xs.length := (List.getElem?_eq_some_iff.mp h).1
  have e : ixN xs.length (j : Int) = some j := by
    unfold ixN
    rw [if_pos (by omega), if_pos (by omega)]; simp
  unfold atI; rw [e]; exact h

/-! ### what may be subscripted -/
/-- what stands as an index of a plain subscript -/
def PlainIx (b : Expr) : Prop := ∀ o i, subscripted b false o i = operate [o, i] (getItem o i)
/-- a subscript by values -/
def IxR (X : Cx) (r : R2) : Prop :=
  ∀ (value slice : Expr) (pins : List (Addr × Obj)) (s : Shared) (σ : St) (H : Hp) (x y : V) (v u : Value) (Q : VK), Inv X pins σ H s → RelV x v → RelV y u → r x y H Q →
    subscripted slice false v u = operate [v, u] (getItem v u) → wpAny (model X.prog X.w) X.A (subscriptTail value slice v u) (EP X pins σ Q) X.xe s
/-- a call of a builtin's method by values: the receiver, the arguments -/
def MtR (X : Cx) (id : String) (r : V → List V → Hp → VK → Prop) : Prop :=
  ∀ (pins : List (Addr × Obj)) (s : Shared) (σ : St) (H : Hp) (x : V) (xs : List V) (v : Value) (us : List Value) (Q : VK), Inv X pins σ H s → RelV x v → Vals xs us → r x xs H Q →
    wpAny (model X.prog X.w) X.A (call (.builtin id) (v :: us)) (EP X pins σ Q) X.xe s
section
variable {X : Cx} {a b : Expr} {ta tb : TE} {pos : Pos}
/-- a[b] -/
theorem pe_ix {r : R2} (hr : IxR X r) (ha : PE X a ta) (hb : PE X b tb) (hs : PlainIx b) : PE X (.Subscript a b pos) (tOp r ta tb) := by
  intro pins s σ H Q I h
  exact Subscript_ (binT ha hb I h fun v u s2 x y H2 I2 rx ry q => hr a b pins s2 σ H2 x y v u Q I2 rx ry q (hs _ _))

def rIxL (K : PySem.W.Frag) : R2 := fun x y H Q => ∃ p xs i v, x = .ref p ∧ y = .int i ∧ SqL K H p xs ∧ atI xs i = some v ∧ Q v H
def rIxT (K : PySem.W.Frag) : R2 := fun x y H Q => ∃ p xs i v, x = .ref p ∧ y = .int i ∧ SqT K H p xs ∧ atI xs i = some v ∧ Q v H
theorem ix_list : IxR X (rIxL X.K) := by
  intro value slice pins s σ H x y v u Q I rx ry h hs
  obtain ⟨p, xs, i, z, rfl, rfl, hq, he, q⟩ := h
  cases rx
  obtain ⟨t, rfl⟩ := ry
  obtain ⟨its, r, pl, hz⟩ := I.list hq
  obtain ⟨j, h1, h2, h3, h4, h5⟩ := atI_get he
  obtain ⟨w, ew, rw'⟩ := r.get h2
  have hl := r.length
  have hn := line63
  have fin : EP X pins σ Q w s := ⟨z, H, I, rw', q⟩
  by_cases h0 : 0 ≤ i
  · have hj : i.toNat = j := by
      rw [seqIndex_of h0 h5] at h1
      exact Option.some.inj h1
    exact item_listR pl.isList h0 (by omega) (by rw [hj]; simpa using ew) fin hs
  · have hj : (i + (its.toArray.size : Int)).toNat = j := by
      rw [seqIndex_neg (by omega) h4] at h1
      rw [List.size_toArray, ← hl]
      exact Option.some.inj h1
    exact subscriptTail_builtinR (x := w) pl.isList.typeIs slot_list_getitem.lookup
      (wpAny_getItem_list_neg (Q := fun r s' => r = w ∧ EP X pins σ Q r s') pl.isList (by omega) (by rw [List.size_toArray] <;> omega) (by omega) (by rw [hj]; simpa using ew) ⟨rfl, fin⟩) hs
theorem ix_tup : IxR X (rIxT X.K) := by
  intro value slice pins s σ H x y v u Q I rx ry h hs
  obtain ⟨p, xs, i, z, rfl, rfl, hq, he, q⟩ := h
  cases rx
  obtain ⟨t, rfl⟩ := ry
  obtain ⟨its, r, pl, hz⟩ := I.tuple hq
  obtain ⟨j, h1, h2, h3, h4, h5⟩ := atI_get he
  obtain ⟨w, ew, rw'⟩ := r.get h2
  have hl := r.length
  have hn := line63
  have fin : EP X pins σ Q w s := ⟨z, H, I, rw', q⟩
  exact subscriptTail_builtinR (x := w) pl.typeIs slot_tuple_getitem.lookup
    (getItem_tuple (j := j) (Q := fun r s' => r = w ∧ EP X pins σ Q r s') pl (by omega) (by omega) (by rw [List.size_toArray, ← hl]; exact h1) (by simpa using ew) ⟨rfl, fin⟩) hs

/-! ### xs[i] = v, any sign -/

/-! ### slices -/
theorem slice_bounds (lo hi : Option Int) (n : Nat) : (sliceBounds lo hi none n).1 = ((HT.sIx n 0 lo : Nat) : Int) ∧ (sliceBounds lo hi none n).2.1 = ((HT.sIx n n hi : Nat) : Int) ∧ (sliceBounds lo hi none n).2.2 = 1 := by
  refine ⟨?_, ?_, rfl⟩
  · cases lo with
    | none => simp [sliceBounds, HT.sIx]
    | some i =>
      simp only [sliceBounds, HT.sIx, Option.getD_none, show (1 : Int) > 0 by decide, if_true]
      by_cases h : i < 0
      · simp only [h, if_true] <;> omega
      · simp only [h, if_false] <;> omega
  · cases hi with
    | none => simp [sliceBounds, HT.sIx]
    | some i =>
      simp only [sliceBounds, HT.sIx, Option.getD_none, show (1 : Int) > 0 by decide, if_true]
      by_cases h : i < 0
      · simp only [h, if_true] <;> omega
      · simp only [h, if_false] <;> omega
theorem slicePick_cut (its : List Value) (lo hi : Option Int) : slicePick its.toArray lo hi none = ((its.drop (HT.sIx its.length 0 lo)).take (HT.sIx its.length its.length hi - HT.sIx its.length 0 lo)).toArray := by
  obtain ⟨h1, h2, h3⟩ := slice_bounds lo hi its.toArray.size
  unfold slicePick
  rw [h1, h2, h3]
  simp only [sliceRange_one, pick_run, List.size_toArray] <;> rfl
/-- xs[lo:hi] of a list: a new list -/
def rSlL (K : PySem.W.Frag) : V → Option Int → Option Int → Hp → VK → Prop := fun x lo hi H Q => ∃ a xs, x = .ref a ∧ SqL K H a xs ∧ ∀ p, H p = none → Q (.ref p) (upd H p (.lst (cutV xs lo hi)))
theorem sl_list : SlR X (rSlL X.K) := by
  intro pins s σ H x v vl vu lo hi sl Q I rx hs pl pu h
  obtain ⟨a, xs, rfl, hx, q⟩ := h
  cases rx
  obtain ⟨its, r, ht, hz⟩ := I.list hx
  have hlen := r.length
  refine ⟨"list", _, slot_list_getitem.lookup, ht.isList.typeIs, ?_⟩
  refine wpAny_getItem_list_slice ht.isList hs pl pu .none (by simp) ?_ (by rw [List.size_toArray] <;> omega)
  rw [slicePick_cut, ← hlen]
  refine ⟨.ref s.heap.objs.size, _, I.laid (t' := s.toks) (o := .lst (cutV xs lo hi)) (fun b ob q => Heap.get?_push_of_some _ q) (Nat.le_refl _) ?_, rfl, q _ (I.hok.fresh (Nat.le_refl _))⟩
  exact ⟨Nat.le_trans (cutV_length xs lo hi) hz, _, 0, (r.drop (HT.sIx xs.length 0 lo)).take (HT.sIx xs.length xs.length hi - HT.sIx xs.length 0 lo), Heap.get?_push_size _ rfl⟩

/-! ### in, not in: flat items -/

/-! ### len, list(x), tuple(x) of any list or tuple that is read -/
theorem call_len_seq : CallR X (.builtin "len") (fun xs H Q => ∃ p ys, xs = [.ref p] ∧ (SqL X.K H p ys ∨ SqT X.K H p ys) ∧ Q (.int ys.length) H) := by
  intro pins s σ H xs us Q I r h
  obtain ⟨p, ys, rfl, hq, q⟩ := h
  obtain ⟨u, rfl, rx⟩ := vals1 r
  cases rx
  have hn := line63
  rcases hq with hq | hq
  · obtain ⟨its, r', pl, hz⟩ := I.list hq
    have hlen := r'.length
    exact Calls.call_len_list pl.isList (by simp only [List.size_toArray] <;> omega) ⟨.int ys.length, H, I.tok _, ⟨s.toks + 1, by rw [List.size_toArray, hlen]⟩, q⟩
  · obtain ⟨its, r', pl, hz⟩ := I.tuple hq
    have hlen := r'.length
    exact len_tuple pl (by simp only [List.size_toArray] <;> omega) ⟨.int ys.length, H, I.tok _, ⟨s.toks + 1, by rw [List.size_toArray, hlen]⟩, q⟩
theorem call_list_of : CallR X (.type "list") (fun xs H Q => ∃ p ys, xs = [.ref p] ∧ (SqL X.K H p ys ∨ SqT X.K H p ys) ∧ ∀ l, H l = none → Q (.ref l) (upd H l (.lst ys))) := by
  intro pins s σ H xs us Q I r h
  obtain ⟨p, ys, rfl, hq, q⟩ := h
  obtain ⟨u, rfl, rx⟩ := vals1 r
  cases rx
  have fin : ∀ (its : List Value), Vals ys its → ys.length ≤ sizeLine → ∀ (h' : Heap) (c' : Nat), (∀ b o', s.heap.get? b = some o' → h'.get? b = some o') →
      h'.get? s.heap.objs.size = some { cls := .type "list", dict := none, data := .seq its.toArray c', slots := #[] } → EP X pins σ Q (.ref s.heap.objs.size) { s with heap := h' } := fun its r' hz h' c' kp e =>
    ⟨.ref s.heap.objs.size, _, I.laid (t' := s.toks) kp (Nat.le_refl _) (show ObjOk X.prog X.w _ h' _ (.lst ys) from ⟨hz, its, c', r', e⟩), rfl, q _ (I.hok.fresh (Nat.le_refl _))⟩
  rcases hq with hq | hq
  · obtain ⟨its, r', pl, hz⟩ := I.list hq
    have hlen := r'.length
    obtain ⟨o, ho, hc, n, hd⟩ := pl.isList
    exact call_list_seq p (.inl rfl) ho hc hd (fun h' c' kp e => fin its r' hz h' c' kp e) (by simp only [List.size_toArray] <;> omega)
  · obtain ⟨its, r', pl, hz⟩ := I.tuple hq
    have hlen := r'.length
    obtain ⟨o, ho, hc, n, hd⟩ := pl
    exact call_list_seq p (.inr rfl) ho hc hd (fun h' c' kp e => fin its r' hz h' c' kp e) (by simp only [List.size_toArray] <;> omega)

/-! ### the call of a builtin's method: o.m(..) -/
/-- the value is of that builtin type -/
def tyV (K : PySem.W.Frag) (T : String) (x : V) (H : Hp) : Prop := match x with
  | .str _ => T = "str"
  | .int _ => T = "int"
  | .ref p => (T = "list" ∧ ∃ xs, SqL K H p xs) ∨ (T = "tuple" ∧ ∃ o, K.lookup p = some o ∧ o.cls = .type "tuple" ∧ o.dict = none) ∨
      (T = "dict" ∧ ((∃ kvs, H p = some (.dK kvs)) ∨ ∃ kvs, H p = some (.dT kvs))) ∨ (T = "set" ∧ ∃ S n, H p = some (.set S n))
  | _ => False
theorem tyV_is {pins : List (Addr × Obj)} {σ : St} {H : Hp} {s : Shared} {T : String} {x : V} {v : Value} (I : Inv X pins σ H s) (r : RelV x v) (ty : tyV X.K T x H) :
    s.TypeIs v T ∧ ∀ a, v = .ref a → ∃ ob, s.heap.get? a = some ob ∧ ob.dict = none := by
  cases x with
  | str z =>
    obtain ⟨t, rfl⟩ := r
    cases (show T = "str" from ty)
    exact ⟨typeIs_str s z t, fun _ e => nomatch e⟩
  | int i =>
    obtain ⟨t, rfl⟩ := r
    cases (show T = "int" from ty)
    exact ⟨typeIs_int s i t, fun _ e => nomatch e⟩
  | ref p =>
    cases r
    rcases ty with ⟨rfl, xs, hq⟩ | ⟨rfl, o, hk, hc, hd⟩ | ⟨rfl, hk⟩ | ⟨rfl, S, n, hk⟩
    · obtain ⟨its, _, pl, _⟩ := I.list hq
      refine ⟨pl.isList.typeIs, fun a e => ?_⟩
      cases e
      obtain ⟨o, n, e, c, hd, _⟩ := pl
      exact ⟨o, e, hd⟩
    · refine ⟨⟨o, I.kIn p o hk, hc⟩, fun a e => ?_⟩
      cases e
      exact ⟨o, I.kIn _ o hk, hd⟩
    · have z : ∃ o, s.heap.get? p = some o ∧ o.ExactDict := by
        rcases hk with ⟨kvs, hk⟩ | ⟨kvs, hk⟩
        · obtain ⟨_, _, _, _, o, _, _, e, ex, _⟩ := I.hok p _ hk
          exact ⟨o, e, ex⟩
        · obtain ⟨_, _, _, _, o, _, _, e, ex, _⟩ := I.hok p _ hk
          exact ⟨o, e, ex⟩
      obtain ⟨o, e, ex⟩ := z
      refine ⟨⟨o, e, ex.1⟩, fun a e2 => ?_⟩
      cases e2
      exact ⟨o, e, ex.2.1⟩
    · obtain ⟨o, _, _, _, e, ex, _⟩ := I.hok p _ hk
      refine ⟨⟨o, e, ex.1⟩, fun a e2 => ?_⟩
      cases e2
      exact ⟨o, e, ex.2.1⟩
  | _ => exact False.elim ty
def tBM (K : PySem.W.Frag) (T : String) (r : V → List V → Hp → VK → Prop) (to : TE) (t : TA) : TE := fun σ H Q => to σ H fun x H1 => tyV K T x H1 ∧ t σ H1 fun xs H2 => r x xs H2 Q
variable {o e : Expr} {es : List Expr} {to : TE} {t : TA} {name : Str} {apos cpos : Pos} {T id : String} {r : V → List V → Hp → VK → Prop}
theorem pe_bm (pa : PlainAttrs T) (slot : Slot T name id) (hty : typeOf (.builtin id) = pure (.type "method_descriptor")) (hm : MtR X id r) (ho : PE X o to) (ha : PA X (e :: es) t)
    (hbase : attributeBase o name X.env (eval o X.env) = eval o X.env := by rfl)
    (hfew : ((backTo cpos (starEach (e :: es) X.env)).all (fun x => !x.1) && (backToKw cpos (keywordEach [] X.env)).all (fun x => x.1.isSome)
      && decide ((e :: es).length + ([] : List Keyword).length + (if ([] : List Keyword).isEmpty then 0 else 1) < 30)) = true := by rfl)
    (hline : (apos.endLine == cpos.line) = true := by rfl) (hs : starEach (e :: es) X.env = (false, eval e X.env) :: starEach es X.env := by rfl) (hplain : (backTo cpos (starEach es X.env)).any (·.1) = false := by rfl) :
    PE X (.Call (.Attribute o name apos) (e :: es) [] cpos) (tBM X.K T r to t) := by
  intro pins s σ H Q I h
  refine wpAny_Call_method_late hbase hfew hline rfl (thn (ho pins s σ H _ I h) fun v s1 ⟨x, H1, I1, r1, ty, q1⟩ => ?_)
  obtain ⟨h1, h2⟩ := tyV_is I1 r1 ty
  refine ⟨T, id, pa, slot, hty, h1, h2, ?_⟩
  have hA := ha cpos pins s1 σ H1 _ I1 q1
  rw [hs] at hA ⊢
  refine Calls.callWith_builtin (by show (false || (backTo cpos (starEach es X.env)).any (·.1)) = false; rw [hplain] <;> rfl) (Calls.evalArgs_plain ?_)
  exact thn hA fun us s2 ⟨vs, H2, I2, r2, q2⟩ => hm pins s2 σ H2 x vs v us Q I2 r1 r2 q2
/- xs.append(e), list.index on a module's tuple .. are MtR facts of 06m -/
end
end L2

namespace L2
open PySem PySem.Spec PyProof.Rows

def MtM (X : Cx) (id : String) (r : V → List V → Hp → VK → Prop) : Prop :=
  ∀ (pins : List (Addr × Obj)) (s : Shared) (σ : St) (H : Hp) (x : V) (xs : List V) (v : Value) (us : List Value) (Q : VK), Inv X pins σ H s → RelV x v → Vals xs us → r x xs H Q →
    wpAny (model X.prog X.w) X.A (call (.builtin id) (v :: us)) (EP X pins σ Q) X.xe s

/-! ### lists of values -/
theorem Vals.one : ∀ {x : V} {us : List Value}, Vals [x] us → ∃ u, us = [u] ∧ RelV x u
  | _, _, .cons r .nil => ⟨_, rfl, r⟩
theorem Vals.two : ∀ {x y : V} {us : List Value}, Vals [x, y] us → ∃ u v, us = [u, v] ∧ RelV x u ∧ RelV y v
  | _, _, _, .cons r (.cons q .nil) => ⟨_, _, rfl, r, q⟩

section
variable {X : Cx} {pins : List (Addr × Obj)} {σ : St} {H : Hp} {s : Shared} {l b : Addr} {xs ys zs : List V}

/-! ### the two steps: a tracked list is rewritten, a new list is laid -/
theorem Inv.lset {its its' : List Value} {n : Nat} {f : Array Value → Array Value} {t' : Nat} (I : Inv X pins σ H s) (hH : H l = some (.lst xs))
    (e : s.heap.get? l = some { cls := .type "list", data := .seq its.toArray n }) (hf : f its.toArray = its'.toArray) (hv : Vals ys its') (hz : ys.length ≤ sizeLine) :
    Inv X pins σ (upd H l (.lst ys)) { s with heap := s.heap.update l (Obj.mapSeq f), toks := t' } := by
  have q := PySem.IsL.update e f
  rw [hf] at q
  refine I.write (x := l) (e := l) (by rw [hH]; exact trivial) (.inl rfl) (fun b' u hb hu => (Heap.get?_update_other s.heap (Obj.mapSeq f) (Ne.symm hb)).trans hu) ⟨_, q⟩ ?_
  exact ⟨hz, its', _, hv, q⟩
theorem Inv.lnew {its : List Value} {t' : Nat} (I : Inv X pins σ H s) (hv : Vals ys its) (hz : ys.length ≤ sizeLine) :
    Inv X pins σ (upd H s.heap.objs.size (.lst ys)) { s with heap := s.heap.push { cls := .type "list", data := .seq its.toArray }, toks := t' } :=
  I.laid (fun _ _ q => Heap.get?_push_of_some _ q) (Nat.le_refl _) ⟨hz, its, 0, hv, Heap.get?_push_size _ rfl⟩
theorem Inv.fresh (I : Inv X pins σ H s) : H s.heap.objs.size = none := I.hok.fresh (Nat.le_refl _)
theorem Inv.lstM (I : Inv X pins σ H s) (hH : H l = some (.lst xs)) : xs.length ≤ sizeLine ∧ ∃ (its : List Value) (n : Nat), Vals xs its ∧ xs.length = its.length ∧ s.heap.get? l = some { cls := .type "list", data := .seq its.toArray n } := by
  obtain ⟨z, its, n, r, e⟩ := I.hok l _ hH
  exact ⟨z, its, n, r, r.length, e⟩

theorem notLongL {n : Nat} (h : n ≤ sizeLine) : Builtin.List.listTooLong n = false := by
  unfold Builtin.List.listTooLong
  exact decide_eq_false (by omega)
end

section
variable {X : Cx}

/-! ### methods -/
def rAppend : V → List V → Hp → VK → Prop := fun x vs H Q => ∃ l xs y, x = .ref l ∧ vs = [y] ∧ H l = some (.lst xs) ∧ xs.length < sizeLine ∧ Q .non (upd H l (.lst (xs ++ [y])))
theorem mt_append : MtM X "list.append" rAppend := by
  intro pins s σ H x vs v us Q I rx rv h
  obtain ⟨l, xs, y, rfl, rfl, hH, hz, q⟩ := h
  cases rx
  obtain ⟨u, rfl, ru⟩ := rv.one
  obtain ⟨z, its, n, r, hl, e⟩ := I.lstM hH
  refine call_meets F.slot_list_append ⟨_, e, rfl⟩ F.entry_list_append (F.args_list_append_2 _ _) (PySem.list_append l its.toArray n u (by rw [List.size_toArray]; omega)) ⟨e, ?_⟩
  refine ⟨.non, _, I.lset (its' := its ++ [u]) hH e (by simp) (r.append (.cons ru .nil)) ?_, rfl, q⟩
  rw [List.length_append, List.length_singleton]
  omega

def rExtend : V → List V → Hp → VK → Prop := fun x vs H Q => ∃ l b xs zs, x = .ref l ∧ vs = [.ref b] ∧ H l = some (.lst xs) ∧ H b = some (.lst zs) ∧ xs.length + zs.length ≤ sizeLine ∧ Q .non (upd H l (.lst (xs ++ zs)))
theorem mt_extend : MtM X "list.extend" rExtend := by
  intro pins s σ H x vs v us Q I rx rv h
  obtain ⟨l, b, xs, zs, rfl, rfl, hH, hB, hz, q⟩ := h
  cases rx
  obtain ⟨u, rfl, ru⟩ := rv.one
  cases ru
  obtain ⟨z, its, n, r, hl, e⟩ := I.lstM hH
  obtain ⟨z2, its2, n2, r2, hl2, e2⟩ := I.lstM hB
  have hsz : its.toArray.size + its2.toArray.size ≤ sizeLine := by rw [List.size_toArray, List.size_toArray]; omega
  have hlong : ¬ (!its.toArray.isEmpty && Builtin.List.listTooLong (its.toArray.size + its2.toArray.size)) = true := by
    rw [notLongL hsz, Bool.and_false]
    exact Bool.false_ne_true
  refine call_meets F.slot_list_extend ⟨_, e, rfl⟩ F.entry_list_extend (F.args_list_extend_2 _ _)
    (AutoSeq1.list_extend_list_list_0 l its.toArray n b its2.toArray n2 hlong (by rw [List.size_toArray]; omega) (by omega)) ⟨e, e2, ?_⟩
  refine ⟨.non, _, I.lset (its' := its ++ its2) hH e (by simp) (r.append r2) ?_, rfl, q⟩
  rw [List.length_append]
  omega





/-! ### list + list, list += list, list * int -/
def rCat : R2 := fun x y H Q => ∃ l b xs zs, x = .ref l ∧ y = .ref b ∧ H l = some (.lst xs) ∧ H b = some (.lst zs) ∧ xs.length + zs.length ≤ sizeLine ∧ ∀ p, H p = none → Q (.ref p) (upd H p (.lst (xs ++ zs)))
theorem op_cat : OpR X (binaryOp .Add) rCat := by
  intro pins s σ H x y v u Q I rx ry h
  obtain ⟨l, b, xs, zs, rfl, rfl, hH, hB, hz, q⟩ := h
  cases rx
  cases ry
  obtain ⟨z, its, n, r, hl, e⟩ := I.lstM hH
  obtain ⟨z2, its2, n2, r2, hl2, e2⟩ := I.lstM hB
  refine PySem.P.add_list e e2 ?_ (by rw [List.size_toArray, List.size_toArray]; omega)
  have ea : its.toArray ++ its2.toArray = (its ++ its2).toArray := by simp
  rw [ea]
  exact ⟨.ref _, _, I.lnew (t' := s.toks) (r.append r2) (by rw [List.length_append]; omega), rfl, q _ I.fresh⟩

/-! ### del xs[i] -/
end

/-! ### xs[a:b] = ys -/
section
variable {prog : Program} {w : World} {A : Around} {E : Value → Shared → Prop} {s : Shared}
end

section
variable {X : Cx}
end
end L2

namespace Att
open PySem PySem.W PySem.Calls PyProof.Rows

/-! ### the script -/
theorem ints_of_wellAll {P : Params} {h : Heap} : ∀ (ns : List Int) (vs : List Value), WellAll P h vs (ns.map WData.int) → IntsAre vs ns := by
  intro ns
  induction ns with
  | nil =>
    intro vs w
    rw [List.map_nil] at w
    cases w
    exact .nil
  | cons n ns ih =>
    intro vs w
    rw [List.map_cons] at w
    cases w with
    | cons a b =>
      cases a
      exact .cons _ _ (ih _ b)

theorem script_of {l : OpenLaw} {n : Nat} (hn : l.most = some n) {P : Params} {h : Heap} {args : List WData} {vals : List Value}
    (hpre : l.row.toRowW.claim.pre args = true) (hwl : WellAll P h vals args) :
    ∃ a vs ns, vals = [Value.ref a] ∧ args = [WData.list (ns.map WData.int)] ∧ h.get? a = some { cls := .type "list", data := .seq vs.toArray } ∧ IntsAre vs ns ∧ ns.length ≤ n := by
  have hsh : WShape.hasAll [] args [.list .int] = true := (pre_splitW hpre).1
  have hc : l.pre.holds [] { args := args } = true := (pre_splitW hpre).2
  obtain ⟨d, r, rfl, h1, h2⟩ := hasAllW_cons hsh
  obtain rfl := hasAllW_nil h2
  obtain ⟨xs, rfl, h3⟩ := hasW_list h1
  obtain ⟨ns, rfl⟩ := items_int h3
  have hlen : ns.length ≤ n := by
    unfold OpenLaw.pre at hc
    have h4 : (WTm.not (.lt (.lit (.int (n : Int))) (.len (.arg 0)))).holds [] { args := [.list (ns.map .int)] } = true := by
      have h4 := (holds_andW hc).1
      rw [hn] at h4
      exact h4
    have h5 := condW_of h4 (w_not (w_lt w_lit (w_len_list (w_arg rfl))))
    rw [List.length_map] at h5
    refine Nat.le_of_not_lt fun q => ?_
    have q' : (n : Int) < ((ns.length : Nat) : Int) := by omega
    first
      | (rw [decide_eq_true q'] at h5; exact absurd h5 (by decide))
      | (simp at h5; omega)
  cases hwl with
  | cons w1 w2 =>
    cases w2
    cases w1 with
    | list ho hall => exact ⟨_, _, ns, rfl, rfl, ho, ints_of_wellAll ns _ hall, hlen⟩

theorem post_true (l : OpenLaw) (args : List WData) : l.row.toRowW.claim.post args (.bool true) args = true :=
  postW_of (r := l.row.toRowW) (X := (true == true))
    (show WShape.has [] (.bool true) .bool = true by first | rfl | decide | simp [WShape.has, WShape.arms, WShape.armsAll])
    (show (WTm.eq .res (.lit (.bool true))).value [] { args := args, res := some (.bool true), after := args } = some (.bool (true == true)) from w_eq_bool (w_res rfl) w_lit) rfl

/-! ### the attachment: holds_open's last premise (the goal 'hc' behind k_head) from a wpAny of the law's body -/

/-- the same from a codeAny of the CALL (for a layer whose function contracts speak of calls) -/
theorem attach_call {l : OpenLaw} {n : Nat} {q : Program} {loose : List Str} {XP : (Str → Option Value) → Heap → Prop} {YP : World → Heap → Prop} {d : DefRec}
    (hn : l.most = some n) (hdf : d.params.defaults = [])
    (call : ∀ (w : World) (s₀ s₁ : Shared) (mg mb : Str → Option Value) (fa : Addr) (o : Obj) (pm cd doc : Value) (a : Addr) (vs : List Value) (ns : List Int),
      Ground q loose [] XP w s₀ mg mb s₁.heap → YP w s₁.heap →
      s₁.heap.get? fa = some o → o.data = .func (docDef d.name d.params d.body d.scope pm cd doc) → s₁.heap.CodeRec cd d.name → mg d.name = some (.ref fa) →
      s₁.heap.get? a = some { cls := .type "list", data := .seq vs.toArray } → IntsAre vs ns → ns.length ≤ n → s₁.gens = #[] →
      codeAny (model l.prog w) callerA (.call (.ref fa) ⟨[.ref a], []⟩) (fun r s' => r = .ok (.ret (.bool true)) ∧ OldK s₁.heap s'.heap ∧ s'.os = s₁.os ∧ AllBare s'.gens) s₁) :
    WalkO q loose XP YP l.row.toRowW d [] (fun f vs => PySem.call f vs) := by
  intro w s₀ s₁ mg mb G Y fa o pm cd doc dV kV ho hd hcd hD hmg hg args vals as hpre hlay hrd hwl hlo
  obtain rfl : dV = .none := Dflts.none hD hdf
  obtain rfl : kV = .none := Dflts.noKw hD
  obtain ⟨a, vs, ns, rfl, rfl, hobj, hints, hlen⟩ := script_of hn hpre hwl
  refine enter_call (codeAny_mono (call w s₀ s₁ mg mb fa o pm cd doc a vs ns G Y ho (fd_plain hd) hcd hmg hobj hints hlen hg) fun r s' hq => ?_)
  obtain ⟨rfl, h2, h3, h4⟩ := hq
  exact ⟨.inl ⟨.bool true, .bool true, [], rfl, fun _ => rfl, .bool true, post_true l _, fun _ => ⟨List.Pairwise.nil, fun _ hm => (nomatch hm)⟩⟩, h2, h3, h4⟩


/-! ### rules over ANY heap (no ledger) from facts about the written part K: the library's own take a ledger (News) for what they write -/
section
variable {prog : Program} {w : World} {A : Around} {E : Value → Shared → Prop} {s : Shared} {K : Frag}





/-! the whole heap as the ledger: makes every rule that writes through a ledger a rule over any heap -/

end
end Att

namespace L2
open PySem PySem.Spec PyProof.Rows

theorem vals_ints : ∀ {vs : List Value} {ns : List Int}, IntsAre vs ns → Vals (ns.map V.int) vs
  | _, _, .nil => .nil
  | _, _, .cons n t h => .cons ⟨t, rfl⟩ (vals_ints h)

/-- nothing is tracked but the script, known to the object (or it is an object of the module) -/
def Only (H : Hp) : Prop := ∀ b, H b = none ∨ ∃ o xs, H b = some (.frz o (.lst xs))

/-- THE HEAD: the law's promise, at the heap behind the top. F, the promise of the law's def, may use that base is part of the heap (so K.In base, base.Ns mainGlobals mg stand in Mod) -/
theorem law_call {P : Program} {w : World} {K : PySem.W.Frag} {mg mb : Str → Option Value} {CX : CXT} {k : Nat} {fa a : Addr} {fd : FuncData} {x : Str} {sp : Sp} {s₁ : Shared} {vs : List Value} {ns : List Int}
    (KX : K.In s₁.heap) (hns : s₁.heap.Ns mainGlobals mg) (hb : s₁.heap.Ns builtinsNs mb) (hbb : ∀ x : Str, x ≠ "__name__" → mb x = bootBuiltins x) (hlim : s₁.heap.NoLimit) (hg : s₁.gens = #[])
    (ha : s₁.heap.get? a = some { cls := .type "list", data := .seq vs.toArray }) (hi : IntsAre vs ns) (hl : ns.length ≤ sizeLine) (hr : Room k callerA)
    (F : ∀ base : Heap, K.In base → base.Ns mainGlobals mg → FnOk P w K mg base CX k fa fd [x] sp) (hbind : ∀ (s : Shared) (u : Value), BindsTo s fd ⟨[u], []⟩ [(x, u)])
    (hsp : ∀ H : Hp, Only H → SqL K H a (ns.map V.int) → sp [.ref a] H (fun v _ => v = .bl true) fun _ _ _ => False)
    (hCX : ∀ H e s', CX [] H s₁ (fun _ _ _ => False) e s' → False) :
    codeAny (model P w) callerA (.call (.ref fa) ⟨[.ref a], []⟩) (fun r s' => r = .ok (.ret (.bool true)) ∧ OldK s₁.heap s'.heap ∧ s'.os = s₁.os ∧ AllBare s'.gens) s₁ := by
  have rv := vals_ints hi
  have lenV := hi.length
  have core : ∀ H : Hp, Only H → SqL K H a (ns.map V.int) → HOk P w H s₁.heap → (∀ b, H b ≠ none → b = a) → (H a ≠ none → K.lookup a = none) →
      codeAny (model P w) callerA (.call (.ref fa) ⟨[.ref a], []⟩) (fun r s' => r = .ok (.ret (.bool true)) ∧ OldK s₁.heap s'.heap ∧ s'.os = s₁.os ∧ AllBare s'.gens) s₁ := by
    intro H hO hS hok hA hK
    have base_of : ∀ {b : Addr} {o : Obj}, s₁.heap.get? b = some o → H b = none → (hidT s₁.heap H).get? b = some o := fun e n => hidT_get e n
    have noA : ∀ {b : Addr} {o : Obj} {es : Array DictEntry} {ep : Nat}, s₁.heap.get? b = some o → o.data = .dict es ep → H b = none := fun {b o es ep} e d => by
      cases q : H b with
      | none => rfl
      | some u =>
        have e' : b = a := hA b (by rw [q]; simp)
        subst e'
        rw [ha] at e; cases e
        have d' : Data.seq vs.toArray _ = Data.dict es ep := d
        cases d'
    have nsK : ∀ {b : Addr} {m : Str → Option Value}, s₁.heap.Ns b m → (hidT s₁.heap H).Ns b m := fun {b m} ⟨o, es, ep, e, d, r⟩ => ⟨o, es, ep, base_of e (noA e d), d, r⟩
    have hKb : K.In (hidT s₁.heap H) := fun b o e => base_of (KX b o e) (by
      cases q : H b with
      | none => rfl
      | some u =>
        have e' : b = a := hA b (by rw [q]; simp)
        subst e'
        rw [hK (by rw [q]; simp)] at e; cases e)
    have hM : Mod K mg (hidT s₁.heap H) := ⟨hKb, nsK hns, ⟨mb, nsK hb, hbb⟩, let ⟨mc, h1, h2⟩ := hlim; ⟨mc, nsK h1, h2⟩⟩
    have e0 : Env0 P w K mg (hidT s₁.heap H) callerA [] s₁ H := ⟨rfl, hM, fun b o e => of_hidT e, Nat.le_of_eq (hidT_size _ _), trivial, fun b hb => absurd (show b ∈ ([] : List Addr) from hb) (by simp), hok, .of_eq hg⟩
    refine codeAny_mono ((F _ hKb (nsK hns)).run callerA [] s₁ H ⟨[.ref a], []⟩ [.ref a] [.ref a] _ _ hr e0 (hbind s₁ (.ref a)) (.cons rfl .nil) (hsp H hO hS)) fun r s' h => ?_
    cases r with
    | error e => exact (hCX H e s' h).elim
    | ok fl =>
      cases fl with
      | next => exact False.elim h
      | brk => exact False.elim h
      | cont => exact False.elim h
      | ret u =>
        obtain ⟨v, H', os, bare, un, hok', r', q⟩ := h
        have q' : v = .bl true := q
        subst q'
        obtain rfl : u = Value.bool true := r'
        refine ⟨rfl, OldK.of_keep fun b o e => ?_, os, bare⟩
        cases q : H b with
        | none => exact un.keep b o e q (by intro z; exact absurd (show b ∈ ([] : List Addr) from z) (by simp)) (by simp)
        | some u =>
          rcases hO b with z | ⟨ob, xs, z⟩
          · rw [q] at z; cases z
          · have z2 := un.frzs b ob _ z
            obtain ⟨e1, _⟩ := hok b _ z
            obtain ⟨e2, _⟩ := hok' b _ z2
            rw [e] at e1; cases e1
            exact e2
  cases hk : K.lookup a with
  | some o =>
    have e := KX a o hk
    rw [ha] at e
    cases e
    refine core (fun _ => none) (fun _ => .inl rfl) (.inr ⟨_, vs.toArray, _, hk, rfl, rfl, rfl, by rw [List.size_toArray, lenV]; exact hl, by simpa using rv⟩) (fun b u z => by have z' : (none : Option HO) = some u := z; cases z') (fun b z => absurd rfl z) fun z => absurd rfl z
  | none =>
    refine core (fun b => if b = a then some (.frz { cls := .type "list", data := .seq vs.toArray } (.lst (ns.map V.int))) else none) (fun b => ?_) (.inl (.inr ⟨{ cls := .type "list", data := .seq vs.toArray }, if_pos rfl⟩)) (fun b u z => ?_) (fun b z => ?_) fun _ => hk
    · by_cases hb : b = a
      · exact .inr ⟨_, _, if_pos hb⟩
      · exact .inl (if_neg hb)
    · by_cases hb : b = a
      · have z' := (if_pos hb).symm.trans z
        cases z'
        subst hb
        exact ⟨ha, by rw [List.length_map]; exact hl, vs, _, rv, ha⟩
      · have z' := (if_neg hb).symm.trans z
        cases z'
    · by_cases hb : b = a
      · exact hb
      · exact absurd (if_neg hb) z
end L2

namespace L2
open PySem PySem.Spec PyProof.Rows

abbrev KOf {K : PySem.W.Frag} {h : Heap} (_ : K.In h) : PySem.W.Frag := K

/-- the goal that k_head leaves (case hc), from the law's promise. F gives the function object fd (K's own) once, then the promise over every base -/
theorem walk_of {l : PySem.W.OpenLaw} {n k : Nat} {q : Program} {loose : List Str} {XP : (Str → Option Value) → Heap → Prop} {YP : World → Heap → Prop} {d : DefRec} {K : Params → PySem.W.Frag} {CX : World → CXT} {sp : World → Sp} {x : Str}
    (hn : l.most = some n) (hn2 : n ≤ sizeLine) (hdf : d.params.defaults = []) (hr : Room k callerA)
    (hY : ∀ (w : World) (h : Heap), YP w h → (K w.params).In h)
    (F : ∀ (w : World) (mg : Str → Option Value) (fa : Addr) (h : Heap), (K w.params).In h → h.Ns mainGlobals mg → mg d.name = some (.ref fa) →
      ∃ fd : FuncData, (∀ (s : Shared) (u : Value), BindsTo s fd ⟨[u], []⟩ [(x, u)]) ∧
        ∀ base : Heap, (K w.params).In base → base.Ns mainGlobals mg → FnOk l.prog w (K w.params) mg base (CX w) k fa fd [x] (sp w))
    (hsp : ∀ (w : World) (H : Hp) (a : Addr) (ns : List Int), ns.length ≤ n → Only H → SqL (K w.params) H a (ns.map V.int) → sp w [.ref a] H (fun v _ => v = .bl true) fun _ _ _ => False)
    (hCX : ∀ (w : World) (H : Hp) (s : Shared) (e : Value) (s' : Shared), CX w [] H s (fun _ _ _ => False) e s' → False) :
    PySem.W.WalkO q loose XP YP l.row.toRowW d [] (fun f vs => PySem.call f vs) := by
  refine Att.attach_call hn hdf fun w s₀ s₁ mg mb fa o pm cd doc a vs ns G Y ho hd hcd hmg hobj hints hlen hg => ?_
  have KX := hY w _ Y
  obtain ⟨fd, hb, hF⟩ := F w mg fa _ KX G.T.g hmg
  exact law_call KX G.T.g G.T.b G.T.builtins G.T.nolimit hg hobj hints (Nat.le_trans hlen hn2) hr hF hb (fun H hO hS => hsp w H a ns hlen hO hS) fun H e s' => hCX w H s₁ e s'
/-- the same where the promise hangs on the written part alone: (sp := My.sp_law), no hole under a binder -/
theorem walk_ofK {l : PySem.W.OpenLaw} {n k : Nat} {q : Program} {loose : List Str} {XP : (Str → Option Value) → Heap → Prop} {YP : World → Heap → Prop} {d : DefRec} {K : Params → PySem.W.Frag} {CX : CXT} {sp : PySem.W.Frag → Sp} {x : Str}
    (hn : l.most = some n) (hn2 : n ≤ sizeLine) (hdf : d.params.defaults = []) (hr : Room k callerA)
    (hY : ∀ (w : World) (h : Heap), YP w h → (K w.params).In h)
    (F : ∀ (w : World) (mg : Str → Option Value) (fa : Addr) (h : Heap), (K w.params).In h → h.Ns mainGlobals mg → mg d.name = some (.ref fa) →
      ∃ fd : FuncData, (∀ (s : Shared) (u : Value), BindsTo s fd ⟨[u], []⟩ [(x, u)]) ∧
        ∀ base : Heap, (K w.params).In base → base.Ns mainGlobals mg → FnOk l.prog w (K w.params) mg base CX k fa fd [x] (sp (K w.params)))
    (hsp : ∀ (K : PySem.W.Frag) (H : Hp) (a : Addr) (ns : List Int), ns.length ≤ n → Only H → SqL K H a (ns.map V.int) → sp K [.ref a] H (fun v _ => v = .bl true) fun _ _ _ => False)
    (hCX : ∀ (H : Hp) (s : Shared) (e : Value) (s' : Shared), CX [] H s (fun _ _ _ => False) e s' → False) :
    PySem.W.WalkO q loose XP YP l.row.toRowW d [] (fun f vs => PySem.call f vs) :=
  walk_of (K := K) (CX := fun _ => CX) (sp := fun w => sp (K w.params)) hn hn2 hdf hr hY F (fun w H a ns h1 h2 h3 => hsp (K w.params) H a ns h1 h2 h3) fun _ H s e s' => hCX H s e s'
end L2

/- THE LAST THEOREM (shape; LID, My.* are yours):
   My.Adr: a structure of the addresses that your layer names (classes, functions); My.Txt K t: a structure (Prop) of the equations over K;
   My.txt_mk : {K} {implicit addresses ..} (e1 : nsIn K mainGlobals "law" = some (some (.ref f))) (e2 : K.lookup f = some ⟨oc, od, .func (fnOf "law" "law" params body scope dV kV doc pm an cdv ct), sl⟩) (e3 : codeIn K cdv "law" = true) .. : ∃ t, My.Txt K t

set_option maxRecDepth 100000 in
set_option maxHeartbeats 0 in
theorem PySem.Challenge.cw_LID_holds : PySem.Challenge.rw_LID.Holds := by
  w_on; o_law; k_head; (case hw => w_witness2)
  k_fill
  refine L2.walk_of (l := PySem.Challenge.rw_LID) (n := 63) (k := 40) (x := "script") (CX := fun w => ..) (sp := fun _ => My.sp_law) rfl (by decide) rfl ⟨rfl, by decide, by decide⟩ (fun w h Y => PySem.W.kIn_of Y) ?F ?S ?C
  case F =>
    intro w mg fa h KX G hmg
    have T : ∃ t, My.Txt (L2.KOf KX) t := by
      dsimp only [L2.KOf]                          -- K must stand as «<heap const> w.params» for k_is
      refine' My.txt_mk ?e1 ?e2 ?e3 ..
      (case e1 => PySem.W.k_is)                    -- in the order: a name -> its address -> its object -> its parts
      (case e2 => PySem.W.k_is)
      ..
    obtain ⟨t, T⟩ := T
    have e0 := hmg.symm.trans (PySem.W.mg_of KX G T.law)
    cases e0                                       -- fa is the law's own address
    exact ⟨_, fun s u => .of_eq rfl, fun base kb nb => My.law_fn T kb nb⟩     -- if «.of_eq rfl» comes too early: refine' ⟨_, ?b, fun base kb nb => My.law_fn T kb nb⟩; exact fun s u => .of_eq rfl
  case S => exact fun w H a ns hl hO hS => ..
  case C => exact ..
(the tactic k_is has no namespace: write k_is) -/

/-! SHORT WORDS over the layer: a def of the text, its body, what a loop and a test want. -/
namespace L2
open PySem PySem.Spec PyProof.Rows

/-! ### the text by places -/
def defArgs (s : Stmt) : Arguments := match s with
  | .FunctionDef _ a _ _ _ _ _ _ _ _ => a
  | _ => { posonlyargs := [], args := [], vararg := none, kwonlyargs := [], kw_defaults := [], kwarg := none, defaults := [] }
def defBody (s : Stmt) : List Stmt := match s with
  | .FunctionDef _ _ b _ _ _ _ _ _ _ => b
  | _ => []
def defScope (s : Stmt) : Scope := match s with
  | .FunctionDef _ _ _ _ _ _ sc _ _ _ => sc
  | _ => { kind := .function, names := [], isGenerator := false, isCoroutine := false }

/-! ### no exception leaves a def -/
abbrev CX0 : CXT := fun _ _ _ _ _ _ => False
abbrev E0 : XK := fun _ _ _ => False
theorem pass0 {X : Cx} : Passes CX0 X E0 := fun _ _ _ _ _ _ _ h => h.elim

/-! ### a def (or method) of the text as it stands behind the top -/
structure Fun (K : PySem.W.Frag) (x qual : Str) (st : Stmt) (f : Addr) (fd : FuncData) : Prop where
  ex : ∃ (oc : Value) (od : Option Addr) (kV doc pm : Value) (an : Option Addr) (cdv ct : Value) (osl : Array (Option Value)),
    fd = PySem.W.fnOf x qual (defArgs st) (defBody st) (defScope st) .none kV doc pm an cdv ct ∧ K.lookup f = some ⟨oc, od, .func fd, osl⟩ ∧ PySem.W.codeIn K cdv qual = true
  kp : PySem.W.keepIn K (.ref f) = true
section
variable {P : Program} {w : World} {K : PySem.W.Frag} {mg : Str → Option Value} {base : Heap}
/-- THE RULE for a def: its body as a term of rules, and the reading of that term -/
theorem Fun.ok {x qual : Str} {st : Stmt} {f : Addr} {fd : FuncData} {N ps : List Str} {k : Nat} {sp : Sp} (F : Fun K x qual st f fd) (S : FnScope N ps (defScope st)) (len : ∀ vs H Q E, sp vs H Q E → vs.length = ps.length)
    (hbody : ∀ (cdv : Value) (A : Around) (outer : List Env) (s : Shared) (H : Hp) (vs : List V) (Q : VK) (E : XK), Room k (A.deeper (envOfC qual (defScope st) s.heap.objs.size f cdv)) → sp vs H Q E →
      ∃ t, PSs (cxOf CX0 P w K mg base N qual (defScope st) f cdv A outer s H E).nox (defBody st) t ∧ t { nx := fun _ H' => Q .non H', rt := Q } (start N vs) H) : FnOk P w K mg base CX0 (k + 1) f fd ps sp := by
  obtain ⟨oc, od, kV, doc, pm, an, cdv, ct, osl, rfl, lk, hcd⟩ := F.ex
  refine fn_of lk hcd S len fun A outer s H vs Q E hr hsp => ?_
  obtain ⟨t, h, q⟩ := hbody cdv A outer s H vs Q E hr hsp
  exact ⟨t, h.nox, q⟩
/-- how its arguments bind (no defaults): h is «fun _ _ _ _ _ _ us hl => match us, hl with | [_, _], _ => rfl», one _ a parameter -/
theorem Fun.binds {x qual : Str} {st : Stmt} {f : Addr} {fd : FuncData} {ps : List Str} (F : Fun K x qual st f fd)
    (h : ∀ (kV doc pm : Value) (an : Option Addr) (cdv ct : Value) (us : List Value), us.length = ps.length → bindArgs (PySem.W.fnOf x qual (defArgs st) (defBody st) (defScope st) .none kV doc pm an cdv ct) ⟨us, []⟩ = pure (ps.zip us)) : Binds K fd ps [] := by
  obtain ⟨oc, od, kV, doc, pm, an, cdv, ct, osl, rfl, lk, hcd⟩ := F.ex
  exact .all (h kV doc pm an cdv ct)
theorem fun_mk {x qual : Str} {st : Stmt} {f : Addr} {oc : Value} {od an : Option Addr} {osl : Array (Option Value)} {kV doc pm cdv ct : Value} (l : K.lookup f = some ⟨oc, od, .func (PySem.W.fnOf x qual (defArgs st) (defBody st) (defScope st) .none kV doc pm an cdv ct), osl⟩)
    (c : PySem.W.codeIn K cdv qual = true) (k : PySem.W.keepIn K (.ref f) = true) : Fun K x qual st f (PySem.W.fnOf x qual (defArgs st) (defBody st) (defScope st) .none kV doc pm an cdv ct) := ⟨⟨oc, od, kV, doc, pm, an, cdv, ct, osl, rfl, l, c⟩, k⟩
end
theorem small1000 {n : Nat} (h : n ≤ 1000) : n < sizeLine := Nat.lt_of_le_of_lt h (by decide)

/-! ### expressions in short: the name that stands in the i-th slot -/
section
variable {X : Cx}
theorem pv (i : Nat) {x : Str} {pos : Pos} (hN : X.N[i]? = some x := by rfl) (hv : Vis X.env.scope x := by first | exact Or.inl rfl | exact Or.inr (Or.inl rfl) | exact Or.inr (Or.inr rfl)) (hd : (x == ("__debug__" : Str)) = false := by decide)
    (hcd : (x == ("__classdict__" : Str)) = false := by decide) : PE X (.Name x pos) (tVar i) := pe_var hN hv hd hcd
end

/-! ### tests -/
theorem iteF {A B : Prop} (h : B) : if false = true then A else B := by
  rw [if_neg Bool.false_ne_true]
  exact h
theorem iteT {A B : Prop} (h : A) : if true = true then A else B := by
  rw [if_pos rfl]
  exact h
theorem ite2 {c A B : Prop} [Decidable c] (h1 : c → A) (h2 : ¬ c → B) : if c then A else B := by
  by_cases h : c
  · rw [if_pos h]
    exact h1 h
  · rw [if_neg h]
    exact h2 h

/-! ### heaps -/
/-- all that was tracked is as it was -/
def Same (H H' : Hp) : Prop := ∀ b o, H b = some o → H' b = some o
theorem Same.refl (H : Hp) : Same H H := fun _ _ h => h
theorem Same.trans {H H1 H2 : Hp} (a : Same H H1) (b : Same H1 H2) : Same H H2 := fun c o h => b c o (a c o h)
theorem Same.free {H H' : Hp} (e : Same H H') {l : Addr} (h : H' l = Option.none) : H l = Option.none := by
  cases q : H l with
  | none => rfl
  | some o =>
    rw [e l o q] at h
    cases h
theorem Same.seq {K : PySem.W.Frag} {H H' : Hp} {a : Addr} {xs : List V} (e : Same H H') (h : SqL K H a xs) : SqL K H' a xs := by
  rcases h with (h | ⟨o, h⟩) | h
  · exact .inl (.inl (e _ _ h))
  · exact .inl (.inr ⟨o, e _ _ h⟩)
  · exact .inr h

end L2

namespace L2
open PySem PySem.Spec PyProof.Rows

/-! ### a comprehension: its closure -/
def clOf (cells : List (Str × Addr)) : List (Str × NameKind) → List (Str × Addr) → List (Str × Addr)
  | [], acc => acc
  | (n, k) :: r, acc => clOf cells r (if k == .free then (match cells.lookup n with | some c => (n, c) :: acc | none => acc) else acc)
theorem clo_go {env : Env} : ∀ (ns : List (Str × NameKind)) (acc : List (Str × Addr)), (∀ x ∈ ns, x.2 = .free → ∃ c, env.cells.lookup x.1 = some c) →
    (forIn ns acc fun (x : Str × NameKind) (cs : List (Str × Addr)) => (if x.2 == NameKind.free then do let a ← cellOf env x.1; pure (ForInStep.yield ((x.1, a) :: cs)) else pure (ForInStep.yield cs) : Sem (ForInStep (List (Str × Addr))))) = pure (clOf env.cells ns acc)
  | [], acc, _ => by simp [clOf]
  | (n, k) :: r, acc, h => by
    rw [List.forIn_cons]
    have ih := fun a => clo_go (env := env) r a fun x hx => h x (List.mem_cons_of_mem _ hx)
    unfold clOf
    by_cases hk : (k == NameKind.free) = true
    · obtain ⟨c, hc⟩ := h (n, k) List.mem_cons_self (by simpa using hk)
      have hc' : env.cells.lookup n = some c := hc
      have hce : cellOf env n = pure c := by simp only [cellOf, hc']
      simp only [hk, if_true, hce, pure_bind, hc']
      exact ih _
    · simp only [hk, if_false, pure_bind, ih]
      simp
theorem closure_is {scope : Scope} {env : Env} (h : ∀ x ∈ scope.names, x.2 = .free → ∃ c, env.cells.lookup x.1 = some c) : closureFor scope env = pure (clOf env.cells scope.names []) := by
  have q := clo_go (env := env) scope.names [] h
  unfold closureFor
  rw [← q]
  first
    | rfl
    | simp
theorem clOf_has {cells : List (Str × Addr)} : ∀ (ns : List (Str × NameKind)) (acc : List (Str × Addr)) {x : Str} {c : Addr}, (∀ y d, acc.lookup y = some d → cells.lookup y = some d) → (clOf cells ns acc).lookup x = some c → cells.lookup x = some c
  | [], acc, x, c, ha, h => ha x c h
  | (n, k) :: r, acc, x, c, ha, h => by
    unfold clOf at h
    refine clOf_has r _ (fun y d hy => ?_) h
    split at hy
    · split at hy
      · rename_i c' hc'
        rw [List.lookup_cons] at hy
        split at hy
        · rename_i e
          have e' : y = n := by simpa using e
          subst e'
          rw [hc']; exact hy
        · exact ha y d hy
      · exact ha y d hy
    · exact ha y d hy
theorem clOf_keep {cells : List (Str × Addr)} : ∀ (ns : List (Str × NameKind)) (acc : List (Str × Addr)) {x : Str}, (∃ c, acc.lookup x = some c) → ∃ c, (clOf cells ns acc).lookup x = some c
  | [], acc, x, h => h
  | (n, k) :: r, acc, x, h => by
    unfold clOf
    refine clOf_keep r _ ?_
    split
    · split
      · rw [List.lookup_cons]
        split
        · exact ⟨_, rfl⟩
        · exact h
      · exact h
    · exact h
theorem clOf_get {cells : List (Str × Addr)} : ∀ (ns : List (Str × NameKind)) (acc : List (Str × Addr)) {x : Str}, (x, NameKind.free) ∈ ns → (∃ c, cells.lookup x = some c) → ∃ c, (clOf cells ns acc).lookup x = some c
  | [], acc, x, h, _ => nomatch h
  | (n, k) :: r, acc, x, h, hc => by
    unfold clOf
    rcases List.mem_cons.mp h with e | h
    · cases e
      obtain ⟨c, hc⟩ := hc
      refine clOf_keep r _ ?_
      simp [hc]
    · exact clOf_get r _ h hc
end L2

namespace L2
open PySem PySem.Spec PyProof.Rows

/-- an untracked object of ours is tracked from now on -/
theorem Inv.track {X : Cx} {pins : List (Addr × Obj)} {σ : St} {H : Hp} {s : Shared} {a : Addr} {o : HO} (I : Inv X pins σ H s) (hn : H a = none) (h0 : X.s₀.heap.objs.size ≤ a) (hL : a ≠ X.env.locals)
    (hc : ∀ x c, X.env.cells.lookup x = some c → c ≠ a) (hp : ∀ p ∈ X.pn ++ pins, p.1 ≠ a) (new : ObjOk X.prog X.w (upd H a o) s.heap a o) : Inv X pins σ (upd H a o) s := by
  have ne : ∀ b u, H b = some u → b ≠ a := fun b u e => ne_of_none e hn
  have q := I.step (g' := s.gens) (d' := s.drawn) (t' := s.toks) (h' := s.heap) (H' := upd H a o) (ch := [a]) (fun b hb => ?_) (fun b ob _ _ _ e _ => e) (fun b ob _ _ _ e _ => ⟨ob.slots, e⟩) (fun b ob hb _ n => ?_)
    (fun b ob _ e => ⟨ob, e⟩) (fun b xs e => by rw [upd_ne (ne b _ e)]; exact e) (fun b ob u e => by rw [upd_ne (ne b _ e)]; exact e) (fun b ps e => ⟨#[], by rw [upd_ne (ne b _ e), e]; simp⟩) (fun m hm => hm) (fun b u e => ?_) I.bare
  · exact q
  · have e : b = a := by simpa using hb
    subst e
    exact ⟨.inr h0, hL, hc, hp⟩
  · rw [upd_ne (fun z => hb (by simp [z]))]; exact n
  · by_cases hb : b = a
    · subst hb; rw [upd_same] at e; cases e; exact new
    · rw [upd_ne hb] at e
      exact (I.hok b u e).stay (fun c v _ q => q) (fun c q => by rw [upd_ne (ne_of_none q hn)]; exact q) fun c xs q => by rw [upd_ne (ne_of_none q hn)]; exact q

/-- the context of a comprehension's block -/
def cxComp (X : Cx) (N' : List Str) (scope : Scope) (C : Addr) (s : Shared) (H : Hp) (fp : List Addr) (xe : Value → Shared → Prop) : Cx :=
  { X with N := N', s₀ := s, H₀ := H, env := compEnvC scope (clOf X.env.cells scope.names []) C X.env, outer := X.stack, ex := fp, fn := fun _ => false, xe := xe }

/-- what is asked of the block's names: ix says where a captured name stands outside -/
structure BlkOk (X : Cx) (N' : List Str) (ix : List (Option Nat)) (scope : Scope) : Prop where
  kind : scope.kind = .function
  nocell : ∀ y ∈ scope.names, y.2 ≠ .cell
  locs : ∀ y ∈ scope.names, y.2 = .local → scope.names.lookup y.1 = some .local
  free : ∀ y ∈ scope.names, y.2 = .free → X.env.kindOf y.1 = some .cell ∨ X.env.kindOf y.1 = some .free
  len : ix.length = N'.length
  cap : ∀ (i j : Nat), ix[i]? = some (some j) → ∃ x, N'[i]? = some x ∧ X.N[j]? = some x ∧ scope.names.lookup x = some .free
def capt (ix : List (Option Nat)) (σ : St) : St := ix.map fun o => o.bind fun j => (σ[j]?).join

theorem relabel_free {env : Env} {x : Str} : ∀ {names : List (Str × NameKind)}, names.lookup x = some .free → (names.map fun (n, k) => if (k == NameKind.free && env.scope.kind == .function && env.kindOf n == some .cell) then (n, NameKind.cell) else (n, k)).lookup x = some .cell ∨ (names.map fun (n, k) => if (k == NameKind.free && env.scope.kind == .function && env.kindOf n == some .cell) then (n, NameKind.cell) else (n, k)).lookup x = some .free
  | [], h => by simp at h
  | (n, k) :: r, h => by
    have ih := @relabel_free env x r
    simp only [List.map_cons]
    cases hx : x == n with
    | true =>
      simp only [List.lookup_cons, hx] at h
      cases h
      by_cases hc : (NameKind.free == NameKind.free && env.scope.kind == .function && env.kindOf n == some .cell) = true
      · rw [if_pos hc]; left; simp [List.lookup_cons, hx]
      · rw [if_neg hc]; right; simp [List.lookup_cons, hx]
    | false =>
      simp only [List.lookup_cons, hx] at h
      by_cases hc : (k == NameKind.free && env.scope.kind == .function && env.kindOf n == some .cell) = true
      · rw [if_pos hc]; simp only [List.lookup_cons, hx]; exact ih h
      · rw [if_neg hc]; simp only [List.lookup_cons, hx]; exact ih h
theorem relabel_back {env : Env} {x : Str} : ∀ {names : List (Str × NameKind)}, (∀ y ∈ names, y.2 ≠ .cell) → ((names.map fun (n, k) => if (k == NameKind.free && env.scope.kind == .function && env.kindOf n == some .cell) then (n, NameKind.cell) else (n, k)).lookup x = some .cell ∨ (names.map fun (n, k) => if (k == NameKind.free && env.scope.kind == .function && env.kindOf n == some .cell) then (n, NameKind.cell) else (n, k)).lookup x = some .free) → (x, NameKind.free) ∈ names
  | [], _, h => by simp at h
  | (n, k) :: r, hn, h => by
    have ih := @relabel_back env x r fun y hy => hn y (List.mem_cons_of_mem _ hy)
    simp only [List.map_cons] at h
    cases hx : x == n with
    | true =>
      have e : x = n := by simpa using hx
      subst e
      have hk := hn (x, k) List.mem_cons_self
      by_cases hc : (k == NameKind.free && env.scope.kind == .function && env.kindOf x == some .cell) = true
      · have hf : k = .free := by
          simp only [Bool.and_eq_true, beq_iff_eq] at hc
          exact hc.1.1
        subst hf
        exact List.mem_cons_self
      · rw [if_neg hc] at h
        simp only [List.lookup_cons, hx] at h
        rcases h with h | h
        · exact absurd (Option.some.inj h) hk
        · have hf : k = .free := Option.some.inj h
          subst hf
          exact List.mem_cons_self
    | false =>
      refine List.mem_cons_of_mem _ (ih ?_)
      by_cases hc : (k == NameKind.free && env.scope.kind == .function && env.kindOf n == some .cell) = true
      · rw [if_pos hc] at h; simpa only [List.lookup_cons, hx] using h
      · rw [if_neg hc] at h; simpa only [List.lookup_cons, hx] using h

theorem capt_cell {X : Cx} {pins : List (Addr × Obj)} {σ : St} {H : Hp} {s : Shared} {N' : List Str} {ix : List (Option Nat)} {scope : Scope} {i : Nat} {x : Str} {v : V} (B : BlkOk X N' ix scope) (I : Inv X pins σ H s)
    (h1 : N'[i]? = some x) (h2 : (capt ix σ)[i]? = some (some v)) : ∃ u c, RelV v u ∧ (clOf X.env.cells scope.names []).lookup x = some c ∧ X.env.cells.lookup x = some c ∧ s.heap.IsCell c (some u) ∧
      ((relabel scope X.env).names.lookup x = some .cell ∨ (relabel scope X.env).names.lookup x = some .free) := by
  have clB : ∀ x c, (clOf X.env.cells scope.names []).lookup x = some c → X.env.cells.lookup x = some c := fun x c h => clOf_has scope.names [] (fun _ _ z => by simp at z) h
  obtain ⟨j, hj, hv⟩ : ∃ j, ix[i]? = some (some j) ∧ σ[j]? = some (some v) := by
    unfold capt at h2
    rw [List.getElem?_map] at h2
    cases e : ix[i]? with
    | none => rw [e] at h2; cases h2
    | some o =>
      rw [e] at h2
      cases o with
      | none => cases h2
      | some j =>
        refine ⟨j, rfl, ?_⟩
        have h2' : (σ[j]?).join = some v := Option.some.inj h2
        cases e2 : σ[j]? with
        | none => rw [e2] at h2'; cases h2'
        | some o2 => rw [e2] at h2'; have : o2 = some v := h2'; rw [this]
  obtain ⟨x', hx1, hx2, hx3⟩ := B.cap i j hj
  have exx : x' = x := by
    have h1' : N'[i]? = some x := h1
    rw [hx1] at h1'; exact Option.some.inj h1'
  subst exx
  have hmem := PySem.mem_of_lookup hx3
  have hout := B.free _ hmem rfl
  obtain ⟨m0, _, hl⟩ := I.loc
  obtain ⟨u, r, l⟩ := hl j x' v hx2 hv (by
    rcases hout with e | e
    · exact .inr (.inl e)
    · exact .inr (.inr e))
  rcases l with ⟨k, _⟩ | ⟨k, c, e, z⟩
  · rcases hout with e | e
    · rw [e] at k; cases k
    · rw [e] at k; cases k
  · obtain ⟨c', hc'⟩ := clOf_get scope.names [] hmem (I.ok.has x' hout)
    have := clB x' c' hc'
    rw [e] at this; cases this
    exact ⟨u, c, r, hc', e, z, relabel_free hx3⟩

theorem inv_block {X : Cx} {pins : List (Addr × Obj)} {σ : St} {H : Hp} {s s4 : Shared} {N' : List Str} {ix : List (Option Nat)} {scope : Scope} {C : Addr} {fp : List Addr} {xe : Value → Shared → Prop} {m : Str → Option Value}
    (B : BlkOk X N' ix scope) (I : Inv X pins σ H s) (hf : ∀ b ∈ fp, FpOk X pins H b) (hC : s.heap.objs.size ≤ C) (hfs : ∀ b ∈ fp, b < s.heap.objs.size)
    (ho : s4.os = s.os) (hg : s4.gens = s.gens) (hk : ∀ b o, s.heap.get? b = some o → s4.heap.get? b = some o) (hns : s4.heap.Ns C m) :
    Inv (cxComp X N' scope C s H fp xe) pins (capt ix σ) H s4 := by
  have clB : ∀ x c, (clOf X.env.cells scope.names []).lookup x = some c → X.env.cells.lookup x = some c := fun x c h => clOf_has scope.names [] (fun _ _ z => by simp at z) h
  have hfree : H C = none := I.hok.fresh hC
  have neC : ∀ b o, s.heap.get? b = some o → b ≠ C := fun b o e => Nat.ne_of_lt (Nat.lt_of_lt_of_le (Heap.lt_size e) hC)
  refine ⟨⟨I.ok.mod, B.kind, I.ok.glob, I.ok.blt, hC, fun x y c h1 h2 => I.ok.inj x y c (clB x c h1) (clB y c h2), fun x hx => ?_, fun x c h => absurd (show false = true from h) Bool.false_ne_true, I.ok.hd, I.ok.frames, .inl rfl, fun b hb => ⟨?_, fun x c e => ?_⟩, I.bs, ?_, fun b o e hb => ?_, fun b hb z => ?_, I.stack, I.stkFree⟩,
    ho, ?_, Un.kept hk, ⟨m, hns, fun i x v h1 h2 h3 => ?_⟩, fun x c e => ?_, hfree, fun x c e => I.freeC x c (clB x c e), fun p hp => ?_, I.hok.kept hk, ?_⟩
  · have hx' := relabel_back (env := X.env) (x := x) B.nocell hx
    exact clOf_get scope.names [] hx' (I.ok.has x (B.free _ hx' rfl))
  · exact Nat.ne_of_lt (Nat.lt_of_lt_of_le (hfs b hb) hC)
  · exact (hf b hb).2.2.2.2.1 x c (clB x c e)
  · exact Nat.le_trans I.ok.bsz I.sz
  · obtain ⟨_, _, _, q, _⟩ := hf b hb
    rcases q with q | q
    · exact I.ok.noex b o e q
    · exact absurd (Nat.lt_of_lt_of_le (Heap.lt_size (I.ok.bs b o e).1) q) (Nat.lt_irrefl _)
  · obtain ⟨_, q1, q2, _⟩ := hf b hb
    rcases List.mem_cons.mp (I.stkSub b z) with e | e
    · exact q1 e
    · exact q2 e
  · rw [hg]; exact I.bare
  · obtain ⟨u, c, r, hc1, _, ⟨oc, z1, z2⟩, hk'⟩ := capt_cell B I h1 h2
    exact ⟨u, r, .inr ⟨hk', c, hc1, oc, hk _ _ z1, z2⟩⟩
  · obtain ⟨v, oc, h1, h2⟩ := I.cell x c (clB x c e)
    exact ⟨v, oc, hk _ _ h1, h2⟩
  · obtain ⟨e, n, ne, nf, d⟩ := I.pin p hp
    refine ⟨hk _ _ e, n, neC _ _ e, fun z => ?_, d⟩
    rcases List.mem_cons.mp (I.stkSub p.1 z) with e' | e'
    · exact ne e'
    · exact nf e'
  · show (ix.map _).length = N'.length
    rw [List.length_map]; exact B.len
end L2

namespace L2
open PySem PySem.Spec PyProof.Rows

theorem compLoop_go {prog : Program} {w : World} {A : Around} {R : Result → Shared → Prop} {s : Shared} {elt target iter : Expr} {ifs : List Expr} {scope : Scope} {pos : Pos} {it acc : Value} {env : Env} (Iv : Nat → Shared → Prop)
    (turn : ∀ n s, Iv n s → wpAny (model prog w) A (pyNext it) (fun r s₁ => match r with
      | none => R (.ok .next) s₁
      | some v => wpAny (model prog w) A (letOwnedTupleGo target it v) (fun _ s₁' => wpAny (model prog w) A (assign target env v) (fun _ s₂ =>
          wpAny (model prog w) A (forIn ifs true fun c r => if r = true then do let ok ← isTrue c env (eval c env); pure (ForInStep.yield ok) else pure (ForInStep.yield r)) (fun ok s₃ =>
            if ok = true then wpAny (model prog w) A (eval elt env) (fun x s₄ =>
              wpAny (model prog w) A (call (.builtin "list.append") [acc, x]) (fun _ s₅ => ∃ m, m < n ∧ Iv m s₅) (notedBy (model prog w) A env fun e s' => R (.error e) s') s₄) (notedBy (model prog w) A env fun e s' => R (.error e) s') s₃
            else ∃ m, m < n ∧ Iv m s₃) (notedBy (model prog w) A env fun e s' => R (.error e) s') s₂) (notedBy (model prog w) A env fun e s' => R (.error e) s') s₁') (notedBy (model prog w) A env fun e s' => R (.error e) s') s₁) (notedBy (model prog w) A env fun e s' => R (.error e) s') s)
    (n : Nat) (h : Iv n s) :
    codeAny (model prog w) A (.compLoop (.ListComp elt [⟨target, iter, ifs, 0⟩] scope pos) 0 it acc env) R s := by
  refine codeAny_loop rfl Iv (fun n s hI => ?_) n h
  show wpAny _ A ((compTurn (.ListComp elt [⟨target, iter, ifs, 0⟩] scope pos) 0 it acc env).onRaise (fun x => do noteFrame x env; theTreesLotGoes x)) _ _ s
  refine wpAny_noted ?_
  rw [compTurn_list]
  refine wpAny_bind (wpAny_standAt (wpAny_bind (wpAny_mono (turn n s hI) (fun r s₁ h₁ => ?_) fun _ _ h' => h')))
  cases r with
  | none => exact wpAny_pure h₁
  | some v =>
    refine wpAny_bind (wpAny_mono h₁ (fun _ s₁' h₁' => ?_) fun _ _ h' => h')
    refine wpAny_bind (wpAny_mono h₁' (fun _ s₂ h₂ => wpAny_bind (wpAny_mono h₂ (fun ok s₃ h₃ => ?_) fun _ _ h' => h')) fun _ _ h' => h')
    cases ok with
    | false => exact wpAny_pure ⟨rfl, h₃⟩
    | true =>
      exact wpAny_bind (wpAny_bind (wpAny_mono h₃ (fun x s₄ h₄ => wpAny_bind (wpAny_mono h₄ (fun _ s₅ h₅ => wpAny_pure (wpAny_pure ⟨rfl, h₅⟩)) fun _ _ h' => h')) fun _ _ h' => h'))

/-- the tests of a comprehension's clause -/
def PTs (X : Cx) (ifs : List Expr) (t : TT) : Prop :=
  ∀ (pins : List (Addr × Obj)) (s : Shared) (σ : St) (H : Hp) (Q : Bool → Hp → Prop), Inv X pins σ H s → t σ H Q →
    wpAny (model X.prog X.w) X.A (forIn ifs true fun c r => if r = true then do let ok ← isTrue c X.env (eval c X.env); pure (ForInStep.yield ok) else pure (ForInStep.yield r)) (TP X pins σ Q) X.xe s
def tTrue : TT := fun _ H Q => Q true H
theorem pts_nil {X : Cx} : PTs X [] tTrue := fun _ _ _ H _ I h => wpAny_tests_nil ⟨H, I, h⟩
theorem pts_one {X : Cx} {c : Expr} {t : TT} (h : PT X c t) : PTs X [c] t := fun pins s σ H Q I hw => wpAny_tests_one (h pins s σ H Q I hw)

/-- the turns of a comprehension's block -/
def LcGoal (ix : List (Option Nat)) (g : TG) (tt : TT) (te : TE) (σ : St) (H1 : Hp) (Q : VK) (J : It) : Prop := ∃ W : Nat → Nat → List V → Hp → Prop, (∃ m, W 0 m [] H1) ∧ ∀ i m ys H, W i m ys H →
  (J.stop i H ∧ ys.length ≤ sizeLine ∧ ∀ p, H p = none → Q (.ref p) (upd H p (.lst ys))) ∨
  (J.go i H ∧ ys.length ≤ sizeLine ∧ ∃ N : List V → Hp → Prop, (∀ ys' H', N ys' H' → ∃ m', m' < m ∧ W (i + 1) m' ys' H') ∧ ∀ x H', J.yld i H x H' → g x (capt ix σ) H' fun σ2 H2 => tt σ2 H2 fun b H3 => if b = true then te σ2 H3 fun v H4 => N (ys ++ [v]) H4 else N ys H3)
def tLC (ix : List (Option Nat)) (wi : TI) (g : TG) (tt : TT) (te : TE) : TE := fun σ H Q => wi σ H fun J H1 => LcGoal ix g tt te σ H1 Q J

section
variable {X : Cx} {elt tg iter : Expr} {ifs : List Expr} {scope : Scope} {pos : Pos} {N' : List Str} {ix : List (Option Nat)} {wi : TI} {g : TG} {tt : TT} {te : TE}

/-- the loop's end, by what is wanted -/
theorem lc_run (B : BlkOk X N' ix scope) (hc : X.calm = true)
    (hg : ∀ C s H fp xe, PG (cxComp X N' scope C s H fp xe) tg g) (ht : ∀ C s H fp xe, PTs (cxComp X N' scope C s H fp xe) ifs tt) (he : ∀ C s H fp xe, PE (cxComp X N' scope C s H fp xe) elt te)
    {pins : List (Addr × Obj)} {s2 : Shared} {σ : St} {H2 : Hp} {Q : VK} {it : Addr} {fp : List Addr} {tn : Nat → Heap → Prop} {J : It} {RR : Value → Addr → Result → Shared → Prop} {E : Value → Shared → Prop}
    (I2 : Inv X pins σ H2 s2) (T : Turn X.prog X.w X.K tg J fp it tn) (st2 : tn 0 s2.heap) (f2 : ∀ b ∈ fp, FpOk X pins H2 b)
    (q : ∃ W : Nat → Nat → List V → Hp → Prop, (∃ m, W 0 m [] H2) ∧ ∀ i m ys H, W i m ys H →
      (J.stop i H ∧ ys.length ≤ sizeLine ∧ ∀ p, H p = none → Q (.ref p) (upd H p (.lst ys))) ∨
      (J.go i H ∧ ys.length ≤ sizeLine ∧ ∃ N : List V → Hp → Prop, (∀ ys' H', N ys' H' → ∃ m', m' < m ∧ W (i + 1) m' ys' H') ∧ ∀ x H', J.yld i H x H' → g x (capt ix σ) H' fun σ2 H2 => tt σ2 H2 fun b H3 => if b = true then te σ2 H3 fun v H4 => N (ys ++ [v]) H4 else N ys H3))
    (hRR : ∀ D C s' H' ys, Inv X pins σ (upd H' D (.lst ys)) s' → H' D = none → Q (.ref D) (upd H' D (.lst ys)) → (∃ m, s'.heap.Ns C m) → upd H' D (.lst ys) C = none → C ≠ X.env.locals → X.s₀.heap.objs.size ≤ C → (∀ x c, X.env.cells.lookup x = some c → c ≠ C) → (∀ p ∈ X.pn ++ pins, p.1 ≠ C) → RR (.ref D) C (.ok .next) s') :
    wpAny (model X.prog X.w) X.A (newList []) (fun acc s₃ => wpAny (model X.prog X.w) X.A (newFunctionEnv scope X.env.globals (clOf X.env.cells scope.names []) [] X.env.qual none .none (some X.env)) (fun cenv s₄ =>
      codeAny (model X.prog X.w) X.A (.compStart (.ListComp elt [⟨tg, iter, ifs, 0⟩] scope pos) 0 (.ref it) acc { cenv with scope := relabel scope X.env }) (RR acc cenv.locals) s₄) E s₃) E s2 := by
  have hfs : ∀ b ∈ fp, b < s2.heap.objs.size := fun b hb => by
    obtain ⟨o, e, _⟩ := T.obj _ _ st2 b hb
    exact Heap.lt_size e
  refine wpAny_newObj_type (wpAny_newFunctionEnv B.nocell (by intro y hy; simp at hy) (fun h₁ hns₁ hsb₁ => ?_) B.kind)
  dsimp only at hns₁ hsb₁ ⊢
  generalize hH3 : s2.heap.push { cls := .type "list", dict := none, data := .seq ([] : List Value).toArray } = H3 at hns₁ hsb₁ ⊢
  have hC : H3.objs.size = s2.heap.objs.size + 1 := by rw [← hH3, Heap.size_push]
  have hDC : s2.heap.objs.size ≠ H3.objs.size := by rw [hC]; exact Nat.ne_of_lt (Nat.lt_succ_self _)
  have below : ∀ b, b < s2.heap.objs.size → b ≠ H3.objs.size ∧ b ≠ s2.heap.objs.size := fun b hb => ⟨by rw [hC]; exact Nat.ne_of_lt (Nat.lt_succ_of_lt hb), Nat.ne_of_lt hb⟩
  have old : ∀ b o, s2.heap.get? b = some o → h₁.get? b = some o := fun b o e => hsb₁.extBut b o (below b (Heap.lt_size e)).1 (Heap.get?_push_of_some _ (hH3 ▸ Heap.get?_push_of_some _ e))
  have hacc : h₁.get? s2.heap.objs.size = some { cls := .type "list", data := .seq ([] : List Value).toArray 0 } := hsb₁.extBut _ _ hDC (Heap.get?_push_of_some _ (hH3 ▸ Heap.get?_push_size _ rfl))
  have hCle : s2.heap.objs.size ≤ H3.objs.size := by rw [hC]; exact Nat.le_succ _
  generalize hD : s2.heap.objs.size = D at *
  generalize hCC : H3.objs.size = C at *
  obtain ⟨W, ⟨m0, w0⟩, turn⟩ := q
  let xe : Value → Shared → Prop := notedBy (model X.prog X.w) X.A (compEnvC scope (clOf X.env.cells scope.names []) C X.env) fun e s' => RR (.ref D) C (.error e) s'
  let X' : Cx := cxComp X N' scope C s2 H2 fp xe
  have DL : D ∉ frs X.stack := fun z => by
    rcases List.mem_cons.mp (I2.stkSub D z) with e | e
    · exact absurd I2.lt (by rw [← e, hD]; exact Nat.lt_irrefl _)
    · exact I2.nofs (by rw [hD]; exact Nat.le_refl _) e
  have cellLt : ∀ x c, X.env.cells.lookup x = some c → c < D := fun x c e => by
    obtain ⟨v, oc, h, _⟩ := I2.cell x c e
    rw [← hD]; exact Heap.lt_size h
  have clB : ∀ x c, (clOf X.env.cells scope.names []).lookup x = some c → X.env.cells.lookup x = some c := fun x c h => clOf_has scope.names [] (fun _ _ z => by simp at z) h
  have pinLt : ∀ p ∈ X.pn ++ pins, p.1 < D := fun p hp => by rw [← hD]; exact Heap.lt_size (I2.pin p hp).1
  have fpX : ∀ {pl : List (Addr × Obj)} {H' : Hp}, (∀ b ∈ fp, H' b = none) → (∀ p ∈ pl, p ∈ pins ∨ p.1 = D) → ∀ b ∈ fp, FpOk X' pl H' b := fun {pl H'} hn hpl b hb => by
    obtain ⟨_, q1, q2, q3, q4, q5⟩ := f2 b hb
    refine ⟨hn b hb, (below b (hfs b hb)).1, fun z => ?_, .inl hb, fun x c e => q4 x c (clB x c e), fun p hp => ?_⟩
    · rcases List.mem_cons.mp (I2.stkSub b z) with e | e
      · exact q1 e
      · exact q2 e
    · rcases List.mem_append.mp hp with hp | hp
      · exact q5 p (List.mem_append_left _ hp)
      · rcases hpl p hp with z | z
        · exact q5 p (List.mem_append_right _ z)
        · rw [z]; exact Ne.symm (below b (hfs b hb)).2
  have loop : ∀ s₃ : Shared, s₃ = { s2 with heap := h₁, toks := s2.toks + ([] : List (Str × Value)).length } →
      codeAny (model X.prog X.w) X.A (.compLoop (.ListComp elt [⟨tg, iter, ifs, 0⟩] scope pos) 0 (.ref it) (.ref D) (compEnvC scope (clOf X.env.cells scope.names []) C X.env)) (RR (.ref D) C) s₃ := by
    rintro s₃ rfl
    refine compLoop_go (fun n s' => ∃ i H' ys its k, Inv X' pins (capt ix σ) H' s' ∧ tn i s'.heap ∧ (∀ b ∈ fp, H' b = none) ∧ H' D = none ∧ s'.heap.get? D = some { cls := .type "list", data := .seq (List.toArray its) k } ∧ Vals ys its ∧ W i n ys H') ?_ m0
      ⟨0, H2, [], [], 0, inv_block B I2 f2 (by rw [hD]; exact hCle) (fun b hb => by rw [hD]; exact hfs b hb) rfl rfl old hns₁, T.keep _ _ _ st2 fun b _ o e => old b o e, fun b hb => (f2 b hb).1, I2.hok.fresh (by rw [hD]; exact Nat.le_refl _), hacc, .nil, w0⟩
    rintro n s' ⟨i, H', ys, its, k, I', st', fr', hDn, hDo, rv, w'⟩
    have hDX : ∀ v, ({ cls := .type "list", data := .seq (List.toArray its) k } : Obj).data ≠ .cell v := fun v z => by
      have z' : Data.seq (List.toArray its) k = Data.cell v := z
      cases z'
    have pinD : ∀ {σ' : St} {H'' : Hp} {s'' : Shared} {its' : List Value} {k' : Nat}, Inv X' pins σ' H'' s'' → H'' D = none → s''.heap.get? D = some { cls := .type "list", data := .seq (List.toArray its') k' } → Inv X' (pins ++ [(D, { cls := .type "list", data := .seq (List.toArray its') k' })]) σ' H'' s'' := fun {σ' H'' s'' its' k'} J hn ho =>
      J.pins_of fun p hp => (List.mem_append.mp hp).elim (fun z => J.pin p (List.mem_append_right _ z)) fun z => by
        have e : p = (D, { cls := .type "list", data := .seq (List.toArray its') k' }) := by simpa using z
        subst e
        exact ⟨ho, hn, hDC, DL, fun v z => by
          have z' : Data.seq (List.toArray its') k' = Data.cell v := z
          cases z'⟩
    have plD : ∀ {its' : List Value} {k' : Nat}, ∀ p ∈ pins ++ [(D, ({ cls := .type "list", data := .seq (List.toArray its') k' } : Obj))], p ∈ pins ∨ p.1 = D := fun {its' k'} p hp => (List.mem_append.mp hp).elim .inl fun z => by
      have e : p = (D, { cls := .type "list", data := .seq (List.toArray its') k' }) := by simpa using z
      subst e
      exact .inr rfl
    have unD : ∀ {pl : List (Addr × Obj)} {σ' : St} {H'' : Hp} {s'' : Shared}, Inv X' (pins ++ pl) σ' H'' s'' → Inv X' pins σ' H'' s'' := fun J => J.pins_of fun p hp => J.pin p (List.mem_append_right _ (List.mem_append_left _ hp))
    have I'p := pinD I' hDn hDo
    rcases turn i n ys H' w' with ⟨stop, hsz, fin⟩ | ⟨go, hsz, N, hN, step⟩
    · refine wpAny_mono (T.done X' rfl rfl rfl hc i _ s' (capt ix σ) H' X'.xe I'p (fpX fr' plD) st' stop) (fun r s5 ⟨hr, I5⟩ => ?_) fun _ _ z => z
      subst hr
      have hDo5 : s5.heap.get? D = some { cls := .type "list", data := .seq (List.toArray its) k } := (I5.pin (D, _) (List.mem_append_right _ (List.mem_append_right _ (List.mem_singleton.mpr rfl)))).1
      have sz0 : X.s₀.heap.objs.size ≤ D := by rw [← hD]; exact I2.sz
      have J : Inv X pins σ H' s5 := I2.call' (ch := fp) I5.os I5.base I5.hok I5.bare fun b hb => by
        obtain ⟨_, q1, _, q3, q4, q5⟩ := f2 b hb
        exact ⟨q3, q1, q4, q5⟩
      have nL : X.env.locals < D := by rw [← hD]; exact I2.lt
      have J2 : Inv X pins σ (upd H' D (.lst ys)) s5 := Inv.track J hDn sz0 (Nat.ne_of_gt nL) (fun x c e => Nat.ne_of_lt (cellLt x c e)) (fun p hp => Nat.ne_of_lt (pinLt p hp)) ⟨hsz, its, k, rv, hDo5⟩
      obtain ⟨mC, hnC, _⟩ := I5.loc
      have DltC : D < C := Nat.lt_of_le_of_ne hCle hDC
      refine hRR D C s5 H' ys J2 hDn (fin D hDn) ⟨mC, hnC⟩ ?_ (Nat.ne_of_gt (Nat.lt_trans nL DltC)) (Nat.le_trans sz0 hCle) (fun x c e => Nat.ne_of_lt (Nat.lt_trans (cellLt x c e) DltC)) fun p hp => Nat.ne_of_lt (Nat.lt_trans (pinLt p hp) DltC)
      rw [upd_ne (Ne.symm hDC)]
      exact I5.free
    · refine wpAny_mono (T.item X' rfl rfl rfl hc i _ s' (capt ix σ) H' X'.xe I'p (fpX fr' plD) st' go) (fun r s5 ⟨u, hr, h5⟩ => ?_) fun _ _ z => z
      subst hr
      refine wpAny_mono h5 (fun _ s6 ⟨x, H6, I6, r6, y6, st6, fr6⟩ => ?_) fun _ _ z => z
      have I6' := I6.pinned (fpX fr6 plD) (T.obj _ _ st6)
      refine wpAny_mono (hg C s2 H2 fp xe _ s6 (capt ix σ) H6 x u _ I6' r6 (step x H6 y6)) (fun _ s7 ⟨σ7, H7, I7, q7⟩ => ?_) fun _ _ z => z
      have after : ∀ {σ8 : St} {H8 : Hp} {s8 : Shared}, Inv X' ((pins ++ [(D, { cls := .type "list", data := .seq (List.toArray its) k })]) ++ pinsAt fp s6.heap) σ8 H8 s8 →
          Inv X' pins (capt ix σ) H8 s8 ∧ tn (i + 1) s8.heap ∧ (∀ b ∈ fp, H8 b = none) ∧ H8 D = none ∧ s8.heap.get? D = some { cls := .type "list", data := .seq (List.toArray its) k } := fun {σ8 H8 s8} I8 => by
        have pD := I8.pin (D, { cls := .type "list", data := .seq (List.toArray its) k }) (List.mem_append_right _ (List.mem_append_left _ (List.mem_append_right _ (List.mem_singleton.mpr rfl))))
        have fpP : ∀ b ∈ fp, ∀ o, s6.heap.get? b = some o → s8.heap.get? b = some o ∧ H8 b = none := fun b hb o e => by
          have z := I8.pin (b, o) (List.mem_append_right _ (List.mem_append_right _ (mem_pinsAt hb e)))
          exact ⟨z.1, z.2.1⟩
        refine ⟨⟨I8.ok, I8.os, I8.bare, I8.base, ?_, I8.cell, I8.free, I8.freeC, fun p hp => ?_, I8.hok, ?_⟩, T.keep _ _ _ st6 fun b hb o e => (fpP b hb o e).1, fun b hb => ?_, pD.2.1, pD.1⟩
        · obtain ⟨m8, hn8, _⟩ := I8.loc
          refine ⟨m8, hn8, fun i x v h1 h2 h3 => ?_⟩
          obtain ⟨u, c, r, hc1, hc2, ⟨oc, z1, z2⟩, hk'⟩ := capt_cell B I2 h1 h2
          obtain ⟨sl, e8⟩ := I8.base.any z1 (I2.freeC x c hc2) fun z => (f2 c z).2.2.2.2.1 x c hc2 rfl
          exact ⟨u, r, .inr ⟨hk', c, hc1, _, e8, z2⟩⟩
        · rcases List.mem_append.mp hp with hp | hp
          · exact I8.pin p (List.mem_append_left _ hp)
          · exact I8.pin p (List.mem_append_right _ (List.mem_append_left _ (List.mem_append_left _ hp)))
        · show (capt ix σ).length = N'.length
          unfold capt
          rw [List.length_map]; exact B.len
        · obtain ⟨o, e, _⟩ := T.obj _ _ st6 b hb
          exact (fpP b hb o e).2
      refine wpAny_mono (ht C s2 H2 fp xe _ s7 σ7 H7 _ I7 q7) (fun b s8 ⟨H8, I8, q8⟩ => ?_) fun _ _ z => z
      cases b with
      | false =>
        rw [if_neg Bool.false_ne_true] at q8 ⊢
        obtain ⟨m', hm, w8⟩ := hN _ _ q8
        obtain ⟨J, tn8, f8, d8, o8⟩ := after I8
        exact ⟨m', hm, i + 1, H8, ys, its, k, J, tn8, f8, d8, o8, rv, w8⟩
      | true =>
        rw [if_pos rfl] at q8 ⊢
        refine wpAny_mono (he C s2 H2 fp xe _ s8 σ7 H8 _ I8 q8) (fun v s9 ⟨y, H9, I9, r9, q9⟩ => ?_) fun _ _ z => z
        obtain ⟨J, tn9, f9, d9, o9⟩ := after I9
        obtain ⟨m', hm, w9⟩ := hN _ _ q9
        refine append_at (hsz := by rw [List.size_toArray, ← rv.length]; exact hsz) o9 fun h10 hs10 hD10 => ?_
        refine ⟨m', hm, i + 1, H9, ys ++ [y], its ++ [v], k + 1, ?_, T.keep _ _ _ tn9 fun b hb o e => hs10.extBut b o (fun z => ?_) e, f9, d9, by rw [List.push_toArray] at hD10; exact hD10, rv.append (.cons r9 .nil), w9⟩
        · refine J.turned (t' := s9.toks) (it := D) (fun b o hb e => hs10.extBut b o hb e) d9 hDC (.inr (by show s2.heap.objs.size ≤ D; rw [hD]; exact Nat.le_refl _)) (fun x c e => Nat.ne_of_lt (cellLt x c (clB x c e))) fun p hp => Nat.ne_of_lt (pinLt p hp)
        · exact (below b (hfs b hb)).2 z
  exact codeAny_compStart_list (loop _ rfl) (T.self X.A 0 _ _ _ (T.keep _ _ _ st2 fun b _ o e => old b o e) (loop _ rfl))
end
end L2

namespace L2
open PySem PySem.Spec PyProof.Rows

/-- the block's names, checked -/
def blkCheck (outer : Scope) (N N' : List Str) (ix : List (Option Nat)) (scope : Scope) : Bool :=
  (scope.kind == .function) && (scope.names.all fun y => y.2 != .cell) && (scope.names.all fun y => y.2 != .local || scope.names.lookup y.1 == some .local) &&
  (scope.names.all fun y => y.2 != .free || outer.names.lookup y.1 == some .cell || outer.names.lookup y.1 == some .free) && (ix.length == N'.length) &&
  (List.range ix.length).all fun i => match ix[i]? with
    | some (some j) => (match N'[i]? with | some x => N[j]? == some x && scope.names.lookup x == some .free | none => false)
    | _ => true
theorem blk_of {X : Cx} {N' : List Str} {ix : List (Option Nat)} {scope : Scope} (h : blkCheck X.env.scope X.N N' ix scope = true) : BlkOk X N' ix scope := by
  unfold blkCheck at h
  simp only [Bool.and_eq_true] at h
  obtain ⟨⟨⟨⟨⟨h1, h2⟩, h3⟩, h4⟩, h5⟩, h6⟩ := h
  refine ⟨?_, fun y hy => ?_, fun y hy hl => ?_, fun y hy hl => ?_, by simpa using h5, fun i j e => ?_⟩
  · simpa using h1
  · have := List.all_eq_true.mp h2 y hy
    simpa using this
  · have := List.all_eq_true.mp h3 y hy
    rw [hl] at this
    simpa using this
  · have := List.all_eq_true.mp h4 y hy
    rw [hl] at this
    simp at this
    exact this
  · have hi : i < ix.length := (List.getElem?_eq_some_iff.mp e).1
    have := List.all_eq_true.mp h6 i (List.mem_range.mpr hi)
    rw [e] at this
    simp only at this
    cases q : N'[i]? with
    | none => rw [q] at this; simp at this
    | some x =>
      rw [q] at this
      simp at this
      exact ⟨x, rfl, this.1, this.2⟩

section
variable {X : Cx} {elt tg iter : Expr} {ifs : List Expr} {scope : Scope} {pos : Pos} {N' : List Str} {ix : List (Option Nat)} {wi : TI} {g : TG} {tt : TT} {te : TE}
theorem pe_lc (N' : List Str) (ix : List (Option Nat)) (hB : blkCheck X.env.scope X.N N' ix scope = true) (hc : X.calm = true) (hi : PI X tg iter wi)
    (hg : ∀ C s H fp xe, PG (cxComp X N' scope C s H fp xe) tg g) (ht : ∀ C s H fp xe, PTs (cxComp X N' scope C s H fp xe) ifs tt) (he : ∀ C s H fp xe, PE (cxComp X N' scope C s H fp xe) elt te)
    (hs : ∀ x, foldedSetIterable iter X.env x = pure x := by intro _; rfl) : PE X (.ListComp elt [⟨tg, iter, ifs, 0⟩] scope pos) (tLC ix wi g tt te) := by
  intro pins s σ H Q I h
  have B := blk_of hB
  rw [eval_ListComp]
  refine wpAny_comprehension_free (use := none) rfl hs (closure_is fun y hy hf => I.ok.has y.1 (B.free y hy hf)) B.kind B.locs (thn (hi pins s σ H _ I h) fun v s1 h1 => thn h1 fun itv s2 h2 => ?_)
  obtain ⟨it, fp, tn, J, H2, e, I2, T, st2, f2, q⟩ := h2
  subst e
  refine lc_run B hc hg ht he I2 T st2 f2 q ?_
  intro D C s' H' ys J2 hDn hq ⟨m, hn⟩ hC1 hC2 hC3 hC4 hC5
  refine ⟨m, hn, fun h' hs' => ?_⟩
  exact ⟨.ref D, _, J2.turned (t' := s'.toks) (it := C) (fun b o hb e => hs'.extBut b o hb e) hC1 hC2 (.inr hC3) hC4 hC5, rfl, hq⟩
/-- name = [..]: the stores are exchanged -/
theorem ps_setLC {i : Nat} {x : Str} {pos' spos : Pos} (N' : List Str) (ix : List (Option Nat)) (hN : X.N.Nodup) (hi' : X.N[i]? = some x) (hx : X.env.scope.names.lookup x = some .local)
    (hB : blkCheck X.env.scope X.N N' ix scope = true) (hc : X.calm = true) (hi : PI X tg iter wi)
    (hg : ∀ C s H fp xe, PG (cxComp X N' scope C s H fp xe) tg g) (ht : ∀ C s H fp xe, PTs (cxComp X N' scope C s H fp xe) ifs tt) (he : ∀ C s H fp xe, PE (cxComp X N' scope C s H fp xe) elt te)
    (hsw : swapsWith (.ListComp elt [⟨tg, iter, ifs, 0⟩] scope pos) (some (.Name x pos')) spos.line X.env = pure true)
    (hs : ∀ x, foldedSetIterable iter X.env x = pure x := by intro _; rfl) : PS X (.Assign [.Name x pos'] (.ListComp elt [⟨tg, iter, ifs, 0⟩] scope pos) spos) (tAsg (tLC ix wi g tt te) (gName i)) := by
  intro pins s σ H D0 I h
  have B := blk_of hB
  rw [exec_Assign_Name_used _ _ _ _ hsw]
  refine wpAny_bind (wpAny_standAt (wpAny_bind ?_))
  show wpAny _ X.A (do let _ ← comprehension (.ListComp elt [⟨tg, iter, ifs, 0⟩] scope pos) scope X.env _ (newList []) false (eval iter X.env) (some (assign (.Name x pos') X.env))) _ _ s
  refine wpAny_bind (wpAny_mono (wpAny_comprehension_free (use := some (assign (.Name x pos') X.env)) (Q := fun _ s' => SP X pins D0 .next s') rfl hs (closure_is fun y hy hf => I.ok.has y.1 (B.free y hy hf)) B.kind B.locs
    (thn (hi pins s σ H _ I h) fun v s1 h1 => thn h1 fun itv s2 h2 => ?_)) (fun _ s' hq => wpAny_pure (wpAny_pure hq)) fun _ _ e => e)
  obtain ⟨it, fp, tn, J, H2, e, I2, T, st2, f2, q⟩ := h2
  subst e
  refine lc_run (Q := fun x H1 => gName i x σ H1 D0.nx) B hc hg ht he I2 T st2 f2 q ?_
  intro D C s' H' ys J2 hDn hq ⟨m, hn⟩ hC1 hC2 hC3 hC4 hC5
  show wpAny _ X.A (assign (.Name x pos') X.env (.ref D)) _ _ _
  refine wpAny_assign_Name (store_ok2 (v := .ref D) J2 hN hi' (.inl hx) rfl (fun s'' I'' hsb => ?_) (.inr hx))
  obtain ⟨a, hsb, ha⟩ := hsb
  have aC : C ≠ a := by
    rcases ha with rfl | ha
    · exact hC2
    · exact fun z => hC4 x a ha z.symm
  refine ⟨m, hn.sameBut hsb aC, fun h'' hs'' => ?_⟩
  exact ⟨_, _, I''.turned (t' := s''.toks) (it := C) (fun b o hb e => hs''.extBut b o hb e) hC1 hC2 (.inr hC3) hC4 hC5, hq⟩
end

/-! ### the forms one uses: over a list that the block leaves as it is; over a range -/
section
variable {K : PySem.W.Frag} {a : Addr} {xs : List V} {ix : List (Option Nat)} {g : TG} {tt : TT} {te : TE} {σ : St} {H1 : Hp} {Q : VK}
theorem lc_list (Pv : Nat → List V → Hp → Prop) (h0 : Pv 0 [] H1) (hl : ∀ i ys H, i ≤ xs.length → Pv i ys H → SqL K H a xs ∧ ys.length ≤ sizeLine)
    (hs : ∀ i x ys H, xs[i]? = some x → Pv i ys H → g x (capt ix σ) H fun σ2 H2 => tt σ2 H2 fun b H3 => if b = true then te σ2 H3 fun v H4 => Pv (i + 1) (ys ++ [v]) H4 else Pv (i + 1) ys H3)
    (hd : ∀ ys H, Pv xs.length ys H → ∀ p, H p = none → Q (.ref p) (upd H p (.lst ys))) : LcGoal ix g tt te σ H1 Q (Itl K a) := by
  refine ⟨fun i m ys H => m = xs.length - i ∧ i ≤ xs.length ∧ Pv i ys H, ⟨xs.length, by simp, Nat.zero_le _, h0⟩, ?_⟩
  rintro i m ys H ⟨rfl, hi, p⟩
  obtain ⟨q, z⟩ := hl i ys H hi p
  by_cases hlt : i < xs.length
  · refine .inr ⟨⟨xs, xs[i], q, by simp [hlt]⟩, z, Pv (i + 1), fun ys' H' p' => ⟨xs.length - (i + 1), by omega, rfl, hlt, p'⟩, fun x H' y => ?_⟩
    obtain ⟨e, y⟩ := y
    subst e
    exact hs i x ys _ (y xs q) p
  · have e : i = xs.length := by omega
    subst e
    exact .inl ⟨⟨xs, q, Nat.le_refl _⟩, z, hd ys H p⟩
end
/-- by a function of the item: nothing that was tracked is changed -/
theorem lc_fm {K : PySem.W.Frag} {a : Addr} {xs : List V} {ix : List (Option Nat)} {g : TG} {tt : TT} {te : TE} {σ : St} {H1 : Hp} {Q : VK} (f : V → Option V) (hx : SqL K H1 a xs) (hz : xs.length ≤ sizeLine)
    (hs : ∀ x H (N : Option V → Hp → Prop), x ∈ xs → Same H1 H → (∀ H', Same H1 H' → N (f x) H') → g x (capt ix σ) H fun σ2 H2 => tt σ2 H2 fun b H3 => if b = true then te σ2 H3 fun v H4 => N (some v) H4 else N none H3)
    (hd : ∀ H p, Same H1 H → H p = none → Q (.ref p) (upd H p (.lst (xs.filterMap f)))) : LcGoal ix g tt te σ H1 Q (Itl K a) := by
  refine lc_list (K := K) (a := a) (xs := xs) (fun i ys H => ys = (xs.take i).filterMap f ∧ Same H1 H) ⟨rfl, Same.refl _⟩ (fun i ys H hi ⟨e, s⟩ => ⟨s.seq hx, ?_⟩) (fun i x ys H hi ⟨e, s⟩ => ?_) fun ys H ⟨e, s⟩ p hp => ?_
  · subst e
    refine Nat.le_trans (List.length_filterMap_le _ _) (Nat.le_trans ?_ hz)
    rw [List.length_take]; exact Nat.min_le_right _ _
  · have hm : x ∈ xs := List.mem_of_getElem? hi
    obtain ⟨hil, hix⟩ := List.getElem?_eq_some_iff.mp hi
    have et : xs.take (i + 1) = xs.take i ++ [x] := by rw [List.take_succ_eq_append_getElem hil, hix]
    refine hs x H (fun o H' => match o with | some v => (ys ++ [v] = (xs.take (i + 1)).filterMap f ∧ Same H1 H') | none => (ys = (xs.take (i + 1)).filterMap f ∧ Same H1 H')) hm s fun H' s' => ?_
    cases ef : f x with
    | some v =>
      refine ⟨?_, s'⟩
      rw [e, et, List.filterMap_append]
      simp [ef]
    | none =>
      refine ⟨?_, s'⟩
      rw [e, et, List.filterMap_append]
      simp [ef]
  · subst e
    rw [List.take_length]
    exact hd H p s hp
end L2

namespace L2
open PySem PySem.Spec PyProof.Rows

/-! ### data, by the abstract heap -/
mutual
inductive IsD (K : PySem.W.Frag) (H : Hp) : V → PyData → Prop
  | non : IsD K H .non .none
  | bl (b : Bool) : IsD K H (.bl b) (.bool b)
  | int (i : Int) : IsD K H (.int i) (.int i)
  | str (x : Str) : IsD K H (.str x) (.str x)
  | lst {a : Addr} {xs : List V} {ds : List PyData} : SqL K H a xs → IsDs K H xs ds → IsD K H (.ref a) (.list ds)
  | tup {a : Addr} {xs : List V} {ds : List PyData} : SqT K H a xs → IsDs K H xs ds → IsD K H (.ref a) (.tuple ds)
inductive IsDs (K : PySem.W.Frag) (H : Hp) : List V → List PyData → Prop
  | nil : IsDs K H [] []
  | cons {x : V} {xs : List V} {d : PyData} {ds : List PyData} : IsD K H x d → IsDs K H xs ds → IsDs K H (x :: xs) (d :: ds)
end
theorem Same.tupq {K : PySem.W.Frag} {H H' : Hp} {a : Addr} {xs : List V} (e : Same H H') (h : SqT K H a xs) : SqT K H' a xs := by
  rcases h with (h | ⟨o, h⟩) | h
  · exact .inl (.inl (e _ _ h))
  · exact .inl (.inr ⟨o, e _ _ h⟩)
  · exact .inr h
mutual
theorem IsD.reads {X : Cx} {pins : List (Addr × Obj)} {σ : St} {H : Hp} {s : Shared} (I : Inv X pins σ H s) : ∀ {v : V} {d : PyData} {u : Value}, IsD X.K H v d → RelV v u → ∃ as, Reads s.heap u d as
  | _, _, _, .non, r => by cases r; exact ⟨_, .none⟩
  | _, _, _, .bl b, r => by cases r; exact ⟨_, .bool b⟩
  | _, _, _, .int i, r => by obtain ⟨t, rfl⟩ := r; exact ⟨_, .int i t⟩
  | _, _, _, .str x, r => by obtain ⟨t, rfl⟩ := r; exact ⟨_, .str x t⟩
  | _, _, _, .lst h q, r => by
    cases r
    obtain ⟨its, rv, ⟨o, n, e, c, _, d⟩, _⟩ := I.list h
    obtain ⟨as, ra⟩ := IsDs.reads I q rv
    exact ⟨_, .list e c d (by simpa using ra)⟩
  | _, _, _, .tup h q, r => by
    cases r
    obtain ⟨its, rv, ⟨o, e, c, n, d⟩, _⟩ := I.tuple h
    obtain ⟨as, ra⟩ := IsDs.reads I q rv
    exact ⟨_, .tuple e c d (by simpa using ra)⟩
theorem IsDs.reads {X : Cx} {pins : List (Addr × Obj)} {σ : St} {H : Hp} {s : Shared} (I : Inv X pins σ H s) : ∀ {xs : List V} {ds : List PyData} {us : List Value}, IsDs X.K H xs ds → Vals xs us → ∃ as, ReadsAll s.heap us ds as
  | _, _, _, .nil, .nil => ⟨_, .nil⟩
  | _, _, _, .cons h q, .cons r t => by
    obtain ⟨as, ra⟩ := IsD.reads I h r
    obtain ⟨bs, rb⟩ := IsDs.reads I q t
    exact ⟨_, .cons ra rb⟩
end
theorem IsDs.ints {K : PySem.W.Frag} {H : Hp} : ∀ ns : List Int, IsDs K H (ns.map V.int) (ns.map PyData.int)
  | [] => .nil
  | n :: ns => .cons (.int n) (IsDs.ints ns)

section
variable {X : Cx}
def rInD (K : PySem.W.Frag) (neg : Bool) : R2 := fun x y H Q => ∃ d ds, IsD K H x d ∧ IsD K H y (.list ds) ∧ SeqAt.shaped d = true ∧ SeqAt.shaped (.list ds) = true ∧ Q (.bl (if neg then !ds.any (fun e => PyData.eqv e d) else ds.any (fun e => PyData.eqv e d))) H
theorem op_inD (hu : X.A.units + 65 < cLine) : OpR X (compareOp .In) (rInD X.K false) := by
  intro pins s σ H x y v u Q I rx ry h
  obtain ⟨d, ds, h1, h2, s1, s2, q⟩ := h
  obtain ⟨as, ra⟩ := h1.reads I rx
  obtain ⟨bs, rb⟩ := h2.reads I ry
  exact SeqAt.in_list_reads rb ra (SeqAt.canLay_of_shaped s2) (SeqAt.canLay_of_shaped s1) (room_in_shaped s1 hu) ⟨.bl _, H, I, rfl, q⟩
theorem op_notInD (hu : X.A.units + 65 < cLine) : OpR X (compareOp .NotIn) (rInD X.K true) := by
  intro pins s σ H x y v u Q I rx ry h
  obtain ⟨d, ds, h1, h2, s1, s2, q⟩ := h
  obtain ⟨as, ra⟩ := h1.reads I rx
  obtain ⟨bs, rb⟩ := h2.reads I ry
  exact SeqAt.notIn_list_reads rb ra (SeqAt.canLay_of_shaped s2) (SeqAt.canLay_of_shaped s1) (room_in_shaped s1 hu) ⟨.bl _, H, I, rfl, q⟩

/-! ### isinstance -/
def clsV : V → Option Value
  | .ty n => some (.type n)
  | .ref a => some (.ref a)
  | _ => none
theorem clsV_rel {c : V} {cv u : Value} (h : clsV c = some cv) (r : RelV c u) : u = cv := by
  cases c with
  | ty n => cases h; exact r
  | ref a => cases h; exact r
  | _ => cases h
theorem call_isinst : CallR X (.builtin "isinstance") (fun xs H Q => ∃ x c cv t b, xs = [x, c] ∧ clsV c = some cv ∧ TyOf X.K H x t ∧ PySem.W.kitOne X.K t cv = some b ∧ Q (.bl b) H) := by
  intro pins s σ H xs us Q I r h
  obtain ⟨x, c, cv, t, b, rfl, hc, ty, hk, q⟩ := h
  obtain ⟨u1, u2, rfl, r1, r2⟩ := vals2 r
  obtain rfl := clsV_rel hc r2
  exact isinst_ok I r1 ty hk fun tk => ⟨.bl b, H, I.tok tk, rfl, q⟩

/-! ### all, any by the items' truth -/
abbrev Cx.in1 (X : Cx) : Cx := { X with A := X.A.in1 }
theorem Inv.in1 {pins : List (Addr × Obj)} {σ : St} {H : Hp} {s : Shared} (I : Inv X pins σ H s) : Inv X.in1 pins σ H s :=
  ⟨⟨I.ok.mod, I.ok.kind, I.ok.glob, I.ok.blt, I.ok.above, I.ok.inj, I.ok.has, I.ok.cab, I.ok.hd, I.ok.frames, I.ok.stk, I.ok.exf, I.ok.bs, I.ok.bsz, I.ok.noex, I.ok.exfs, I.ok.funs, I.ok.frf⟩, I.os, I.bare, I.base, I.loc, I.cell, I.free, I.freeC, I.pin, I.hok, I.len⟩
theorem Inv.of_in1 {pins : List (Addr × Obj)} {σ : St} {H : Hp} {s : Shared} (I : Inv X.in1 pins σ H s) : Inv X pins σ H s :=
  ⟨⟨I.ok.mod, I.ok.kind, I.ok.glob, I.ok.blt, I.ok.above, I.ok.inj, I.ok.has, I.ok.cab, I.ok.hd, I.ok.frames, I.ok.stk, I.ok.exf, I.ok.bs, I.ok.bsz, I.ok.noex, I.ok.exfs, I.ok.funs, I.ok.frf⟩, I.os, I.bare, I.base, I.loc, I.cell, I.free, I.freeC, I.pin, I.hok, I.len⟩
def Truths (K : PySem.W.Frag) (H : Hp) (xs : List V) (bs : List Bool) : Prop := Paired (fun x b => TruV K x H b) xs bs
theorem Truths.get {K : PySem.W.Frag} {H : Hp} : ∀ {xs : List V} {bs : List Bool} {i : Nat} {x : V}, Truths K H xs bs → xs[i]? = some x → ∃ b, bs[i]? = some b ∧ TruV K x H b
  | _, _, _, _, .nil, h => by simp at h
  | _, _, 0, _, .cons h r, e => by
    simp at e; subst e
    exact ⟨_, rfl, h⟩
  | _, _, i + 1, _, .cons h r, e => by
    obtain ⟨d, e1, q⟩ := Truths.get (i := i) r (by simpa using e)
    exact ⟨d, by simpa using e1, q⟩
theorem Truths.bls {K : PySem.W.Frag} {H : Hp} : ∀ bs : List Bool, Truths K H (bs.map V.bl) bs
  | [] => .nil
  | b :: bs => .cons rfl (Truths.bls bs)
theorem all_loop {pins : List (Addr × Obj)} {σ : St} {H : Hp} {p it : Addr} {ys : List V} {bs : List Bool} {R : Result → Shared → Prop} (hc : X.calm = true) (hq : SqL X.K H p ys) (ht : Truths X.K H ys bs) (f : FpOk X pins H it) :
    ∀ (k i : Nat) (s : Shared), ys.length - i = k → Inv X pins σ H s → s.heap.IsListIter it p i → (∀ s', Inv X pins σ H s' → R (.ok (.ret (.bool ((bs.drop i).all id)))) s') →
    codeAny (model X.prog X.w) X.A (.builtin "all.loop" ⟨[.ref it], []⟩) R s := by
  obtain ⟨f0, f1, f2, f3, f4, f5⟩ := f
  intro k
  induction k with
  | zero =>
    intro i s hk I st hR
    obtain ⟨its, rv, pl, hz⟩ := I.list hq
    have hl := rv.length
    refine codeAny_builtin F.entry_all_loop ?_
    rw [Around.under_plainId F.plain_all_loop _]
    show wpAny _ X.A.in1 (pyNext (.ref it) >>= _) _ _ s
    refine wpAny_bind (wpAny_pyNext_list_end (I.ok.hd hc) st pl.isList (by simp; omega) fun h' eb => ?_)
    refine wpAny_bind (wpAny_rule (wpAny_pure ?_))
    have q := hR _ (I.turned (t' := s.toks) (fun b o hb e => eb b o hb e) f0 f1 f3 f4 f5)
    have hlb : bs.length = ys.length := (Paired.length ht).symm
    rw [List.drop_of_length_le (by omega)] at q
    exact q
  | succ k ih =>
    intro i s hk I st hR
    obtain ⟨its, rv, pl, hz⟩ := I.list hq
    have hl := rv.length
    have hlt : i < ys.length := by omega
    have hx : ys[i]? = some ys[i] := by simp [hlt]
    obtain ⟨u, hu, ru⟩ := rv.get hx
    obtain ⟨b, hb, tb⟩ := ht.get hx
    refine codeAny_builtin F.entry_all_loop ?_
    rw [Around.under_plainId F.plain_all_loop _]
    show wpAny _ X.A.in1 (pyNext (.ref it) >>= _) _ _ s
    refine wpAny_bind (wpAny_pyNext_list_item st pl.isList (x := u) (by simpa using hu) fun h' st' sb => ?_)
    have I1 : Inv X pins σ H { s with heap := h' } := I.turned (t' := s.toks) (fun b o hb e => (sb.2 b hb).trans e) f0 f1 f3 f4 f5
    have hdb : bs.drop i = b :: bs.drop (i + 1) := by
      obtain ⟨hlb, eb⟩ := List.getElem?_eq_some_iff.mp hb
      rw [List.drop_eq_getElem_cons hlb, eb]
    rw [hdb] at hR
    have I1p : Inv X (pins ++ pinsAt [it] h') σ H { s with heap := h' } := I1.pinned (fp := [it]) (fun c hcc => by rw [List.mem_singleton.mp hcc]; exact ⟨f0, f1, f2, f3, f4, f5⟩) fun c hcc => by
      rw [List.mem_singleton.mp hcc]
      obtain ⟨o, e, c', d⟩ := st'
      exact ⟨o, e, fun v z => by rw [d] at z; cases z⟩
    refine wpAny_bind (wpAny_holding (wpAny_mono (tru_ok (X := X.in1.nox) _ _ σ H ys[i] u (fun c H' => c = b ∧ H' = H) ((Inv.in1 I1p).wish _) ru ⟨b, tb, rfl, rfl⟩) (fun c s2 ⟨H', I2, e1, e2⟩ => ?_) fun _ _ z => False.elim z))
    rw [e2] at I2
    subst e1
    have I2' : Inv X (pins ++ pinsAt [it] h') σ H s2 := Inv.of_in1 I2.unwish
    have I2'' : Inv X pins σ H s2 := I2'.unpinned
    have st2 : s2.heap.IsListIter it p (i + 1) := st'.at fun o e => (I2'.pin (it, o) (List.mem_append_right _ (List.mem_append_right _ (mem_pinsAt (List.mem_singleton.mpr rfl) e)))).1
    refine wpAny_bind (wpAny_letGo ?_)
    cases c with
    | true =>
      simp only [if_true]
      exact wpAny_pure ⟨plainId_quiet F.plain_all_loop _, ih (i + 1) s2 (by omega) I2'' st2 fun s' I' => by simpa using hR s' I'⟩
    | false =>
      simp only [Bool.false_eq_true, if_false]
      refine wpAny_bind (wpAny_rule (wpAny_pure ?_))
      simpa using hR s2 I2''
theorem call_allT (hc : X.calm = true) : CallR X (.builtin "all") (fun xs H Q => ∃ p ys bs, xs = [.ref p] ∧ SqL X.K H p ys ∧ Truths X.K H ys bs ∧ Q (.bl (bs.all id)) H) := by
  intro pins s σ H xs us Q I r h
  obtain ⟨p, ys, bs, rfl, hq, ht, q⟩ := h
  obtain ⟨u, rfl, rx⟩ := vals1 r
  cases rx
  refine call_function_tree F.kind_all F.plain_all F.entry_all (F.args_all1 _) ?_
  unfold Builtin.«all»
  refine wpAny_bind (m := oneArg "all" _) (wpAny_pure ?_)
  obtain ⟨its, rv, pl, hz⟩ := I.list hq
  refine wpAny_bind (wpAny_pyIter_list pl.isList ?_)
  have I1 : Inv X pins σ H { s with heap := s.heap.push { cls := .type "list_iterator", data := .fields #[.ref p, .int 0 0] } } := I.kept (t' := s.toks) fun b o e => Heap.get?_push_of_some _ e
  refine wpAny_pure ⟨plainId_quiet F.plain_all_loop _, all_loop hc hq ht (I.fpOk (Nat.le_refl _) (I.hok.fresh (Nat.le_refl _))) ys.length 0 _ (Nat.sub_zero _) I1 ⟨_, Heap.get?_push_size _ rfl, rfl, rfl⟩ fun s' I' => ?_⟩
  exact ⟨.bl _, H, I', rfl, by simpa using q⟩
end
end L2

namespace L2
open PySem PySem.Spec PyProof.Rows

/-- a def of the text as it stands behind the top -/
structure Dn (K : PySem.W.Frag) (mg : Str → Option Value) (x : Str) (st : Stmt) (ps : List Str) where
  f : Addr
  fd : FuncData
  F : Fun K x x st f fd
  b : Binds K fd ps []
  m : mg x = some (.ref f)
  bd : ∀ (s : Shared) (us : List Value), us.length = ps.length → BindsTo s fd ⟨us, []⟩ (ps.zip us)
/-- the built-ins' names are the built-ins' -/
structure Bl (mg : Str → Option Value) : Prop where
  get : ∀ x : Str, x ∈ (["len", "range", "list", "isinstance", "int", "bool", "str", "all", "any", "sorted", "set", "min", "max", "tuple", "enumerate", "dict", "ValueError"] : List Str) → mg x = none
theorem Bl.len {mg : Str → Option Value} (B : Bl mg) : mg "len" = none := B.get _ (by decide +kernel)
theorem Bl.range {mg : Str → Option Value} (B : Bl mg) : mg "range" = none := B.get _ (by decide +kernel)
theorem Bl.list {mg : Str → Option Value} (B : Bl mg) : mg "list" = none := B.get _ (by decide +kernel)
theorem Bl.isinstance {mg : Str → Option Value} (B : Bl mg) : mg "isinstance" = none := B.get _ (by decide +kernel)
theorem Bl.int {mg : Str → Option Value} (B : Bl mg) : mg "int" = none := B.get _ (by decide +kernel)
theorem Bl.bool {mg : Str → Option Value} (B : Bl mg) : mg "bool" = none := B.get _ (by decide +kernel)
theorem Bl.all {mg : Str → Option Value} (B : Bl mg) : mg "all" = none := B.get _ (by decide +kernel)
theorem Bl.sorted {mg : Str → Option Value} (B : Bl mg) : mg "sorted" = none := B.get _ (by decide +kernel)
theorem Bl.set {mg : Str → Option Value} (B : Bl mg) : mg "set" = none := B.get _ (by decide +kernel)
theorem Bl.min {mg : Str → Option Value} (B : Bl mg) : mg "min" = none := B.get _ (by decide +kernel)
theorem Bl.enumerate {mg : Str → Option Value} (B : Bl mg) : mg "enumerate" = none := B.get _ (by decide +kernel)

/-! ### the kinds of plain values -/
theorem kit_int_int {K : PySem.W.Frag} : PySem.W.kitOne K (.type "int") (.type "int") = some true := by rfl
theorem kit_int_bool {K : PySem.W.Frag} : PySem.W.kitOne K (.type "int") (.type "bool") = some false := by rfl
theorem kit_non_int {K : PySem.W.Frag} : PySem.W.kitOne K (.type "NoneType") (.type "int") = some false := by rfl
theorem kit_non_bool {K : PySem.W.Frag} : PySem.W.kitOne K (.type "NoneType") (.type "bool") = some false := by rfl
end L2

namespace L2
open PySem PySem.Spec PyProof.Rows
/-! the rules with the written part named (a block's own context does not show it) -/
section
variable {X : Cx} {K : PySem.W.Frag}
theorem ix_listK (e : X.K = K) : IxR X (rIxL K) := by subst e; exact ix_list
theorem ix_tupK (e : X.K = K) : IxR X (rIxT K) := by subst e; exact ix_tup
theorem op_inDK (e : X.K = K) (hu : X.A.units + 65 < cLine) : OpR X (compareOp .In) (rInD K false) := by subst e; exact op_inD hu
theorem op_notInDK (e : X.K = K) (hu : X.A.units + 65 < cLine) : OpR X (compareOp .NotIn) (rInD K true) := by subst e; exact op_notInD hu
def rLen (K : PySem.W.Frag) : List V → Hp → VK → Prop := fun xs H Q => ∃ p ys, xs = [.ref p] ∧ (SqL K H p ys ∨ SqT K H p ys) ∧ Q (.int ys.length) H
theorem call_lenK (e : X.K = K) : CallR X (.builtin "len") (rLen K) := by subst e; exact call_len_seq
def rListOf (K : PySem.W.Frag) : List V → Hp → VK → Prop := fun xs H Q => ∃ p ys, xs = [.ref p] ∧ (SqL K H p ys ∨ SqT K H p ys) ∧ ∀ l, H l = none → Q (.ref l) (upd H l (.lst ys))
theorem call_listK (e : X.K = K) : CallR X (.type "list") (rListOf K) := by subst e; exact call_list_of
def rIsin (K : PySem.W.Frag) : List V → Hp → VK → Prop := fun xs H Q => ∃ x c cv t b, xs = [x, c] ∧ clsV c = some cv ∧ TyOf K H x t ∧ PySem.W.kitOne K t cv = some b ∧ Q (.bl b) H
theorem call_isinstK (e : X.K = K) : CallR X (.builtin "isinstance") (rIsin K) := by subst e; exact call_isinst
def rAll (K : PySem.W.Frag) : List V → Hp → VK → Prop := fun xs H Q => ∃ p ys bs, xs = [.ref p] ∧ SqL K H p ys ∧ Truths K H ys bs ∧ Q (.bl (bs.all id)) H
theorem call_allK (e : X.K = K) (hc : X.calm = true) : CallR X (.builtin "all") (rAll K) := by subst e; exact call_allT hc
theorem pi_listK {tg l : Expr} {tl : TE} (e : X.K = K) (hl : PE X l tl) : PI X tg l (iList K tl) := by subst e; exact pi_list hl
def tTru (K : PySem.W.Frag) (ta : TE) : TT := fun σ H Q => ta σ H fun x H' => ∃ k, TruV K x H' k ∧ Q k H'
theorem pt_truthK {a : Expr} {ta : TE} (e : X.K = K) (ha : PE X a ta) (he : ∀ whole, isTrue a X.env whole = (do let v ← whole; standAt a.pos; holding [v] (truthy v))) : PT X a (tTru K ta) := by subst e; exact pt_truth ha he
theorem pg_tupK {es : List Expr} {k : Nat} {t : TGs} {n : Nat} {pos : Pos} (e : X.K = K) (hc : X.calm = true) (h : PGs X es t)
    (hn : (assignEach es X.env).length = n := by rfl) (hst : (assignEach es X.env).findIdx? (·.1) = none := by rfl) : PG X (.Tuple es k pos) (gTup K n t) := by subst e; exact pg_tup hc h hn hst
theorem pe_bmK {o e : Expr} {es : List Expr} {to : TE} {t : TA} {name : Str} {apos cpos : Pos} {T id : String} {r : V → List V → Hp → VK → Prop} (e0 : X.K = K) (pa : PlainAttrs T) (slot : Slot T name id) (hty : typeOf (.builtin id) = pure (.type "method_descriptor")) (hm : MtR X id r) (ho : PE X o to) (ha : PA X (e :: es) t)
    (hbase : attributeBase o name X.env (eval o X.env) = eval o X.env := by rfl)
    (hfew : ((backTo cpos (starEach (e :: es) X.env)).all (fun x => !x.1) && (backToKw cpos (keywordEach [] X.env)).all (fun x => x.1.isSome)
      && decide ((e :: es).length + ([] : List Keyword).length + (if ([] : List Keyword).isEmpty then 0 else 1) < 30)) = true := by rfl)
    (hline : (apos.endLine == cpos.line) = true := by rfl) (hs : starEach (e :: es) X.env = (false, eval e X.env) :: starEach es X.env := by rfl) (hplain : (backTo cpos (starEach es X.env)).any (·.1) = false := by rfl) :
    PE X (.Call (.Attribute o name apos) (e :: es) [] cpos) (tBM K T r to t) := by subst e0; exact pe_bm pa slot hty hm ho ha hbase hfew hline hs hplain

/-! ### xs.insert(i, v) -/
def rInsert : V → List V → Hp → VK → Prop := fun x vs H Q => ∃ l xs i y, x = .ref l ∧ vs = [.int i, y] ∧ H l = some (.lst xs) ∧ xs.length < 1000 ∧ 0 ≤ i ∧ i ≤ (xs.length : Int) ∧ Q .non (upd H l (.lst (xs.take i.toNat ++ y :: xs.drop i.toNat)))
theorem mt_insert : MtM X "list.insert" rInsert := by
  intro pins s σ H x vs v us Q I rx rv h
  obtain ⟨l, xs, i, y, rfl, rfl, hH, hz, h0, h1, q⟩ := h
  cases rx
  obtain ⟨u1, u2, rfl, ru1, ru2⟩ := rv.two
  obtain ⟨t, rfl⟩ := ru1
  obtain ⟨z, its, n, r, hl, e⟩ := I.lstM hH
  have hlen := r.length
  have hs : sizeLine = 16777216 := sizeLine_eq
  have hfit : ¬(!Builtin.List.listFitsIndex i) = true := by
    unfold Builtin.List.listFitsIndex
    simp
    omega
  refine call_meets F.slot_list_insert ⟨_, e, rfl⟩ F.entry_list_insert (F.args_list_insert_3 _ _ _) (AutoSeq1.list_insert_list_int_val_1 l its.toArray n i t u2 hfit (by rw [List.size_toArray]; omega)) ⟨e, ?_⟩
  refine ⟨.non, _, I.lset (its' := its.take i.toNat ++ u2 :: its.drop i.toNat) hH e ?_ ((r.take i.toNat).append (.cons ru2 (r.drop i.toNat))) ?_, rfl, q⟩
  · have hk : min i.toNat its.length = i.toNat := by omega
    simp [show ¬ i < 0 by omega, hk]
    exact List.take_of_length_le (by simp)
  · rw [List.length_append, List.length_cons, List.length_take, List.length_drop]
    omega
end
end L2

namespace L2
open PySem PySem.Spec PyProof.Rows
/-- a statement whose ways meet: J is what holds behind it -/
def tCut (t u : TS) : TS := fun D σ H => ∃ J : St → Hp → Prop, t { D with nx := J } σ H ∧ ∀ σ' H', J σ' H' → u D σ' H'
theorem pss_cut {X : Cx} {st : Stmt} {rest : List Stmt} {t u : TS} (h1 : PS X st t) (h2 : PSs X rest u) : PSs X (st :: rest) (tCut t u) := by
  intro pins s σ H D I h
  obtain ⟨J, q1, q2⟩ := h
  refine wpAny_execs_cons (thn (h1 pins s σ H { D with nx := J } I q1) fun f s1 q => ?_)
  cases f with
  | next =>
    obtain ⟨σ', H', I', q⟩ := q
    exact h2 pins s1 σ' H' D I' (q2 σ' H' q)
  | ret v => exact q
  | brk => exact q
  | cont => exact q
end L2

namespace L2
open PySem PySem.Spec PyProof.Rows
/-- o has been laid at p -/
structure New (H : Hp) (p : Addr) (o : HO) (H' : Hp) : Prop where
  fresh : H p = none
  here : H' p = some o
  rest : ∀ b, b ≠ p → H' b = H b
theorem New.mk0 {H : Hp} {p : Addr} {o : HO} (h : H p = none) : New H p o (upd H p o) := ⟨h, upd_same, fun _ hb => upd_ne hb⟩
theorem New.same {H H' : Hp} {p : Addr} {o : HO} (n : New H p o H') : Same H H' := fun b u e => (n.rest b (ne_of_none e n.fresh)).trans e
theorem New.ne {H H' : Hp} {p b : Addr} {o u : HO} (n : New H p o H') (h : H b = some u) : b ≠ p := ne_of_none h n.fresh
/-- the object at l has been changed into o -/
structure Chg (H : Hp) (l : Addr) (o : HO) (H' : Hp) : Prop where
  here : H' l = some o
  rest : ∀ b, b ≠ l → H' b = H b
theorem Chg.mk0 {H : Hp} {l : Addr} {o : HO} : Chg H l o (upd H l o) := ⟨upd_same, fun _ hb => upd_ne hb⟩
section
variable {X : Cx} {K : PySem.W.Frag} {es : List Expr} {t : TA} {pos : Pos}
def tTupN (t : TA) : TE := fun σ H Q => t σ H fun xs H1 => xs.length ≤ 1000 ∧ ∀ p H', New H1 p (.tup xs) H' → Q (.ref p) H'
def tLstN (t : TA) : TE := fun σ H Q => t σ H fun xs H1 => xs.length ≤ 1000 ∧ ∀ p H', New H1 p (.lst xs) H' → Q (.ref p) H'
theorem pe_tupN {x1} (h : PA X es t) : PE X (.Tuple es x1 pos) (tTupN t) := by
  intro pins s σ H Q I hq
  refine wpAny_Tuple_spliced (thn (h pos pins s σ H _ I hq) fun us s1 ⟨xs, H1, I1, r, z, q⟩ => ?_)
  have z' : xs.length ≤ sizeLine := Nat.le_of_lt (small1000 z)
  refine ⟨by rw [← r.length]; exact z', ?_⟩
  have hf : H1 s1.heap.objs.size = none := I1.hok.fresh (Nat.le_refl _)
  refine ⟨.ref s1.heap.objs.size, upd H1 s1.heap.objs.size (.tup xs), I1.laid (t' := s1.toks) (fun b u e => Heap.get?_push_of_some _ e) (Nat.le_refl _) ?_, rfl, q _ _ (New.mk0 hf)⟩
  exact ⟨z', us, r, ⟨_, Heap.get?_push_size _ rfl, rfl, _, rfl⟩⟩
theorem pe_lstN (h : PA X es t) : PE X (.List es pos) (tLstN t) := by
  intro pins s σ H Q I hq
  refine wpAny_List_spliced (thn (h pos pins s σ H _ I hq) fun us s1 ⟨xs, H1, I1, r, z, q⟩ => ?_)
  have z' : xs.length ≤ sizeLine := Nat.le_of_lt (small1000 z)
  refine ⟨by rw [← r.length]; exact z', ?_⟩
  have hf : H1 s1.heap.objs.size = none := I1.hok.fresh (Nat.le_refl _)
  refine ⟨.ref s1.heap.objs.size, upd H1 s1.heap.objs.size (.lst xs), I1.laid (t' := s1.toks) (fun b u e => Heap.get?_push_of_some _ e) (Nat.le_refl _) ?_, rfl, q _ _ (New.mk0 hf)⟩
  exact ⟨z', us, 0, r, Heap.get?_push_size _ rfl⟩
theorem OpR.weak {f : Value → Value → Sem Value} {r r' : R2} (h : OpR X f r) (m : ∀ x y H Q, r' x y H Q → r x y H Q) : OpR X f r' := fun pins s σ H x y v u Q I rx ry q => h pins s σ H x y v u Q I rx ry (m x y H Q q)
theorem CallR.weak {f : Value} {r r' : List V → Hp → VK → Prop} (h : CallR X f r) (m : ∀ xs H Q, r' xs H Q → r xs H Q) : CallR X f r' := fun pins s σ H xs us Q I rs q => h pins s σ H xs us Q I rs (m xs H Q q)
def rCatN : R2 := fun x y H Q => ∃ l b xs zs, x = .ref l ∧ y = .ref b ∧ H l = some (.lst xs) ∧ H b = some (.lst zs) ∧ xs.length + zs.length ≤ 1000 ∧ ∀ p H', New H p (.lst (xs ++ zs)) H' → Q (.ref p) H'
theorem op_catN : OpR X (binaryOp .Add) rCatN := op_cat.weak fun x y H Q ⟨l, b, xs, zs, e1, e2, h1, h2, z, q⟩ => ⟨l, b, xs, zs, e1, e2, h1, h2, Nat.le_of_lt (small1000 z), fun p hp => q p _ (New.mk0 hp)⟩
def rSlN (K : PySem.W.Frag) : V → Option Int → Option Int → Hp → VK → Prop := fun x lo hi H Q => ∃ a xs, x = .ref a ∧ SqL K H a xs ∧ ∀ p H', New H p (.lst (cutV xs lo hi)) H' → Q (.ref p) H'
theorem sl_listN (e : X.K = K) : SlR X (rSlN K) := by
  subst e
  exact fun pins s σ H x v vl vu lo hi sl Q I rx hs pl pu ⟨a, xs, e, h, q⟩ => sl_list pins s σ H x v vl vu lo hi sl Q I rx hs pl pu ⟨a, xs, e, h, fun p hp => q p _ (New.mk0 hp)⟩
def rListN (K : PySem.W.Frag) : List V → Hp → VK → Prop := fun xs H Q => ∃ p ys, xs = [.ref p] ∧ (SqL K H p ys ∨ SqT K H p ys) ∧ ∀ l H', New H l (.lst ys) H' → Q (.ref l) H'
theorem call_listN (e : X.K = K) : CallR X (.type "list") (rListN K) := (call_listK e).weak fun xs H Q ⟨p, ys, e, h, q⟩ => ⟨p, ys, e, h, fun l hl => q l _ (New.mk0 hl)⟩
theorem MtM.weak {id : String} {r r' : V → List V → Hp → VK → Prop} (h : MtM X id r) (m : ∀ x xs H Q, r' x xs H Q → r x xs H Q) : MtM X id r' := fun pins s σ H x xs v us Q I rx rs q => h pins s σ H x xs v us Q I rx rs (m x xs H Q q)
def rAppN : V → List V → Hp → VK → Prop := fun x vs H Q => ∃ l xs y, x = .ref l ∧ vs = [y] ∧ H l = some (.lst xs) ∧ xs.length < 1000 ∧ ∀ H', Chg H l (.lst (xs ++ [y])) H' → Q .non H'
theorem mt_appendN : MtM X "list.append" rAppN := mt_append.weak fun x vs H Q ⟨l, xs, y, e1, e2, h, z, q⟩ => ⟨l, xs, y, e1, e2, h, small1000 (Nat.le_of_lt z), q _ Chg.mk0⟩
def rInsN : V → List V → Hp → VK → Prop := fun x vs H Q => ∃ l xs i y, x = .ref l ∧ vs = [.int i, y] ∧ H l = some (.lst xs) ∧ xs.length < 1000 ∧ 0 ≤ i ∧ i ≤ (xs.length : Int) ∧ ∀ H', Chg H l (.lst (xs.take i.toNat ++ y :: xs.drop i.toNat)) H' → Q .non H'
theorem mt_insertN : MtM X "list.insert" rInsN := mt_insert.weak fun x vs H Q ⟨l, xs, i, y, e1, e2, h, z, h0, h1, q⟩ => ⟨l, xs, i, y, e1, e2, h, z, h0, h1, q _ Chg.mk0⟩
def rExtN : V → List V → Hp → VK → Prop := fun x vs H Q => ∃ l b xs zs, x = .ref l ∧ vs = [.ref b] ∧ H l = some (.lst xs) ∧ H b = some (.lst zs) ∧ xs.length + zs.length ≤ 1000 ∧ ∀ H', Chg H l (.lst (xs ++ zs)) H' → Q .non H'
theorem mt_extendN : MtM X "list.extend" rExtN := mt_extend.weak fun x vs H Q ⟨l, b, xs, zs, e1, e2, h, h', z, q⟩ => ⟨l, b, xs, zs, e1, e2, h, h', Nat.le_of_lt (small1000 z), q _ Chg.mk0⟩
end
theorem lc_fmN {K : PySem.W.Frag} {a : Addr} {xs : List V} {ix : List (Option Nat)} {g : TG} {tt : TT} {te : TE} {σ : St} {H1 : Hp} {Q : VK} (f : V → Option V) (hx : SqL K H1 a xs) (hz : xs.length ≤ 1000)
    (hs : ∀ x H (N : Option V → Hp → Prop), x ∈ xs → Same H1 H → (∀ H', Same H1 H' → N (f x) H') → g x (capt ix σ) H fun σ2 H2 => tt σ2 H2 fun b H3 => if b = true then te σ2 H3 fun v H4 => N (some v) H4 else N none H3)
    (hd : ∀ H p H', Same H1 H → New H p (.lst (xs.filterMap f)) H' → Q (.ref p) H') : LcGoal ix g tt te σ H1 Q (Itl K a) :=
  lc_fm f hx (Nat.le_of_lt (small1000 hz)) hs fun H p s hp => hd H p _ s (New.mk0 hp)
end L2

/-! the law's own draws, as functions -/
namespace Lw
open PySem L2
theorem fm_some {α β : Type} {f : α → Option β} {g : α → β} : ∀ {l : List α}, (∀ x ∈ l, f x = some (g x)) → l.filterMap f = l.map g
  | [], _ => rfl
  | x :: r, h => by
    rw [List.filterMap_cons_some (h x List.mem_cons_self), List.map_cons, fm_some fun y hy => h y (List.mem_cons_of_mem _ hy)]
theorem fm_filter {f : V → Option V} {p : Int → Bool} : ∀ {ns : List Int}, (∀ v ∈ ns, f (.int v) = if p v = true then some (.int v) else none) → (ns.map V.int).filterMap f = (ns.filter p).map V.int
  | [], _ => rfl
  | v :: r, h => by
    have ih := fm_filter (f := f) (p := p) (ns := r) fun y hy => h y (List.mem_cons_of_mem _ hy)
    have hv := h v List.mem_cons_self
    rw [List.map_cons, List.filter_cons]
    by_cases c : p v = true
    · rw [if_pos c] at hv ⊢
      rw [List.filterMap_cons_some hv, ih]; rfl
    · rw [if_neg c] at hv ⊢
      rw [List.filterMap_cons_none hv, ih]
theorem at_ints {ns : List Int} {k : Int} (h0 : 0 ≤ k) (h : k < (ns.length : Int)) : atI (ns.map V.int) k = some (.int (ns.getD k.toNat 0)) := by
  have hk : k.toNat < ns.length := by omega
  have ek : k = ((k.toNat : Nat) : Int) := by omega
  have q : atI (ns.map V.int) ((k.toNat : Nat) : Int) = some (.int (ns.getD k.toNat 0)) := atI_nat (by
    rw [List.getElem?_map, List.getElem?_eq_getElem hk, List.getD_eq_getElem?_getD, List.getElem?_eq_getElem hk]; rfl)
  rw [← ek] at q
  exact q
/-- the script: frozen, or the module's own -/
def Scr (K : PySem.W.Frag) (H : Hp) (a : Addr) (ns : List Int) : Prop := (∃ o, H a = some (.frz o (.lst (ns.map V.int)))) ∨
  ∃ (o : Obj) (its : Array Value) (n : Nat), K.lookup a = some o ∧ o.cls = .type "list" ∧ o.dict = none ∧ o.data = .seq its n ∧ its.size ≤ sizeLine ∧ Vals (ns.map V.int) its.toList
theorem Scr.seq {K : PySem.W.Frag} {H : Hp} {a : Addr} {ns : List Int} (h : Scr K H a ns) : SqL K H a (ns.map V.int) := by
  rcases h with ⟨o, h⟩ | h
  · exact .inl (.inr ⟨o, h⟩)
  · exact .inr h
theorem Scr.of {K : PySem.W.Frag} {H : Hp} {a : Addr} {ns : List Int} (hO : Only H) (h : SqL K H a (ns.map V.int)) : Scr K H a ns := by
  rcases h with (h | ⟨o, h⟩) | h
  · rcases hO a with z | ⟨ob, xs, z⟩
    · rw [z] at h; cases h
    · rw [z] at h; cases h
  · exact .inl ⟨o, h⟩
  · exact .inr h
theorem Scr.same {K : PySem.W.Frag} {H H' : Hp} {a : Addr} {ns : List Int} (e : Same H H') (h : Scr K H a ns) : Scr K H' a ns := by
  rcases h with ⟨o, h⟩ | h
  · exact .inl ⟨o, e _ _ h⟩
  · exact .inr h
/-- the script, and law's promise -/
def spLaw (K : PySem.W.Frag) : Sp := fun vs H Q _ => ∃ (a : Addr) (ns : List Int), vs = [.ref a] ∧ Scr K H a ns ∧ ns.length ≤ 63 ∧ ∀ H', Q (.bl true) H'
end Lw

namespace L2
open PySem PySem.Spec PyProof.Rows
theorem dn_mk {K : PySem.W.Frag} {h : Heap} {mg : Str → Option Value} {x : Str} {st : Stmt} {ps : List Str} {f : Addr} {oc : Value} {od an : Option Addr} {osl : Array (Option Value)} {kV doc pm cdv ct : Value} (X : K.In h) (G : h.Ns mainGlobals mg)
    (a : PySem.W.nsIn K mainGlobals x = some (some (.ref f))) (l : K.lookup f = some ⟨oc, od, .func (PySem.W.fnOf x x (defArgs st) (defBody st) (defScope st) .none kV doc pm an cdv ct), osl⟩) (c : PySem.W.codeIn K cdv x = true) (k : PySem.W.keepIn K (.ref f) = true)
    (hb : ∀ (kV doc pm : Value) (an : Option Addr) (cdv ct : Value) (us : List Value), us.length = ps.length → bindArgs (PySem.W.fnOf x x (defArgs st) (defBody st) (defScope st) .none kV doc pm an cdv ct) ⟨us, []⟩ = pure (ps.zip us)) :
    Nonempty (Dn K mg x st ps) :=
  have F := fun_mk (st := st) l c k
  ⟨⟨f, _, F, F.binds hb, PySem.W.mg_of X G a, fun s us hl => .of_eq (hb _ _ _ _ _ _ us hl)⟩⟩
theorem bl_mk {K : PySem.W.Frag} {h : Heap} {mg : Str → Option Value} (X : K.In h) (G : h.Ns mainGlobals mg)
    (z1 : PySem.W.nsIn K mainGlobals "len" = some none) (z2 : PySem.W.nsIn K mainGlobals "range" = some none) (z3 : PySem.W.nsIn K mainGlobals "list" = some none) (z4 : PySem.W.nsIn K mainGlobals "isinstance" = some none) (z5 : PySem.W.nsIn K mainGlobals "int" = some none)
    (z6 : PySem.W.nsIn K mainGlobals "bool" = some none) (z7 : PySem.W.nsIn K mainGlobals "str" = some none) (z8 : PySem.W.nsIn K mainGlobals "all" = some none) (z9 : PySem.W.nsIn K mainGlobals "any" = some none) (z10 : PySem.W.nsIn K mainGlobals "sorted" = some none)
    (z11 : PySem.W.nsIn K mainGlobals "set" = some none) (z12 : PySem.W.nsIn K mainGlobals "min" = some none) (z13 : PySem.W.nsIn K mainGlobals "max" = some none) (z14 : PySem.W.nsIn K mainGlobals "tuple" = some none) (z15 : PySem.W.nsIn K mainGlobals "enumerate" = some none)
    (z16 : PySem.W.nsIn K mainGlobals "dict" = some none) (z17 : PySem.W.nsIn K mainGlobals "ValueError" = some none) : Bl mg := by
  refine ⟨fun x hx => ?_⟩
  simp only [List.mem_cons, List.not_mem_nil, or_false] at hx
  rcases hx with rfl | rfl | rfl | rfl | rfl | rfl | rfl | rfl | rfl | rfl | rfl | rfl | rfl | rfl | rfl | rfl | rfl
  · exact PySem.W.mg_none_of X G z1
  · exact PySem.W.mg_none_of X G z2
  · exact PySem.W.mg_none_of X G z3
  · exact PySem.W.mg_none_of X G z4
  · exact PySem.W.mg_none_of X G z5
  · exact PySem.W.mg_none_of X G z6
  · exact PySem.W.mg_none_of X G z7
  · exact PySem.W.mg_none_of X G z8
  · exact PySem.W.mg_none_of X G z9
  · exact PySem.W.mg_none_of X G z10
  · exact PySem.W.mg_none_of X G z11
  · exact PySem.W.mg_none_of X G z12
  · exact PySem.W.mg_none_of X G z13
  · exact PySem.W.mg_none_of X G z14
  · exact PySem.W.mg_none_of X G z15
  · exact PySem.W.mg_none_of X G z16
  · exact PySem.W.mg_none_of X G z17
/-- law's own call: the promise of a def d is the promise at its address -/
theorem law_at {P : Program} {w : World} {K : PySem.W.Frag} {mg : Str → Option Value} {fa : Addr} {st : Stmt} {k : Nat} {sp : Sp} {x : Str} (hfa : mg "law" = some (.ref fa)) (d : Dn K mg "law" st [x]) (F : ∀ base : Heap, FnOk P w K mg base CX0 k d.f d.fd [x] sp) :
    ∃ fd : FuncData, (∀ (s : Shared) (u : Value), BindsTo s fd ⟨[u], []⟩ [(x, u)]) ∧ ∀ base : Heap, K.In base → base.Ns mainGlobals mg → FnOk P w K mg base CX0 k fa fd [x] sp := by
  have e : fa = d.f := by
    have := hfa.symm.trans d.m
    have := Option.some.inj this
    cases this
    rfl
  subst e
  exact ⟨d.fd, fun s u => d.bd s [u] rfl, fun base _ _ => F base⟩
end L2

namespace L2
open PySem PySem.Spec PyProof.Rows
/-! ### for k, x in enumerate(xs) -/
def Ite (K : PySem.W.Frag) (a : Addr) : It :=
  ⟨fun i H => ∃ xs x, SqL K H a xs ∧ xs[i]? = some x, fun i H x H' => ∃ p y, x = .ref p ∧ New H p (.tup [.int i, y]) H' ∧ ∀ xs, SqL K H a xs → xs[i]? = some y, fun i H => ∃ xs, SqL K H a xs ∧ xs.length ≤ i⟩
theorem turn_enum {P : Program} {w : World} {K : PySem.W.Frag} {elts : List Expr} {k : Nat} {pos : Pos} (a it e : Addr) (hei : e ≠ it) : Turn P w K (.Tuple elts k pos) (Ite K a) [e, it] e (fun i h => (∃ old, IsEnum h e it i old) ∧ h.IsListIter it a i) where
  mem := by simp
  obj := fun i h st b hb => by
    obtain ⟨⟨old, he⟩, hit⟩ := st
    rcases List.mem_cons.mp hb with rfl | hb
    · exact ⟨_, he, fun v z => by
        have z' : Data.fields _ = Data.cell v := z
        cases z'⟩
    · rw [List.mem_singleton.mp hb]
      obtain ⟨o, e1, c, d⟩ := hit
      exact ⟨o, e1, fun v z => by rw [d] at z; cases z⟩
  keep := fun i h h' st kk => by
    obtain ⟨⟨old, he⟩, hit⟩ := st
    exact ⟨⟨old, kk e (by simp) _ he⟩, hit.at fun o q => kk it (by simp) o q⟩
  item := by
    intro X hP hw hK hc i pins s σ H E I hf st hg
    subst hP hw hK
    obtain ⟨xs, x, hq, hx⟩ := hg
    obtain ⟨its, rv, pl, hz⟩ := I.list hq
    obtain ⟨u, hu, ru⟩ := rv.get hx
    obtain ⟨⟨old, he⟩, hit⟩ := st
    obtain ⟨f0, f1, f2, f3, f4, f5⟩ := hf e (by simp)
    obtain ⟨g0, g1, g2, g3, g4, g5⟩ := hf it (by simp)
    refine wpAny_pyNext_enum_item he hit pl.isList (x := u) (by simpa using hu) hei fun h' ho hit' hT hsz hk => ?_
    refine ⟨_, rfl, wpAny_letOwnedTupleGo_enum ho fun h2 he2 hs2 => ?_⟩
    have eT : s.heap.objs.size ≠ e := Nat.ne_of_gt (Heap.lt_size he)
    have iT : s.heap.objs.size ≠ it := by
      obtain ⟨o, e1, _⟩ := hit
      exact Nat.ne_of_gt (Heap.lt_size e1)
    have hT2 : h2.get? s.heap.objs.size = some { cls := .type "tuple", data := .seq #[.int i s.toks, u] } := (hs2.2 _ eT).trans hT
    have kp : ∀ b o, b ≠ e → b ≠ it → s.heap.get? b = some o → h2.get? b = some o := fun b o h1 h2' q => (hs2.2 b h1).trans (hk b o h1 h2' q)
    have I1 : Inv X pins σ H { s with heap := h2, toks := s.toks + 1 } := by
      refine I.step (g' := s.gens) (d' := s.drawn) (H' := H) (ch := [e, it]) (fun b hb => ?_) (fun b o _ _ hc q _ => kp b o (fun z => hc (by simp [z])) (fun z => hc (by simp [z])) q) (fun b o _ _ hc q _ => ⟨o.slots, kp b o (fun z => hc (by simp [z])) (fun z => hc (by simp [z])) q⟩) (fun _ _ _ _ n => n)
        (fun b o hc q => ⟨o, kp b o (fun z => hc (by simp [z])) (fun z => hc (by simp [z])) q⟩) (fun _ _ q => q) (fun _ _ _ q => q) (fun b ps q => ⟨#[], by rw [q]; simp⟩) (fun m hm => ?_) (fun b o q => ?_) I.bare
      · rcases List.mem_cons.mp hb with rfl | hb
        · exact ⟨f3, f1, f4, f5⟩
        · rw [List.mem_singleton.mp hb]; exact ⟨g3, g1, g4, g5⟩
      · obtain ⟨o, es, ep, q, r⟩ := hm
        exact ⟨o, es, ep, kp _ o (Ne.symm f1) (Ne.symm g1) q, r⟩
      · have nb : ∀ c v, H c = some v → c ≠ e ∧ c ≠ it := fun c v q => ⟨ne_of_none q f0, ne_of_none q g0⟩
        refine (I.hok b o q).stay (fun c v hcc r => kp c v ?_ ?_ r) (fun _ q => q) fun _ _ q => q
        · rcases hcc with z | z
          · rw [z]; exact (nb b o q).1
          · exact (nb c _ z).1
        · rcases hcc with z | z
          · rw [z]; exact (nb b o q).2
          · exact (nb c _ z).2
    have hfree : H s.heap.objs.size = none := I.hok.fresh (Nat.le_refl _)
    have I2 : Inv X pins σ (upd H s.heap.objs.size (.tup [.int i, x])) { s with heap := h2, toks := s.toks + 1 } := by
      refine Inv.track I1 hfree I.sz (Nat.ne_of_gt I.lt) (fun y c q => ?_) (fun p hp => Nat.ne_of_lt (Heap.lt_size (I.pin p hp).1)) ?_
      · obtain ⟨v, oc, q1, _⟩ := I.cell y c q
        exact Nat.ne_of_lt (Heap.lt_size q1)
      · exact ⟨(by show 2 ≤ sizeLine; decide), [.int i s.toks, u], .cons ⟨_, rfl⟩ (.cons ru .nil), ⟨_, hT2, rfl, _, rfl⟩⟩
    refine ⟨.ref s.heap.objs.size, _, I2, rfl, ⟨_, x, rfl, New.mk0 hfree, fun ys hy => by rw [I.list_inj hy hq]; exact hx⟩, ⟨⟨u, ?_⟩, hit'.at fun o q => (hs2.2 it (Ne.symm hei)).trans q⟩, fun b hb => ?_⟩
    · have e1 : ((i + 1 : Nat) : Int) = (i : Int) + 1 := by omega
      show IsEnum h2 e it ((i + 1 : Nat) : Int) u
      rw [e1]; exact he2
    · rcases List.mem_cons.mp hb with rfl | hb
      · rw [upd_ne (Ne.symm eT)]; exact f0
      · rw [List.mem_singleton.mp hb, upd_ne (Ne.symm iT)]; exact g0
  done := by
    intro X hP hw hK hc i pins s σ H E I hf st hg
    subst hP hw hK
    obtain ⟨xs, hq, hx⟩ := hg
    obtain ⟨its, rv, pl, hz⟩ := I.list hq
    obtain ⟨⟨old, he⟩, hit⟩ := st
    obtain ⟨g0, g1, g2, g3, g4, g5⟩ := hf it (by simp)
    have hl := rv.length
    exact wpAny_pyNext_enum_end (I.ok.hd hc) he hit pl.isList (by simp; omega) fun h' eb => ⟨rfl, I.turned (t' := s.toks) (fun b o hb q => eb b o hb q) g0 g1 g3 g4 g5⟩
  self := fun _ _ _ _ _ st h => by
    obtain ⟨⟨old, he⟩, _⟩ := st
    exact wpAny_pyIter_enum he h
section
variable {X : Cx} {K : PySem.W.Frag}
def iEnum (K : PySem.W.Frag) (ta : TA) : TI := fun σ H R => ta σ H fun vs H1 => ∃ a, vs = [.ref a] ∧ (∃ xs, SqL K H1 a xs) ∧ R (Ite K a) H1
theorem pi_enum {elts : List Expr} {k : Nat} {tpos : Pos} {l : Expr} {ta : TA} {p pos : Pos} (e0 : X.K = K) (hg : Gl X "enumerate") (hm : X.mg "enumerate" = none) (ha : PA X [l] ta) (hs : starEach [l] X.env = [(false, eval l X.env)] := by rfl) :
    PI X (.Tuple elts k tpos) (.Call (.Name "enumerate" p) [l] [] pos) (iEnum K ta) := by
  subst e0
  intro pins s σ H R I h
  refine wpAny_Call_Name_kw (ld_blt I hg hm boot_enumerate ?_)
  refine PyProof.Rows.callWith_type1 (thn (ha pos pins s σ H _ I h) fun us s1 ⟨vs, H1, I1, r1, q1⟩ => ?_) hs (by rfl)
  obtain ⟨a, e, ⟨xs, hq⟩, q⟩ := q1
  subst e
  obtain ⟨u, rfl, ru⟩ := vals1 r1
  cases ru
  obtain ⟨its, rv, pl, hz⟩ := I1.list hq
  refine call_enumerate_list pl.isList fun h' he hit hsz hk => ?_
  refine wpAny_pyIter_enum he ?_
  have I2 : Inv X pins σ H1 { s1 with heap := h' } := I1.kept (t' := s1.toks) hk
  refine ⟨s1.heap.objs.size + 1, [s1.heap.objs.size + 1, s1.heap.objs.size], _, _, H1, rfl, I2, turn_enum a s1.heap.objs.size (s1.heap.objs.size + 1) (Nat.ne_of_gt (Nat.lt_succ_self _)), ⟨⟨_, he⟩, hit⟩, fun b hb => ?_, q⟩
  have hb' : s1.heap.objs.size ≤ b := by
    rcases List.mem_cons.mp hb with rfl | hb
    · exact Nat.le_succ _
    · rw [List.mem_singleton.mp hb]; exact Nat.le_refl _
  exact I1.fpOk hb' (I1.hok.fresh hb')
end
/-- over a list that the body leaves as it is -/
theorem for_enum {K : PySem.W.Frag} {a : Addr} {xs : List V} {g : TG} {tb : TS} {D : Ends} {σ : St} {H : Hp} (Pv : Nat → St → Hp → Prop) (h0 : Pv 0 σ H) (hl : ∀ i σ H, i ≤ xs.length → Pv i σ H → SqL K H a xs)
    (hs : ∀ (i : Nat) x σ H p H', xs[i]? = some x → Pv i σ H → New H p (.tup [.int i, x]) H' → g (.ref p) σ H' fun σ2 H2 => tb { D with nx := Pv (i + 1), ct := Pv (i + 1), bk := D.nx } σ2 H2) (hd : ∀ σ H, Pv xs.length σ H → D.nx σ H) :
    ∃ W : Nat → Nat → St → Hp → Prop, (∃ m, W 0 m σ H) ∧ ∀ i m σ H, W i m σ H →
      ((Ite K a).stop i H ∧ D.nx σ H) ∨ ((Ite K a).go i H ∧ ∃ N : St → Hp → Prop, (∀ σ' H', N σ' H' → ∃ m', m' < m ∧ W (i + 1) m' σ' H') ∧ ∀ x H', (Ite K a).yld i H x H' → g x σ H' fun σ2 H2 => tb { D with nx := N, ct := N, bk := D.nx } σ2 H2) := by
  refine ⟨fun i m σ H => m = xs.length - i ∧ i ≤ xs.length ∧ Pv i σ H, ⟨xs.length, by simp, Nat.zero_le _, h0⟩, ?_⟩
  rintro i m σ H ⟨rfl, hi, p⟩
  have q := hl i σ H hi p
  by_cases hlt : i < xs.length
  · refine .inr ⟨⟨xs, xs[i], q, by simp [hlt]⟩, Pv (i + 1), fun σ' H' p' => ⟨xs.length - (i + 1), by omega, rfl, hlt, p'⟩, fun x H' y => ?_⟩
    obtain ⟨pp, y0, rfl, nw, ex⟩ := y
    exact hs i y0 σ H pp H' (ex xs q) p nw
  · have e : i = xs.length := by omega
    subst e
    exact .inl ⟨⟨xs, q, Nat.le_refl _⟩, hd σ H p⟩
end L2

/-! the program's answers as functions, and how rows and graphs lie in the heap -/
namespace Bg
open PySem L2 Lw
abbrev Row := Option Int × List Int
def riseF (ns : List Int) : Bool := (List.range (ns.length - 1)).all fun i => decide (ns.getD i 0 < ns.getD (i + 1) 0)
def setF (n : Int) (ns : List Int) : Bool := (ns.all fun v => decide (0 ≤ v ∧ v < n)) && riseF ns
def belowF (n : Int) : Option Int → Bool
  | none => false
  | some i => decide (0 ≤ i ∧ i < n)
def upOk (k : Nat) (u : Option Int) : Bool := if k = 0 then u.isNone else belowF k u
def rowAt (rs : List Row) (k : Nat) : Row := rs.getD k (none, [])
def rowOk (n : Int) (rs : List Row) (k : Nat) : Bool := upOk k (rowAt rs k).1 && setF n (rowAt rs k).2
def has (v : Int) (r : Row) : Bool := decide (v ∈ r.2)
def heldF (rs : List Row) (u : Option Int) (v : Int) : Bool := match u with
  | none => false
  | some i => has v (rowAt rs i.toNat)
def isTop (rs : List Row) (v : Int) (k : Nat) : Bool := has v (rowAt rs k) && !heldF rs (rowAt rs k).1 v
def topsF (rs : List Row) (v : Int) : List Nat := (List.range rs.length).filter (isTop rs v)
inductive Flt where
  | ok | row (k : Nat) | place (v : Nat) | tie (a b : Int) | apart (v j k : Nat)
  deriving DecidableEq
/-! ### in the heap -/
def upV : Option Int → V
  | none => .non
  | some i => .int i
def RowV (K : PySem.W.Frag) (H : Hp) (v : V) (r : Row) : Prop := ∃ p b, v = .ref p ∧ SqT K H p [upV r.1, .ref b] ∧ SqL K H b (r.2.map V.int) ∧ r.2.length ≤ 1000
def RowsAt (K : PySem.W.Frag) (H : Hp) (a : Addr) (rs : List Row) : Prop := ∃ xs, SqL K H a xs ∧ Paired (RowV K H) xs rs ∧ rs.length ≤ 1000
theorem RowV.same {K : PySem.W.Frag} {H H' : Hp} {v : V} {r : Row} (e : Same H H') (h : RowV K H v r) : RowV K H' v r := by
  obtain ⟨p, b, h1, h2, h3, h4⟩ := h
  exact ⟨p, b, h1, e.tupq h2, e.seq h3, h4⟩
theorem RowsAt.same {K : PySem.W.Frag} {H H' : Hp} {a : Addr} {rs : List Row} (e : Same H H') (h : RowsAt K H a rs) : RowsAt K H' a rs := by
  obtain ⟨xs, h1, h2, h3⟩ := h
  exact ⟨xs, e.seq h1, Paired.mapP h2 fun _ _ q => q.same e, h3⟩
theorem paired_get {α β : Type} {F : α → β → Prop} : ∀ {xs : List α} {ys : List β} {i : Nat} {x : α}, Paired F xs ys → xs[i]? = some x → ∃ y, ys[i]? = some y ∧ F x y
  | _, _, _, _, .nil, h => by simp at h
  | _, _, 0, _, .cons h r, e => by
    simp at e; subst e
    exact ⟨_, rfl, h⟩
  | _, _, i + 1, _, .cons h r, e => by
    obtain ⟨d, e1, q⟩ := paired_get (i := i) r (by simpa using e)
    exact ⟨d, by simpa using e1, q⟩
theorem paired_getr {α β : Type} {F : α → β → Prop} : ∀ {xs : List α} {ys : List β} {i : Nat} {y : β}, Paired F xs ys → ys[i]? = some y → ∃ x, xs[i]? = some x ∧ F x y
  | _, _, _, _, .nil, h => by simp at h
  | _, _, 0, _, .cons h r, e => by
    simp at e; subst e
    exact ⟨_, rfl, h⟩
  | _, _, i + 1, _, .cons h r, e => by
    obtain ⟨d, e1, q⟩ := paired_getr (i := i) r (by simpa using e)
    exact ⟨d, by simpa using e1, q⟩
theorem rowAt_get {rs : List Row} {i : Nat} {r : Row} (h : rs[i]? = some r) : rowAt rs i = r := by
  unfold rowAt; rw [List.getD_eq_getElem?_getD, h]; rfl
theorem rowAt_lt {rs : List Row} {i : Nat} (h : i < rs.length) : rs[i]? = some (rowAt rs i) := by
  unfold rowAt; rw [List.getD_eq_getElem?_getD, List.getElem?_eq_getElem h]; rfl
/-! ### data -/
theorem any_int (ns : List Int) (v : Int) : (ns.map PyData.int).any (fun e => PyData.eqv e (.int v)) = decide (v ∈ ns) := by
  induction ns with
  | nil => rfl
  | cons a r ih =>
    rw [List.map_cons, List.any_cons, ih, PyData.eqv]
    by_cases h : a = v
    · subst h; simp
    · have h' : ¬ v = a := fun z => h z.symm
      simp [h, h']
theorem depth_ints (ns : List Int) : PyData.depthAll (ns.map PyData.int) = 0 := by
  induction ns with
  | nil => rfl
  | cons a r ih => rw [List.map_cons, PyData.depthAll, ih]; rfl
theorem can_ints (ns : List Int) : PyData.canLayAll0 (ns.map PyData.int) = true := by
  induction ns with
  | nil => rfl
  | cons a r ih => rw [List.map_cons, PyData.canLayAll0, ih]; rfl
theorem shaped_ints (ns : List Int) : SeqAt.shaped (.list (ns.map PyData.int)) = true := by
  unfold SeqAt.shaped
  rw [PyData.canLay0, can_ints, PyData.depth, depth_ints]
  decide
/-- v in a list of ints -/
theorem inInts {K : PySem.W.Frag} {H : Hp} {b : Addr} {ns : List Int} {v : Int} {Q : VK} (hS : SqL K H b (ns.map V.int)) (q : Q (.bl (decide (v ∈ ns))) H) : rInD K false (.int v) (.ref b) H Q :=
  ⟨_, _, .int v, .lst hS (IsDs.ints ns), rfl, shaped_ints ns, by rw [any_int]; exact q⟩
theorem notInInts {K : PySem.W.Frag} {H : Hp} {b : Addr} {ns : List Int} {v : Int} {Q : VK} (hS : SqL K H b (ns.map V.int)) (q : Q (.bl (!decide (v ∈ ns))) H) : rInD K true (.int v) (.ref b) H Q :=
  ⟨_, _, .int v, .lst hS (IsDs.ints ns), rfl, shaped_ints ns, by rw [any_int]; exact q⟩
end Bg

namespace L2
open PySem PySem.Spec PyProof.Rows
theorem Same.chg {H H' : Hp} {l : Addr} {o : HO} {H0 : Hp} (s : Same H0 H) (h0 : H0 l = none) (c : Chg H l o H') : Same H0 H' := fun b u e => (c.rest b (ne_of_none e h0)).trans (s b u e)
end L2
namespace Bg
open PySem L2 Lw
/-! ### sets of places -/
theorem rise_cons (a b : Int) (r : List Int) : riseF (a :: b :: r) = (decide (a < b) && riseF (b :: r)) := by
  unfold riseF
  have e : (a :: b :: r).length - 1 = (b :: r).length - 1 + 1 := by simp
  rw [e, List.range_succ_eq_map, List.all_cons, List.all_map]
  rfl
theorem rise_iff : ∀ ls : List Int, riseF ls = true ↔ ls.Pairwise (· < ·)
  | [] => by simp [riseF]
  | [a] => by simp [riseF]
  | a :: b :: r => by
    rw [rise_cons, Bool.and_eq_true, rise_iff (b :: r), decide_eq_true_iff, List.pairwise_cons (a := a)]
    constructor
    · rintro ⟨h1, h2⟩
      refine ⟨fun c hc => ?_, h2⟩
      rcases List.mem_cons.mp hc with rfl | hc
      · exact h1
      · exact Int.lt_trans h1 ((List.pairwise_cons.mp h2).1 c hc)
    · rintro ⟨h1, h2⟩
      exact ⟨h1 b List.mem_cons_self, h2⟩
theorem set_iff (n : Int) (ls : List Int) : setF n ls = true ↔ (∀ v ∈ ls, 0 ≤ v ∧ v < n) ∧ ls.Pairwise (· < ·) := by
  unfold setF
  rw [Bool.and_eq_true, rise_iff, List.all_eq_true]
  constructor
  · rintro ⟨h1, h2⟩
    exact ⟨fun v hv => of_decide_eq_true (h1 v hv), h2⟩
  · rintro ⟨h1, h2⟩
    exact ⟨fun v hv => decide_eq_true (h1 v hv), h2⟩
/-! ### rows and ties as they are made -/
def RowL (l : Addr) (H : Hp) (v : V) (r : Row) : Prop := ∃ p b, v = .ref p ∧ H p = some (.tup [upV r.1, .ref b]) ∧ H b = some (.lst (r.2.map V.int)) ∧ b ≠ l ∧ r.2.length ≤ 1000
theorem RowL.v {K : PySem.W.Frag} {l : Addr} {H : Hp} {v : V} {r : Row} (h : RowL l H v r) : RowV K H v r := by
  obtain ⟨p, b, e, q1, q2, _, z⟩ := h
  exact ⟨p, b, e, SqT.of q1, SqL.of q2, z⟩
theorem RowL.same {l : Addr} {H H' : Hp} {v : V} {r : Row} (s : Same H H') (h : RowL l H v r) : RowL l H' v r := by
  obtain ⟨p, b, e, q1, q2, n, z⟩ := h
  exact ⟨p, b, e, s _ _ q1, s _ _ q2, n, z⟩
theorem RowL.chg {H H' : Hp} {l : Addr} {xs ys : List V} {v : V} {r : Row} (hl : H l = some (.lst xs)) (c : Chg H l (.lst ys) H') (h : RowL l H v r) : RowL l H' v r := by
  obtain ⟨p, b, e, q1, q2, n, z⟩ := h
  exact ⟨p, b, e, (c.rest p (ne_of q1 hl (by intro z; cases z))).trans q1, (c.rest b n).trans q2, n, z⟩
theorem paired_snoc {α β : Type} {F : α → β → Prop} : ∀ {xs : List α} {ys : List β} {x : α} {y : β}, Paired F xs ys → F x y → Paired F (xs ++ [x]) (ys ++ [y])
  | _, _, _, _, .nil, h => .cons h .nil
  | _, _, _, _, .cons h r, q => .cons h (paired_snoc r q)
/-! ### data -/
end Bg

set_option maxHeartbeats 4100000
namespace L2
open PySem PySem.Spec PyProof.Rows
section
variable {X : Cx} {K : PySem.W.Frag} {a b : Expr} {rest : List Expr} {pos : Pos} {ta tb : TE}
end
end L2

set_option maxHeartbeats 4100000
namespace L2
open PySem PySem.Spec PyProof.Rows
section
variable {K : PySem.W.Frag} {a : Addr} {xs : List V} {ix : List (Option Nat)} {g : TG} {tt : TT} {te : TE} {σ : St} {H1 : Hp} {Q : VK}
end
section
variable {X : Cx} {K : PySem.W.Frag}
end
end L2

namespace Srt
open PySem PySem.W PyProof.Rows
section
variable {n : Nat} {key : Nat → Int} {α β : Type}
end
end Srt

set_option maxHeartbeats 4100000
namespace Srt
open PySem PyProof.Rows PySem.Calls PySem.W
section
variable {prog : Program} {wo : World} {A : Around} {E : Value → Shared → Prop} {s : Shared}
end
end Srt

set_option maxHeartbeats 4100000
namespace Srt
open PySem PyProof.Rows PySem.Calls PySem.W
/-! ### lists of ints by their order: a rank -/
/-! ### tuples of ints -/
section
variable {prog : Program} {w : World} {A : Around} {E : Value → Shared → Prop} {s : Shared} {Q : Bool → Shared → Prop}
end
end Srt

set_option maxHeartbeats 4100000
namespace L2
open PySem PySem.Spec PyProof.Rows Bg Srt
theorem ints_of : ∀ {ns : List Int} {us : List Value}, Vals (ns.map V.int) us → IntsAre us ns
  | [], _, .nil => .nil
  | n :: ns, _, .cons r t => by
    obtain ⟨k, rfl⟩ := r
    exact .cons n k (ints_of t)
section
variable {X : Cx} {K : PySem.W.Frag}
end
end L2

set_option maxHeartbeats 4100000
namespace L2
open PySem PySem.Spec PyProof.Rows
section
variable {X : Cx} {K : PySem.W.Frag}
end
theorem cut_mid (us : List Int) (i j : Nat) : cutV (us.map V.int) (some (i : Int)) (some ((i + j : Nat) : Int)) = ((us.drop i).take j).map V.int := by
  unfold cutV
  rw [HT.sIx_nat, HT.sIx_nat, List.length_map, ← List.map_drop, ← List.map_take]
  congr 1
  rcases Nat.lt_or_ge us.length i with c | c
  · have e1 : min i us.length = us.length := by omega
    rw [e1, List.drop_of_length_le (Nat.le_refl _), List.drop_of_length_le (by omega)]
    simp
  · have e1 : min i us.length = i := by omega
    rw [e1]
    rcases Nat.lt_or_ge us.length (i + j) with d | d
    · have e2 : min (i + j) us.length = us.length := by omega
      rw [e2, List.take_of_length_le (by rw [List.length_drop]; omega), List.take_of_length_le (by rw [List.length_drop]; omega)]
    · have e2 : min (i + j) us.length = i + j := by omega
      rw [e2]
      congr 1
      omega
end L2

set_option maxHeartbeats 1000000
namespace Sm
open PySem

def BelowOk (xs : Array Nat) (j k : Nat) : Prop := k ≤ xs.size ∧ ∀ i (h : i < xs.size), xs[i] < j ↔ i < k

theorem up_lt {xs : Array Nat} (h : xs.toList.Pairwise (· < ·)) {i k : Nat} (hi : i < xs.size) (hk : k < xs.size) (ik : i < k) : xs[i] < xs[k] := by
  have := List.pairwise_iff_getElem.mp h i k (by simpa using hi) (by simpa using hk) ik
  simpa using this

theorem go_ok {xs : Array Nat} {j : Nat} (h : xs.toList.Pairwise (· < ·)) : ∀ (fuel lo hi : Nat), hi - lo ≤ fuel → lo ≤ hi → hi ≤ xs.size →
    (∀ i (z : i < xs.size), i < lo → xs[i] < j) → (∀ i (z : i < xs.size), hi ≤ i → j ≤ xs[i]) → BelowOk xs j (SetTable.below.go xs j fuel lo hi) := by
  intro fuel
  induction fuel with
  | zero =>
    intro lo hi a b c d e
    unfold SetTable.below.go
    have : lo = hi := by omega
    subst this
    exact ⟨c, fun i z => ⟨fun q => by
      rcases Nat.lt_or_ge i lo with g | g
      · exact g
      · have := e i z g
        omega, fun q => d i z q⟩⟩
  | succ f ih =>
    intro lo hi a b c d e
    unfold SetTable.below.go
    by_cases q : lo < hi
    · rw [if_pos q]
      dsimp only
      have m1 : lo ≤ (lo + hi) / 2 := by omega
      have m2 : (lo + hi) / 2 < hi := by omega
      have m3 : (lo + hi) / 2 < xs.size := by omega
      have ge : xs.getD ((lo + hi) / 2) j = xs[(lo + hi) / 2] := by simp [Array.getD, m3]
      rw [ge]
      by_cases r : xs[(lo + hi) / 2] < j
      · rw [if_pos r]
        refine ih _ _ (by omega) (by omega) c (fun i z hi' => ?_) e
        rcases Nat.lt_or_ge i ((lo + hi) / 2) with g | g
        · have := up_lt h z m3 g
          omega
        · have : i = (lo + hi) / 2 := by omega
          subst this
          exact r
      · rw [if_neg r]
        refine ih _ _ (by omega) (by omega) (by omega) d (fun i z hi' => ?_)
        rcases Nat.lt_or_ge ((lo + hi) / 2) i with g | g
        · have := up_lt h m3 z g
          omega
        · have : i = (lo + hi) / 2 := by omega
          subst this
          omega
    · rw [if_neg q]
      have : lo = hi := by omega
      subst this
      exact ⟨c, fun i z => ⟨fun q => by
        rcases Nat.lt_or_ge i lo with g | g
        · exact g
        · have := e i z g
          omega, fun q => d i z q⟩⟩

theorem below_ok {xs : Array Nat} (h : xs.toList.Pairwise (· < ·)) (j : Nat) : BelowOk xs j (SetTable.below xs j) :=
  go_ok h _ _ _ (by omega) (Nat.zero_le _) (Nat.le_refl _) (fun i z q => absurd q (Nat.not_lt_zero _)) (fun i z q => absurd z (by omega))

theorem below_at {xs : Array Nat} (h : xs.toList.Pairwise (· < ·)) {k : Nat} (hk : k < xs.size) : SetTable.below xs (xs[k]) = k := by
  obtain ⟨a, b⟩ := below_ok h xs[k]
  rcases Nat.lt_trichotomy (SetTable.below xs xs[k]) k with g | g | g
  · have c := (b (SetTable.below xs xs[k]) (by omega)).mp (up_lt h (by omega) hk g)
    omega
  · exact g
  · have c := (b k hk).mpr g
    omega

theorem below_zero {xs : Array Nat} (h : xs.toList.Pairwise (· < ·)) : SetTable.below xs 0 = 0 := by
  obtain ⟨a, b⟩ := below_ok h 0
  rcases Nat.eq_zero_or_pos (SetTable.below xs 0) with g | g
  · exact g
  · have := (b 0 (by omega)).mpr g
    omega

theorem below_next {xs : Array Nat} (h : xs.toList.Pairwise (· < ·)) {k : Nat} (hk : k < xs.size) : SetTable.below xs (xs[k] + 1) = k + 1 := by
  obtain ⟨a, b⟩ := below_ok h (xs[k] + 1)
  have c := (b k hk).mp (by omega)
  rcases Nat.lt_or_ge (k + 1) (SetTable.below xs (xs[k] + 1)) with g | g
  · have e := (b (k + 1) (by omega)).mpr g
    have := up_lt h hk (show k + 1 < xs.size by omega) (Nat.lt_succ_self _)
    omega
  · omega

theorem has_nil (j : Nat) : SetTable.has #[] j = false := by
  unfold SetTable.has
  simp

theorem slot_empty {t : SetTable} (dm : t.dummies = #[]) {j : Nat} (h : j ∉ t.place.toList) : t.slot j = .empty := by
  unfold SetTable.slot
  have e : (t.place[SetTable.below t.place j]? == some j) = false := by
    rw [beq_eq_false_iff_ne]
    intro c
    exact h (by simpa using Array.mem_of_getElem? c)
  dsimp only
  rw [e, dm, has_nil]
  rfl
theorem slot_live {t : SetTable} (up : t.place.toList.Pairwise (· < ·)) {j : Nat} (h : j ∈ t.place.toList) : ∃ i, t.slot j = .live i := by
  obtain ⟨k, hk, e⟩ := List.getElem_of_mem h
  have hk' : k < t.place.size := by simpa using hk
  have e' : t.place[k] = j := by simpa using e
  unfold SetTable.slot
  have q : SetTable.below t.place j = k := by rw [← e']; exact below_at up hk'
  dsimp only
  rw [q]
  have : (t.place[k]? == some j) = true := by simp [hk', e']
  rw [this]
  exact ⟨k, rfl⟩

/-- the going on of a search, by the mask alone -/
def adv (mask : Nat) (p : SetTable.Probe) : SetTable.Probe :=
  if 0 < p.more then { p with more := p.more - 1, j := p.j + 1 } else
  { p with j := (SetTable.leap mask p.i p.perturb).1, more := SetTable.runEnd mask (SetTable.leap mask p.i p.perturb).1 - (SetTable.leap mask p.i p.perturb).1, i := (SetTable.leap mask p.i p.perturb).1, perturb := (SetTable.leap mask p.i p.perturb).2 }
theorem adv_eq (t : SetTable) (p : SetTable.Probe) : t.advance p = adv t.mask p := by
  unfold SetTable.advance adv
  rfl
def nth (mask : Nat) (p : SetTable.Probe) : Nat → SetTable.Probe
  | 0 => p
  | k + 1 => nth mask (adv mask p) k
theorem adv_dummy (m : Nat) (p : SetTable.Probe) : (adv m p).dummy = p.dummy := by
  unfold adv
  split <;> rfl
theorem go_finds {t : SetTable} (dm : t.dummies = #[]) (up : t.place.toList.Pairwise (· < ·)) (h : Int) : ∀ (k fuel : Nat) (p : SetTable.Probe), k < fuel → p.dummy = none → (nth t.mask p k).j ∉ t.place.toList →
    ∃ j, j ∉ t.place.toList ∧ SetTable.probe.go t (fun _ => h + 1) h fuel p = some (.empty j none) := by
  intro k
  induction k with
  | zero =>
    intro fuel p hf hd hn
    obtain ⟨f, rfl⟩ : ∃ f, fuel = f + 1 := ⟨fuel - 1, by omega⟩
    unfold SetTable.probe.go
    have hn' : p.j ∉ t.place.toList := hn
    refine ⟨p.j, hn', ?_⟩
    rw [slot_empty dm hn', hd]
  | succ k ih =>
    intro fuel p hf hd hn
    obtain ⟨f, rfl⟩ : ∃ f, fuel = f + 1 := ⟨fuel - 1, by omega⟩
    unfold SetTable.probe.go
    by_cases c : p.j ∈ t.place.toList
    · obtain ⟨i, e⟩ := slot_live up c
      rw [e]
      dsimp only
      have : (h + 1 == h) = false := by rw [beq_eq_false_iff_ne]; omega
      rw [this]
      rw [adv_eq]
      exact ih f (adv t.mask p) (by omega) (by rw [adv_dummy]; exact hd) hn
    · rw [slot_empty dm c, hd]
      exact ⟨p.j, c, rfl⟩
def start7 (v : Nat) : SetTable.Probe := { j := v % 8, more := 0, i := v % 8, perturb := v, dummy := none }
theorem seven : ∀ v, v < 16 → ∀ j, j < 8 → ∃ k, k < 16 ∧ (nth 7 (start7 v) k).j = j := by decide +kernel
theorem bits_of {v : Nat} (h : v < 16) : SetTable.bits (v : Int) = v := by
  unfold SetTable.bits
  omega
theorem free_of {t : SetTable} (dm : t.dummies = #[]) (up : t.place.toList.Pairwise (· < ·)) {v k : Nat} (hk : k < 10 * SetTable.turns t.mask) (hn : (nth t.mask (t.probeStart (v : Int)) k).j ∉ t.place.toList) :
    ∃ j, j ∉ t.place.toList ∧ t.freeSlot (v : Int) = some (j, false) := by
  obtain ⟨j, hj, e⟩ := go_finds dm up (v : Int) k (10 * SetTable.turns t.mask) (t.probeStart (v : Int)) hk rfl hn
  refine ⟨j, hj, ?_⟩
  unfold SetTable.freeSlot SetTable.probe
  rw [e]
  rfl
theorem len_le : ∀ (l m : List Nat), l.Nodup → (∀ x ∈ l, x ∈ m) → l.length ≤ m.length
  | [], _, _, _ => Nat.zero_le _
  | a :: r, m, nd, h => by
    have am : a ∈ m := h a List.mem_cons_self
    obtain ⟨n1, n2⟩ := List.nodup_cons.mp nd
    have q := len_le r (m.erase a) n2 fun x hx => (List.mem_erase_of_ne (fun e => n1 (by rw [← e]; exact hx))).mpr (h x (List.mem_cons_of_mem _ hx))
    rw [List.length_erase_of_mem am] at q
    have := List.length_pos_of_mem am
    rw [List.length_cons]
    omega
theorem pigeon {l : List Nat} (h : l.length ≤ 4) : ∃ j, j < 8 ∧ j ∉ l := by
  apply Classical.byContradiction
  intro c
  have q : ∀ j, j < 8 → j ∈ l := fun j hj => Classical.byContradiction fun d => c ⟨j, hj, d⟩
  have := len_le (List.range 8) l List.nodup_range (fun j hj => q j (List.mem_range.mp hj))
  rw [List.length_range] at this
  omega
theorem own_free {t : SetTable} (dm : t.dummies = #[]) {v : Nat} (hv : v < 16) (hm : 15 ≤ t.mask) (hn : v ∉ t.place.toList) : t.freeSlot (v : Int) = some (v, false) := by
  unfold SetTable.freeSlot SetTable.probe
  have e : (t.probeStart (v : Int)).j = v := by
    unfold SetTable.probeStart
    dsimp only
    rw [bits_of hv]
    exact Nat.mod_eq_of_lt (by omega)
  obtain ⟨f, hf⟩ : ∃ f, 10 * SetTable.turns t.mask = f + 1 := ⟨10 * SetTable.turns t.mask - 1, by unfold SetTable.turns; omega⟩
  rw [hf]
  unfold SetTable.probe.go
  rw [e, slot_empty dm hn]
  rfl

def Es (es : Array (Int × Value)) (L : List Nat) : Prop := Paired (fun e v => e.1 = ((v : Nat) : Int) ∧ ∃ tk, e.2 = Value.int ((v : Nat) : Int) tk) es.toList L
structure Tb (B : Bool) (t : SetTable) (L : List Nat) : Prop where
  dm : t.dummies = #[]
  pl : t.plain = true
  led : t.led = !B
  up : t.place.toList.Pairwise (· < ·)
  sz : t.place.size = L.length
  nd : L.Nodup
  lt : ∀ v ∈ L, v < 16
  sh : (t.mask = 7 ∧ L.length ≤ 4) ∨ (15 ≤ t.mask ∧ t.place.toList = L ∧ L.length * 5 < t.mask * 3)

theorem ins_up {xs : Array Nat} (up : xs.toList.Pairwise (· < ·)) {j : Nat} (h : j ∉ xs.toList) : (SetTable.insertAt xs (SetTable.below xs j) j).toList.Pairwise (· < ·) := by
  obtain ⟨a, b⟩ := below_ok up j
  rw [SetTable.toList_insertAt]
  have z : ∀ i (hi : i < xs.toList.length), xs.toList[i] < j ↔ i < SetTable.below xs j := fun i hi => by
    have := b i (by simpa using hi)
    simpa using this
  rw [List.pairwise_append]
  refine ⟨up.sublist (List.take_sublist _ _), ?_, ?_⟩
  · rw [List.pairwise_cons]
    refine ⟨fun y hy => ?_, up.sublist (List.drop_sublist _ _)⟩
    obtain ⟨i, hi, e⟩ := List.getElem_of_mem hy
    rw [List.getElem_drop] at e
    have hl : SetTable.below xs j + i < xs.toList.length := by rw [List.length_drop] at hi; omega
    have q := z _ hl
    rw [e] at q
    have ne : y ≠ j := fun c => h (by rw [← c, ← e]; exact List.getElem_mem hl)
    rcases Nat.lt_or_ge y j with g | g
    · have := q.mp g
      omega
    · omega
  · intro x hx y hy
    obtain ⟨i, hi, e⟩ := List.getElem_of_mem hx
    rw [List.getElem_take] at e
    have hl : i < xs.toList.length := by rw [List.length_take] at hi; omega
    have hb : i < SetTable.below xs j := by rw [List.length_take] at hi; omega
    have x1 : x < j := by rw [← e]; exact (z i hl).mpr hb
    rcases List.mem_cons.mp hy with rfl | hy
    · exact x1
    · obtain ⟨k, hk, e2⟩ := List.getElem_of_mem hy
      rw [List.getElem_drop] at e2
      have hl2 : SetTable.below xs j + k < xs.toList.length := by rw [List.length_drop] at hk; omega
      have q := z _ hl2
      rw [e2] at q
      rcases Nat.lt_or_ge y j with g | g
      · have := q.mp g
        omega
      · omega

theorem Es.len {es : Array (Int × Value)} {L : List Nat} (h : Es es L) : es.size = L.length := by
  have := Paired.length h
  simpa using this
theorem paired_take {α β : Type} {R : α → β → Prop} : ∀ {xs : List α} {ys : List β} (n : Nat), Paired R xs ys → Paired R (xs.take n) (ys.take n)
  | _, _, 0, _ => .nil
  | _, _, _ + 1, .nil => .nil
  | _, _, n + 1, .cons r t => .cons r (paired_take n t)
theorem paired_drop {α β : Type} {R : α → β → Prop} : ∀ {xs : List α} {ys : List β} (n : Nat), Paired R xs ys → Paired R (xs.drop n) (ys.drop n)
  | _, _, 0, r => r
  | _, _, _ + 1, .nil => .nil
  | _, _, n + 1, .cons _ t => paired_drop n t
theorem paired_app {α β : Type} {R : α → β → Prop} : ∀ {xs xs' : List α} {ys ys' : List β}, Paired R xs ys → Paired R xs' ys' → Paired R (xs ++ xs') (ys ++ ys')
  | _, _, _, _, .nil, s => s
  | _, _, _, _, .cons r t, s => .cons r (paired_app t s)
theorem paired_get {α β : Type} {R : α → β → Prop} : ∀ {xs : List α} {ys : List β}, Paired R xs ys → ∀ (i : Nat) (h : i < ys.length), ∃ x, xs[i]? = some x ∧ R x ys[i]
  | _, _, .nil, i, h => by simp at h
  | _, _, .cons r t, 0, h => ⟨_, rfl, r⟩
  | _, _, .cons r t, i + 1, h => by
    obtain ⟨x, e, q⟩ := paired_get t i (by simpa using h)
    exact ⟨x, by simpa using e, by simpa using q⟩

/-- one more laid -/
theorem lay_ok {B : Bool} {t : SetTable} {L : List Nat} {es : Array (Int × Value)} {v : Nat} {x : Value} (T : Tb B t L) (hE : Es es L) (hv : v < 16) (hn : v ∉ L) (hx : ∃ tk, x = Value.int ((v : Nat) : Int) tk) :
    ∃ t1 es1 p, layNew t es ((v : Nat) : Int) x = (es1, t1, false, false) ∧ Es es1 (L.take p ++ v :: L.drop p) ∧ t1.dummies = #[] ∧ t1.plain = true ∧ (t1.led = !B) ∧ t1.mask = t.mask ∧ t1.finger = t.finger ∧ t1.moves = t.moves ∧
      t1.place.toList.Pairwise (· < ·) ∧ t1.place.size = L.length + 1 ∧ (15 ≤ t.mask → t1.place.toList = L.take p ++ v :: L.drop p) := by
  have main : ∃ j, j ∉ t.place.toList ∧ t.freeSlot ((v : Nat) : Int) = some (j, false) ∧ (15 ≤ t.mask → j = v) := by
    rcases T.sh with ⟨m7, l4⟩ | ⟨m15, pe, fl⟩
    · have lp : t.place.toList.length ≤ 4 := by rw [Array.length_toList, T.sz]; exact l4
      obtain ⟨j, hj, nj⟩ := pigeon lp
      obtain ⟨k, hk, e⟩ := seven v hv j hj
      have st : t.probeStart ((v : Nat) : Int) = start7 v := by
        unfold SetTable.probeStart start7
        rw [bits_of hv, m7]
        unfold SetTable.runEnd
        have : ¬ v % (7 + 1) + 9 ≤ 7 := by omega
        simp only [if_neg this]
        simp
      obtain ⟨j', hj', e'⟩ := free_of (v := v) (k := k) T.dm T.up (by unfold SetTable.turns; omega) (by rw [st, m7, e]; exact nj)
      exact ⟨j', hj', e', fun c => by omega⟩
    · have nv : v ∉ t.place.toList := by rw [pe]; exact hn
      exact ⟨v, nv, own_free T.dm hv m15 nv, fun _ => rfl⟩
  obtain ⟨j, nj, ef, ej⟩ := main
  have sz1 : (SetTable.insertAt t.place (SetTable.below t.place j) j).size = L.length + 1 := by
    have := congrArg List.length (SetTable.toList_insertAt t.place (SetTable.below t.place j) j)
    rw [Array.length_toList] at this
    rw [this, List.length_append, List.length_cons, List.length_take, List.length_drop, Array.length_toList, T.sz]
    omega
  have es1 : (SetTable.insertAt es (SetTable.below t.place j) (((v : Nat) : Int), x)).size = L.length + 1 := by
    have := congrArg List.length (SetTable.toList_insertAt es (SetTable.below t.place j) (((v : Nat) : Int), x))
    rw [Array.length_toList] at this
    rw [this, List.length_append, List.length_cons, List.length_take, List.length_drop, Array.length_toList, hE.len]
    omega
  have mk : L.length + 1 ≤ t.mask := by
    rcases T.sh with ⟨m7, l4⟩ | ⟨m15, pe, fl⟩ <;> omega
  refine ⟨{ t with place := SetTable.insertAt t.place (SetTable.below t.place j) j }, SetTable.insertAt es (SetTable.below t.place j) (((v : Nat) : Int), x), SetTable.below t.place j, ?_, ?_, T.dm, T.pl, T.led, rfl, rfl, rfl, ins_up T.up nj, sz1, ?_⟩
  · unfold layNew
    rw [ef]
    dsimp only
    unfold SetTable.put
    have hd : SetTable.has t.dummies j = false := by rw [T.dm]; exact has_nil j
    dsimp only
    rw [hd]
    have ft : SetTable.fits { t with place := SetTable.insertAt t.place (SetTable.below t.place j) j } (SetTable.insertAt es (SetTable.below t.place j) (((v : Nat) : Int), x)).size = true := by
      unfold SetTable.fits SetTable.fill
      dsimp only
      rw [sz1, es1, T.dm]
      simp
      omega
    unfold SetTable.orStandIn
    simp only [if_false, Bool.false_eq_true]
    rw [if_pos ft, ft]
    rfl
  · unfold Es
    rw [SetTable.toList_insertAt]
    exact paired_app (paired_take _ hE) (.cons ⟨rfl, hx⟩ (paired_drop _ hE))
  · intro hm
    dsimp only
    have := ej hm
    subst this
    rcases T.sh with ⟨m7, l4⟩ | ⟨m15, pe, fl⟩
    · omega
    · rw [SetTable.toList_insertAt, pe]
end Sm

set_option maxHeartbeats 1000000
namespace Sm
open PySem

/-- who stands where: as told by the list so far -/
def Owns (m : Nat) (owner : Array (Option Nat)) (L : List Nat) : Prop := owner.size = m + 1 ∧ ∀ j, j ≤ m → owner.getD j none = if j ∈ L then some (L.idxOf j) else none

theorem free_own {m : Nat} {owner : Array (Option Nat)} {L : List Nat} (O : Owns m owner L) {v f : Nat} (hv : v ≤ m) (hn : v ∉ L) : SetTable.layClean.free m owner (f + 1) v v = some v := by
  unfold SetTable.layClean.free
  obtain ⟨k, hk⟩ : ∃ k, SetTable.runEnd m v + 1 - v = k + 1 := ⟨SetTable.runEnd m v - v, by unfold SetTable.runEnd; split <;> omega⟩
  rw [hk, List.range_succ_eq_map]
  have g : owner.getD (v + 0) (some 0) = none := by
    have a := O.2 v hv
    rw [if_neg hn] at a
    have hs : v < owner.size := by rw [O.1]; omega
    simp [Array.getD, hs] at a ⊢
    exact a
  rw [List.find?_cons_of_pos (by rw [g]; rfl)]
  rfl

theorem clean_go {m : Nat} (hm : 15 ≤ m) : ∀ (R L : List Nat) (owner : Array (Option Nat)), Owns m owner L → (L ++ R).Nodup → (∀ v ∈ R, v < 16) →
    ∃ owner', Owns m owner' (L ++ R) ∧ (R.map fun v => ((v : Nat) : Int)).foldl (fun (acc : Option (Array (Option Nat) × Nat)) h => do
      let (owner, k) ← acc
      let j ← SetTable.layClean.free m owner (SetTable.turns m) (SetTable.bits h % (m + 1)) (SetTable.bits h)
      pure (owner.setIfInBounds j (some k), k + 1)) (some (owner, L.length)) = some (owner', (L ++ R).length) := by
  intro R
  induction R with
  | nil => intro L owner O _ _; exact ⟨owner, by simpa using O, by simp⟩
  | cons v R ih =>
    intro L owner O nd hlt
    have hv : v < 16 := hlt v List.mem_cons_self
    have hn : v ∉ L := fun c => by
      have := List.nodup_append.mp nd
      exact this.2.2 v c v List.mem_cons_self rfl
    have O' : Owns m (owner.setIfInBounds v (some L.length)) (L ++ [v]) := by
      refine ⟨by rw [Array.size_setIfInBounds]; exact O.1, fun j hj => ?_⟩
      have hs : v < owner.size := by rw [O.1]; omega
      have hs' : j < owner.size := by rw [O.1]; omega
      have a := O.2 j hj
      by_cases e : j = v
      · subst e
        rw [if_pos (List.mem_append_right _ (List.mem_singleton.mpr rfl)), List.idxOf_append, if_neg hn]
        simp [Array.getD, hs]
      · have e1 : (owner.setIfInBounds v (some L.length)).getD j none = owner.getD j none := by
          simp only [Array.getD, Array.size_setIfInBounds, hs']
          simp [Array.getElem_setIfInBounds, hs', Ne.symm e]
        rw [e1, a]
        by_cases c : j ∈ L
        · rw [if_pos c, if_pos (List.mem_append_left _ c), List.idxOf_append, if_pos c]
        · rw [if_neg c, if_neg]
          intro d
          rcases List.mem_append.mp d with d | d
          · exact c d
          · exact e (List.mem_singleton.mp d)
    obtain ⟨o2, O2, e2⟩ := ih (L ++ [v]) _ O' (by simpa using nd) (fun u hu => hlt u (List.mem_cons_of_mem _ hu))
    refine ⟨o2, by simpa using O2, ?_⟩
    rw [List.map_cons, List.foldl_cons]
    have st : (do
      let (owner, k) ← some (owner, L.length)
      let j ← SetTable.layClean.free m owner (SetTable.turns m) (SetTable.bits ((v : Nat) : Int) % (m + 1)) (SetTable.bits ((v : Nat) : Int))
      pure (owner.setIfInBounds j (some k), k + 1) : Option (Array (Option Nat) × Nat)) = some (owner.setIfInBounds v (some L.length), (L ++ [v]).length) := by
      rw [bits_of hv, Nat.mod_eq_of_lt (by omega)]
      have : SetTable.turns m = (m + 14) + 1 := rfl
      rw [this]
      show (SetTable.layClean.free m owner (m + 14 + 1) v v).bind _ = _
      rw [free_own O (by omega) hn]
      simp
    rw [st]
    have e3 : (L ++ v :: R) = L ++ [v] ++ R := by simp
    rw [e3]
    exact e2

def upTo (m : Nat) (L : List Nat) : List Nat := (List.range (m + 1)).filter fun j => decide (j ∈ L)
theorem upTo_up (m : Nat) (L : List Nat) : (upTo m L).Pairwise (· < ·) := List.Pairwise.filter _ List.pairwise_lt_range
theorem mem_upTo {m : Nat} {L : List Nat} (h : ∀ v ∈ L, v ≤ m) {j : Nat} : j ∈ upTo m L ↔ j ∈ L := by
  unfold upTo
  rw [List.mem_filter, List.mem_range]
  constructor
  · rintro ⟨_, b⟩; exact of_decide_eq_true b
  · intro b; exact ⟨Nat.lt_succ_of_le (h j b), decide_eq_true b⟩
theorem nodup_of_up {L : List Nat} (h : L.Pairwise (· < ·)) : L.Nodup := h.imp fun h => Nat.ne_of_lt h
theorem upTo_perm {m : Nat} {L : List Nat} (h : ∀ v ∈ L, v ≤ m) (nd : L.Nodup) : (upTo m L).Perm L :=
  (List.perm_ext_iff_of_nodup (nodup_of_up (upTo_up m L)) nd).mpr fun j => mem_upTo h
theorem map_idx {L : List Nat} (nd : L.Nodup) : L.map (fun v => L.idxOf v) = List.range L.length := by
  apply List.ext_getElem
  · simp
  · intro i h1 h2
    rw [List.getElem_map, List.getElem_range]
    exact List.Nodup.idxOf_getElem nd i _
theorem fm_if {α β : Type} (p : α → Bool) (f : α → β) : ∀ l : List α, l.filterMap (fun a => if p a = true then some (f a) else none) = (l.filter p).map f
  | [] => rfl
  | a :: r => by
    rw [List.filter_cons]
    cases e : p a with
    | true => rw [List.filterMap_cons_some (b := f a) (by rw [e]; rfl), fm_if p f r]; simp
    | false => rw [List.filterMap_cons_none (by rw [e]; rfl), fm_if p f r]; simp

theorem fm_congr {α β : Type} {f g : α → Option β} : ∀ {l : List α}, (∀ a ∈ l, f a = g a) → l.filterMap f = l.filterMap g
  | [], _ => rfl
  | a :: r, h => by
    have e := h a List.mem_cons_self
    have q := fm_congr (l := r) fun b hb => h b (List.mem_cons_of_mem _ hb)
    cases c : f a with
    | none => rw [List.filterMap_cons_none c, List.filterMap_cons_none (by rw [← e]; exact c), q]
    | some b => rw [List.filterMap_cons_some c, List.filterMap_cons_some (by rw [← e]; exact c), q]
theorem Es.hashes {es : Array (Int × Value)} {L : List Nat} (h : Es es L) : (es.map (·.1)).toList = L.map fun v => ((v : Nat) : Int) := by
  rw [Array.toList_map]
  unfold Es at h
  generalize es.toList = l at h
  induction h with
  | nil => rfl
  | cons r _ ih => rw [List.map_cons, List.map_cons, ih, r.1]
theorem Es.at {es : Array (Int × Value)} {L : List Nat} (h : Es es L) {v : Nat} (hv : v ∈ L) : ∃ e, es[L.idxOf v]? = some e ∧ e.1 = ((v : Nat) : Int) ∧ ∃ tk, e.2 = Value.int ((v : Nat) : Int) tk := by
  have hi := List.idxOf_lt_length_of_mem hv
  obtain ⟨x, e, q⟩ := paired_get h (L.idxOf v) hi
  rw [List.getElem_idxOf hi] at q
  exact ⟨x, by simpa using e, q⟩
theorem es_re {es : Array (Int × Value)} {L : List Nat} (h : Es es L) : ∀ S : List Nat, (∀ v ∈ S, v ∈ L) → Paired (fun e v => e.1 = ((v : Nat) : Int) ∧ ∃ tk, e.2 = Value.int ((v : Nat) : Int) tk) ((S.map fun v => L.idxOf v).filterMap fun i => es[i]?) S
  | [], _ => .nil
  | v :: S, hs => by
    obtain ⟨e, a, b⟩ := h.at (hs v List.mem_cons_self)
    rw [List.map_cons, List.filterMap_cons_some a]
    exact .cons b (es_re h S fun u hu => hs u (List.mem_cons_of_mem _ hu))

theorem laid_ok {es : Array (Int × Value)} {L : List Nat} {m f mv : Nat} {led plain : Bool} (hm : 15 ≤ m) (hE : Es es L) (nd : L.Nodup) (hlt : ∀ v ∈ L, v < 16) :
    ∃ order : Array Nat, SetTable.laid m f mv led plain (es.map (·.1)) = some ({ mask := m, place := (upTo m L).toArray, dummies := #[], finger := f, led := led, moves := mv, plain := plain }, order) ∧
      Es (order.filterMap (es[·]?)) (upTo m L) ∧ coversAll order es.size = true := by
  have hle : ∀ v ∈ L, v ≤ m := fun v hv => by have := hlt v hv; omega
  have O0 : Owns m (Array.replicate (m + 1) none) [] := ⟨by simp, fun j hj => by simp [Array.getD]⟩
  obtain ⟨ow, O, e⟩ := clean_go hm L [] _ O0 (by simpa using nd) hlt
  rw [List.nil_append] at O e
  have ec : SetTable.layClean m (es.map (·.1)) = some ow := by
    unfold SetTable.layClean
    rw [← Array.foldl_toList, hE.hashes]
    have e' := e
    rw [List.length_nil] at e'
    show Option.map _ (List.foldl _ _ _) = _
    refine Eq.trans (congrArg (Option.map (·.1)) (Eq.trans ?_ e')) rfl
    rfl
  have lv : (List.range (m + 1)).filterMap (fun j => (ow.getD j none).map (fun k => (j, k))) = (upTo m L).map fun j => (j, L.idxOf j) := by
    unfold upTo
    rw [← fm_if]
    apply fm_congr
    intro j hj
    rw [O.2 j (by have := List.mem_range.mp hj; omega)]
    by_cases c : j ∈ L
    · simp [c]
    · simp [c]
  refine ⟨((upTo m L).map fun j => L.idxOf j).toArray, ?_, ?_, ?_⟩
  · unfold SetTable.laid
    rw [ec]
    show some _ = some _
    have : (List.range (m + 1)).filterMap (fun j => (ow.getD j none).map (j, ·)) = (upTo m L).map fun j => (j, L.idxOf j) := lv
    rw [this, List.map_map, List.map_map]
    have i1 : ((fun (x : Nat × Nat) => x.1) ∘ fun j => (j, L.idxOf j)) = fun j => j := rfl
    have i2 : ((fun (x : Nat × Nat) => x.2) ∘ fun j => (j, L.idxOf j)) = fun j => L.idxOf j := rfl
    rw [i1, i2, List.map_id']
  · unfold Es
    rw [Array.toList_filterMap]
    exact es_re hE (upTo m L) fun v hv => (mem_upTo hle).mp hv
  · unfold coversAll
    rw [List.isPerm_iff, hE.len]
    have p := (upTo_perm hle nd).map fun v => L.idxOf v
    rw [map_idx nd] at p
    exact p
theorem up_len {m : Nat} {L : List Nat} (h : ∀ v ∈ L, v < 16) (hm : 15 ≤ m) (nd : L.Nodup) : (upTo m L).length = L.length := (upTo_perm (fun v hv => by have := h v hv; omega) nd).length_eq

theorem sizeAbove_gt {n : Nat} (h : n < 2 ^ 40) : n < SetTable.sizeAbove n := by
  have go : ∀ fuel size, n < size * 2 ^ fuel → n < SetTable.sizeAbove.go n fuel size := by
    intro fuel
    induction fuel with
    | zero => intro size h; unfold SetTable.sizeAbove.go; simpa using h
    | succ f ih =>
      intro size h
      unfold SetTable.sizeAbove.go
      split
      · exact ih _ (by rw [Nat.pow_succ] at h; rw [Nat.mul_assoc, Nat.mul_comm 2]; exact h)
      · omega
  exact go 64 8 (by omega)
theorem sizeAbove_16 {n : Nat} (h : 8 ≤ n) : 16 ≤ SetTable.sizeAbove n := by
  have go : ∀ fuel size, 16 ≤ size → 16 ≤ SetTable.sizeAbove.go n fuel size := by
    intro fuel
    induction fuel with
    | zero => intro size h; unfold SetTable.sizeAbove.go; exact h
    | succ f ih =>
      intro size h
      unfold SetTable.sizeAbove.go
      split
      · exact ih _ (by omega)
      · exact h
  unfold SetTable.sizeAbove
  unfold SetTable.sizeAbove.go
  rw [if_pos h]
  exact go 63 _ (by omega)
theorem Tb.fits {B : Bool} {t : SetTable} {L : List Nat} (T : Tb B t L) : t.fits L.length = true := by
  unfold SetTable.fits SetTable.fill
  have := T.sz
  rw [T.dm]
  rcases T.sh with ⟨a, b⟩ | ⟨a, b, c⟩ <;> simp [this] <;> omega
theorem tb_laid {B : Bool} {L : List Nat} {m f mv : Nat} (hm : 15 ≤ m) (nd : L.Nodup) (hlt : ∀ v ∈ L, v < 16) (hr : L.length * 5 < m * 3) :
    Tb B { mask := m, place := (upTo m L).toArray, dummies := #[], finger := f, led := !B, moves := mv, plain := true } (upTo m L) where
  dm := rfl
  pl := rfl
  led := rfl
  up := by simpa using upTo_up m L
  sz := by simp
  nd := nodup_of_up (upTo_up m L)
  lt := fun v hv => hlt v ((mem_upTo (fun v hv => by have := hlt v hv; omega)).mp hv)
  sh := .inr ⟨hm, by simp, by rw [up_len hlt hm nd]; exact hr⟩
/-- laid anew by a grown table -/
theorem relay_ok {B : Bool} {t : SetTable} {es : Array (Int × Value)} {L : List Nat} {n : Nat} (hp : t.plain = true) (hl : t.led = !B) (hE : Es es L) (nd : L.Nodup) (hlt : ∀ v ∈ L, v < 16) (hn : 8 ≤ n) (h2 : 2 * L.length ≤ n) (hb : n < 2 ^ 40) :
    ∃ es' t' L', relayAll t es n = (es', t', false) ∧ Es es' L' ∧ Tb B t' L' ∧ L'.Perm L := by
  have a1 := sizeAbove_gt hb
  have a2 := sizeAbove_16 hn
  have hm : 15 ≤ SetTable.sizeAbove n - 1 := by omega
  obtain ⟨order, e, hE', hc⟩ := laid_ok (f := t.finger) (mv := t.movedTo (SetTable.sizeAbove n - 1)) (led := !B) (plain := true) hm hE nd hlt
  have T := tb_laid (B := B) (f := t.finger) (mv := t.movedTo (SetTable.sizeAbove n - 1)) hm nd hlt (by omega)
  refine ⟨_, _, _, ?_, hE', T, upTo_perm (fun v hv => by have := hlt v hv; omega) nd⟩
  unfold relayAll SetTable.relaid
  rw [hp, hl, e]
  dsimp only
  have z := hE'.len
  rw [hc, z, T.fits]
  rfl
end Sm

set_option maxHeartbeats 1000000
namespace Sm
open PySem

abbrev setO (es : Array (Int × Value)) (ep : Nat) (t : SetTable) : Obj := { cls := .type "set", dict := none, data := .set es ep t, slots := #[] }
/-- a set of small numbers stands there, in the order of L -/
def SetAt (B : Bool) (h : Heap) (a : Addr) (L : List Nat) : Prop := ∃ es ep t, h.get? a = some (setO es ep t) ∧ Es es L ∧ Tb B t L
/-- the table is no greater than it grows by itself -/
def Dense (h : Heap) (a : Addr) : Prop := ∃ es ep t, h.get? a = some (setO es ep t) ∧ (t.mask = 7 ∨ 5 ≤ es.size)
theorem Dense.keep {h h' : Heap} {a : Addr} (S : Dense h a) (k : ∀ o, h.get? a = some o → h'.get? a = some o) : Dense h' a :=
  let ⟨es, ep, t, ho, r⟩ := S; ⟨es, ep, t, k _ ho, r⟩
theorem SetAt.keep {B : Bool} {h h' : Heap} {a : Addr} {L : List Nat} (S : SetAt B h a L) (k : ∀ o, h.get? a = some o → h'.get? a = some o) : SetAt B h' a L :=
  let ⟨es, ep, t, ho, r⟩ := S; ⟨es, ep, t, k _ ho, r⟩
theorem Tb.len {B : Bool} {t : SetTable} {L : List Nat} (T : Tb B t L) : L.length ≤ 16 := by
  have := len_le L (List.range 16) T.nd fun x hx => List.mem_range.mpr (T.lt x hx)
  simpa using this
theorem hash16 : ∀ v : Nat, v < 16 → hashInt ((v : Nat) : Int) = ((v : Nat) : Int) := by decide +kernel
theorem Es.elems {prog : Program} {w : World} {es : Array (Int × Value)} {L : List Nat} (h : Es es L) (lt : ∀ v ∈ L, v < 16) : ElemsOf (intKind prog w) es.toList := by
  unfold Es at h
  generalize es.toList = l at h
  induction h with
  | nil => intro e he; simp at he
  | @cons x y xs ys r _ ih =>
    intro e he
    rcases List.mem_cons.mp he with rfl | he
    · obtain ⟨tk, e2⟩ := r.2
      refine ⟨⟨((y : Nat) : Int), ?_, ?_⟩, ?_⟩
      · show Value.isInt _ _ = true
        rw [e2]; simp [Value.isInt]
      · rw [r.1]; exact (hash16 y (lt y List.mem_cons_self)).symm
      · rw [e2]; rfl
    · exact ih (fun v hv => lt v (List.mem_cons_of_mem _ hv)) e he
theorem Es.find {es : Array (Int × Value)} {L : List Nat} (h : Es es L) (v : Nat) : (es.toList.findIdx? fun e => Value.isInt ((v : Nat) : Int) e.2).isSome = decide (v ∈ L) := by
  unfold Es at h
  generalize es.toList = l at h
  induction h with
  | nil => simp
  | @cons x y xs ys r _ ih =>
    obtain ⟨tk, e2⟩ := r.2
    rw [List.findIdx?_cons, e2]
    by_cases c : v = y
    · subst c; simp [Value.isInt]
    · have : Value.isInt ((v : Nat) : Int) (.int ((y : Nat) : Int) tk) = false := by simp [Value.isInt]; omega
      rw [this]
      simp only [Bool.false_eq_true, if_false, Option.isSome_map]
      rw [ih]
      simp [c]
section
variable {prog : Program} {w : World} {A : Around} {E : Value → Shared → Prop} {s : Shared} {B : Bool} {a : Addr} {L : List Nat}
theorem scan_at {es : Array (Int × Value)} {ep : Nat} {t : SetTable} {v tk : Nat} {ad : Bool} {Q : ScanMet → Shared → Prop} (ho : s.heap.get? a = some (setO es ep t)) (hE : Es es L) (T : Tb B t L) (hv : v < 16)
    (h1 : v ∈ L → ∀ j, Q (.found j) s) (h2 : v ∉ L → Q .absent s) : wpAny (model prog w) A (setScan a (.int ((v : Nat) : Int) tk) ((v : Nat) : Int) ad es) Q E s := by
  have hf : t.fits es.size = true := by rw [hE.len]; exact T.fits
  have sc := wpAny_setScan_of (prog := prog) (w := w) (A := A) (E := E) (s := s) (knd := intKind prog w) (k := ((v : Nat) : Int)) (x := .int ((v : Nat) : Int) tk) (adding := ad) (Q := Q) (by simp [intKind, Value.isInt]) ho rfl hf (hE.elems T.lt) (by
    have q := hE.find v
    have e : (fun e : Int × Value => (intKind prog w).is ((v : Nat) : Int) e.2) = fun e => Value.isInt ((v : Nat) : Int) e.2 := rfl
    rw [e]
    cases c : es.toList.findIdx? (fun e => Value.isInt ((v : Nat) : Int) e.2) with
    | none => rw [c] at q; exact h2 (of_decide_eq_false q.symm)
    | some j => rw [c] at q; exact h1 (of_decide_eq_true q.symm) _)
  have e : (intKind prog w).hash ((v : Nat) : Int) = ((v : Nat) : Int) := hash16 v hv
  rw [e] at sc
  exact sc
theorem put_get {h : Heap} {es es' : Array (Int × Value)} {ep : Nat} {t t' : SetTable} (ho : h.get? a = some (setO es ep t)) : (h.update a (Obj.putSet es' t')).get? a = some (setO es' (ep + 1) t') := by
  have := Heap.get?_update_self (Obj.putSet es' t') ho (by rw [putSet_of es' t' rfl]; rfl)
  rw [putSet_of es' t' rfl] at this
  exact this
theorem scan_ok (prog : Program) (w : World) {es : Array (Int × Value)} {t : SetTable} {v tk : Nat} (hE : Es es L) (T : Tb B t L) : byScan (.int ((v : Nat) : Int) tk) es = true :=
  byScan_of (knd := intKind prog w) rfl (by rw [hE.len]; have := T.len; unfold scanBound; omega) (hE.elems T.lt)
/-- a small number put to a set -/
theorem add_at {v tk : Nat} {Q : Bool → Shared → Prop} (S : SetAt B s.heap a L) (hv : v < 16)
    (h : ∀ b h' L', Heap.SameBut a s.heap h' → SetAt B h' a L' → (∀ u, u ∈ L' ↔ u = v ∨ u ∈ L) → (Dense s.heap a → Dense h' a) → Q b { s with heap := h' }) :
    wpAny (model prog w) A (setAddHashed a (.int ((v : Nat) : Int) tk) ((v : Nat) : Int)) Q E s := by
  obtain ⟨es, ep, t, ho, hE, T⟩ := S
  have hf : t.fits es.size = true := by rw [hE.len]; exact T.fits
  unfold setAddHashed setAddHashedIn
  refine wpAny_holding (wpAny_bind (wpAny_setState_of ho rfl hf ?_))
  dsimp only
  rw [scan_ok prog w hE T]
  simp only [↓reduceIte]
  unfold setAddByScan
  refine wpAny_bind ?_
  refine wpAny_bind (wpAny_rule ?_)
  refine wpAny_bind (scan_at ho hE T hv (fun hm j => ?_) fun hm => ?_)
  · dsimp only
    refine wpAny_pure (wpAny_pure ?_)
    have q := h false s.heap L (Heap.SameBut.refl a s.heap) ⟨es, ep, t, ho, hE, T⟩ (fun u => ⟨.inr, fun c => c.elim (fun e => e ▸ hm) id⟩) id
    exact q
  · dsimp only
    obtain ⟨t1, es1, p, e1, hE1, dm, pl, ld, mk, _, _, up, sz, own⟩ := lay_ok (x := .int ((v : Nat) : Int) tk) T hE hv hm ⟨tk, rfl⟩
    rw [e1]
    dsimp only
    refine wpAny_bind (wpAny_pure ?_)
    rw [pl]
    refine wpAny_bind (wpAny_pure ?_)
    simp only [↓reduceIte]
    have mem : ∀ u, u ∈ L.take p ++ v :: L.drop p ↔ u = v ∨ u ∈ L := fun u => by
      rw [List.mem_append, List.mem_cons]
      have e : u ∈ L ↔ u ∈ L.take p ∨ u ∈ L.drop p := by rw [← List.mem_append, List.take_append_drop]
      rw [e]
      constructor
      · rintro (c | c | c)
        · exact .inr (.inl c)
        · exact .inl c
        · exact .inr (.inr c)
      · rintro (c | c | c)
        · exact .inr (.inl c)
        · exact .inl c
        · exact .inr (.inr c)
    have nd1 : (L.take p ++ v :: L.drop p).Nodup := by
      have pm : (L.take p ++ v :: L.drop p).Perm (v :: L) := by
        have : L.take p ++ L.drop p = L := List.take_append_drop p L
        exact List.perm_middle.trans (by rw [this])
      exact pm.nodup_iff.mpr (List.nodup_cons.mpr ⟨hm, T.nd⟩)
    have lt1 : ∀ u ∈ L.take p ++ v :: L.drop p, u < 16 := fun u hu => ((mem u).mp hu).elim (fun e => e ▸ hv) (T.lt u)
    have ln1 : (L.take p ++ v :: L.drop p).length = L.length + 1 := by
      rw [List.length_append, List.length_cons, List.length_take, List.length_drop]; omega
    have fl : t1.fill = L.length + 1 := by unfold SetTable.fill; rw [dm, sz]; rfl
    have l16 := T.len
    have z1 : es1.size = L.length + 1 := by rw [hE1.len, ln1]
    refine wpAny_bind (wpAny_storeSet_of ho rfl ?_ (by rw [z1, sizeLine_eq]; omega))
    have ho1 := put_get (es' := es1) (t' := t1) ho
    cases tf : t1.tooFull with
    | false =>
      simp only [Bool.not_false, Bool.and_false, Bool.false_eq_true, if_false]
      refine wpAny_pure (wpAny_pure ?_)
      refine h true _ _ (Heap.SameBut.update ..) ⟨es1, ep + 1, t1, ho1, hE1, ⟨dm, pl, ld, up, by rw [ln1, sz], nd1, lt1, ?_⟩⟩ mem (fun ⟨es0, ep0, t0, ho0, d⟩ => ⟨es1, ep + 1, t1, ho1, by
        rw [ho] at ho0; cases ho0
        rw [mk, z1]; have := hE.len; omega⟩)
      unfold SetTable.tooFull at tf
      have tf' := of_decide_eq_false tf
      rw [fl, mk] at tf'
      rw [ln1, mk]
      rcases T.sh with ⟨m7, l4⟩ | ⟨m15, pe, _⟩
      · refine .inl ⟨m7, by omega⟩
      · exact .inr ⟨m15, own m15, by omega⟩
    | true =>
      simp only [Bool.not_false, Bool.and_self, if_true]
      unfold SetTable.tooFull at tf
      have tf' := of_decide_eq_true tf
      rw [fl, mk] at tf'
      have five : 5 ≤ L.length + 1 := by
        rcases T.sh with ⟨m7, l4⟩ | ⟨m15, pe, _⟩ <;> omega
      have gr : SetTable.grown es1.size = (L.length + 1) * 4 := by
        unfold SetTable.grown
        rw [z1, if_neg (by omega)]
      obtain ⟨es2, t2, L2, e2, hE2, T2, pm⟩ := relay_ok (t := t1) (n := SetTable.grown es1.size) pl ld hE1 nd1 lt1 (by rw [gr]; omega) (by rw [gr, ln1]; omega) (by rw [gr]; omega)
      rw [e2]
      dsimp only
      refine wpAny_bind (wpAny_pure ?_)
      refine wpAny_bind (wpAny_storeSet_of ho1 rfl ?_ (by rw [hE2.len, pm.length_eq, ln1, sizeLine_eq]; omega))
      refine wpAny_pure (wpAny_pure ?_)
      exact h true _ L2 ((Heap.SameBut.update ..).trans (Heap.SameBut.update ..)) ⟨es2, _, t2, put_get ho1, hE2, T2⟩ (fun u => (pm.mem_iff).trans (mem u)) fun _ => ⟨es2, _, t2, put_get ho1, .inr (by rw [hE2.len, pm.length_eq, ln1]; exact five)⟩
end
end Sm

set_option maxHeartbeats 2000000
namespace Sm
open PySem

/-- whether sets are walked by the text of the world -/
abbrev byT (w : World) : Bool := w.params.followText "set-order"
theorem erase_perm {α : Type} : ∀ (l : List α) (i : Nat) (h : i < l.length), (l[i] :: l.eraseIdx i).Perm l
  | _ :: r, 0, _ => .refl _
  | x :: r, i + 1, h => by
    have q := erase_perm r i (by simpa using h)
    rw [List.getElem_cons_succ, List.eraseIdx_cons_succ]
    exact (List.Perm.swap x (r[i]'(by simpa using h)) (r.eraseIdx i)).trans (q.cons x)
theorem pick_go {α : Type} (nx : Nat → Nat) : ∀ (fuel k : Nat) (left : List α) (out : Array α), left.length ≤ fuel → (pickOrder.go nx fuel k left out).toList.Perm (out.toList ++ left) := by
  intro fuel
  induction fuel with
  | zero =>
    intro k left out h
    have : left = [] := List.length_eq_zero_iff.mp (by omega)
    subst this
    unfold pickOrder.go
    simp
  | succ f ih =>
    intro k left out h
    unfold pickOrder.go
    by_cases c : left = []
    · subst c; simp
    · have pos : 0 < left.length := List.length_pos_iff.mpr c
      have lt := Nat.mod_lt (nx k) pos
      rw [List.getElem?_eq_getElem lt]
      dsimp only
      refine (ih (k + 1) _ _ (by rw [List.length_eraseIdx]; split <;> omega)).trans ?_
      rw [Array.toList_push, List.append_assoc]
      exact List.Perm.append_left _ (erase_perm left _ lt)
theorem pick_perm {α : Type} (nx : Nat → Nat) (xs : Array α) : (pickOrder nx xs).toList.Perm xs.toList := by
  have := pick_go nx xs.size 0 xs.toList #[] (by simp)
  unfold pickOrder
  simpa using this
theorem walk_eq (a : Addr) : setWalk a = (do
  let (xs, c, tb) ← setState a
  if ← setsByText then
    let q ← ask
    return pickOrder (q.params.setOrder a c) xs
  if !tb.plain && xs.size > 1 then return (← drawOrder xs.size xs.toList).toArray
  (do if !tb.led && xs.size > 1 then unsupported "set:maker-not-led" : Sem Unit)
  return xs) := rfl
/-- the small numbers of entries, in some order -/
theorem Es.perm {es : Array (Int × Value)} {L : List Nat} (h : Es es L) {es' : List (Int × Value)} (p : es'.Perm es.toList) : ∃ L', Paired (fun e v => e.1 = ((v : Nat) : Int) ∧ ∃ tk, e.2 = Value.int ((v : Nat) : Int) tk) es' L' ∧ L'.Perm L := by
  refine ⟨es'.map fun e => e.1.toNat, ?_, ?_⟩
  · have all : ∀ e ∈ es.toList, ∃ v : Nat, e.1 = ((v : Nat) : Int) ∧ ∃ tk, e.2 = Value.int ((v : Nat) : Int) tk := by
      unfold Es at h
      generalize es.toList = l at h
      clear p
      induction h with
      | nil => intro e he; simp at he
      | cons r _ ih =>
        intro e he
        rcases List.mem_cons.mp he with rfl | he
        · exact ⟨_, r⟩
        · exact ih e he
    have all' : ∀ e ∈ es', ∃ v : Nat, e.1 = ((v : Nat) : Int) ∧ ∃ tk, e.2 = Value.int ((v : Nat) : Int) tk := fun e he => all e (p.mem_iff.mp he)
    clear p
    induction es' with
    | nil => exact .nil
    | cons e r ih =>
      obtain ⟨v, e1, e2⟩ := all' e List.mem_cons_self
      rw [List.map_cons]
      refine .cons ?_ (ih fun x hx => all' x (List.mem_cons_of_mem _ hx))
      rw [e1]
      exact ⟨rfl, e2⟩
  · refine (p.map fun e => e.1.toNat).trans ?_
    unfold Es at h
    generalize es.toList = l at h
    have : l.map (fun e => e.1.toNat) = L := by
      induction h with
      | nil => rfl
      | cons r _ ih => rw [List.map_cons, ih, r.1]; rfl
    rw [this]
section
variable {prog : Program} {w : World} {A : Around} {E : Value → Shared → Prop} {s : Shared} {a : Addr} {L : List Nat}
theorem state_at {es : Array (Int × Value)} {ep : Nat} {t : SetTable} {B : Bool} {Q : (Array (Int × Value) × Nat × SetTable) → Shared → Prop} (ho : s.heap.get? a = some (setO es ep t)) (hE : Es es L) (T : Tb B t L) (h : Q (es, ep, t) s) :
    wpAny (model prog w) A (setState a) Q E s := wpAny_setState_of ho rfl (by rw [hE.len]; exact T.fits) h
theorem byText_at {Q : Bool → Shared → Prop} (h : Q (byT w) s) : wpAny (model prog w) A setsByText Q E s := by
  unfold setsByText
  exact wpAny_bind (wpAny_askSetting (wpAny_pure h))
end
end Sm

set_option maxHeartbeats 2000000
namespace Sm
open PySem
section
variable {prog : Program} {w : World} {A : Around} {E : Value → Shared → Prop} {s : Shared} {sA oA : Addr} {L1 L2 : List Nat}
end
end Sm

set_option maxHeartbeats 2000000
namespace Sm
open PySem PySem.Builtin.Frozenset
theorem sub_ss : isSubtype (.type "set") (.type "set") = pure true := by rw [isSubtype_type]; kernel_rfl
theorem entry_iter : entryFor table "set.__iter__" = some Builtin.«frozenset.__iter__» := entryFor_alias (id' := "frozenset.__iter__") (by kernel_rfl) rfl (by decide +kernel) (by kernel_rfl)
section
variable {prog : Program} {w : World} {A : Around} {E : Value → Shared → Prop} {s : Shared} {a b : Addr} {L1 L2 : List Nat}
theorem fresh_tb (B : Bool) : Tb B (.fresh 0 0 (!B)) [] := ⟨rfl, rfl, rfl, .nil, rfl, .nil, fun v h => by simp at h, .inl ⟨rfl, by simp⟩⟩
theorem epoch_at {es : Array (Int × Value)} {ep : Nat} {t : SetTable} {B : Bool} {Q : Nat → Shared → Prop} (ho : s.heap.get? a = some (setO es ep t)) (hE : Es es L1) (T : Tb B t L1) (h : Q ep s) : wpAny (model prog w) A (setEpoch a) Q E s :=
  wpAny_setEpoch_of ho rfl (by rw [hE.len]; exact T.fits) h
end
end Sm

set_option maxHeartbeats 4000000
namespace Sm
open PySem
theorem slot_si_next : Slot "set_iterator" "__next__" "set_iterator.__next__" := .of (owner := "set_iterator") (n := "__next__") (by rw [typeLookup_type, builtinLookup_eq_fast]; kernel_rfl) (by decide +kernel) (by decide +kernel) (by decide +kernel) (by first | exact .inl (by decide +kernel) | exact .inr (by decide +kernel)) (by rw [isSubtype_type]; kernel_rfl)
theorem entry_si_next : entryFor table "set_iterator.__next__" = some Builtin.«set_iterator.__next__» := entryFor_of_fast (by kernel_rfl)
theorem args_si_next (a : Value) : argsOk "set_iterator.__next__" ⟨[a], []⟩ := by unfold argsOk; kernel_rfl
theorem slot_si_iter : Slot "set_iterator" "__iter__" "set_iterator.__iter__" := .of (owner := "set_iterator") (n := "__iter__") (by rw [typeLookup_type, builtinLookup_eq_fast]; kernel_rfl) (by decide +kernel) (by decide +kernel) (by decide +kernel) (by first | exact .inl (by decide +kernel) | exact .inr (by decide +kernel)) (by rw [isSubtype_type]; kernel_rfl)
theorem args_si_iter (a : Value) : argsOk "set_iterator.__iter__" ⟨[a], []⟩ := by unfold argsOk; kernel_rfl
end Sm

set_option maxHeartbeats 4000000
namespace Sm
open PySem
theorem entry_si_iter : entryFor table "set_iterator.__iter__" = some Builtin.«dict_keyiterator.__iter__» := entryFor_alias (id' := "dict_keyiterator.__iter__") (by kernel_rfl) rfl (by decide +kernel) (by kernel_rfl)
/-- the entries as they are walked -/
def walked (w : World) (a : Addr) (ep : Nat) (es : Array (Int × Value)) : Array (Int × Value) := if byT w = true then pickOrder (w.params.setOrder a ep) es else es
theorem walked_perm (w : World) (a : Addr) (ep : Nat) (es : Array (Int × Value)) : (walked w a ep es).toList.Perm es.toList := by
  unfold walked
  split
  · exact pick_perm _ _
  · exact .rfl
theorem walked_size (w : World) (a : Addr) (ep : Nat) (es : Array (Int × Value)) : (walked w a ep es).size = es.size := by
  have := (walked_perm w a ep es).length_eq
  simpa using this
theorem next_eq (a : Addr) (slot given epochThen : Nat) : setNext a slot given epochThen = (do
  let (xs, c, tb) ← setState a
  if ← setsByText then
    if c != epochThen then
      unsupported "set_iterator.__next__:elements-changed"
    let zs ← setWalk a
    return (zs[given]?).map fun z => (z.2, slot)
  if !tb.plain && xs.size > 1 then
    unsupported "set_iterator.__next__:the-table-is-plain-no-more"
  (do if !tb.led && !xs.isEmpty then unsupported "set:maker-not-led" : Sem Unit)
  return match xs[SetTable.below tb.place slot]?, tb.place[SetTable.below tb.place slot]? with
    | some (_, z), some m => some (z, m + 1)
    | _, _ => none) := rfl
def slotOf (B : Bool) (t : SetTable) (i : Nat) : Nat := if B = true then 0 else if i = 0 then 0 else t.place.getD (i - 1) 0 + 1
theorem below_slot {B : Bool} {t : SetTable} {L : List Nat} (T : Tb B t L) (hB : B = false) : ∀ i, i ≤ L.length → SetTable.below t.place (slotOf B t i) = i
  | 0, _ => by
    unfold slotOf
    rw [hB]
    exact below_zero T.up
  | k + 1, h => by
    unfold slotOf
    rw [hB]
    have hk : k < t.place.size := by rw [T.sz]; omega
    simp only [Bool.false_eq_true, if_false, Nat.add_sub_cancel]
    rw [if_neg (by omega)]
    have : t.place.getD k 0 = t.place[k] := by simp [Array.getD, hk]
    rw [this]
    exact below_next T.up hk
section
variable {prog : Program} {w : World} {A : Around} {E : Value → Shared → Prop} {s : Shared} {a : Addr} {L : List Nat}
theorem walk_is {es : Array (Int × Value)} {ep : Nat} {t : SetTable} {Q : Array (Int × Value) → Shared → Prop} (ho : s.heap.get? a = some (setO es ep t)) (hE : Es es L) (T : Tb (byT w) t L)
    (h : Q (walked w a ep es) s) : wpAny (model prog w) A (setWalk a) Q E s := by
  rw [walk_eq]
  refine wpAny_bind (state_at ho hE T ?_)
  refine wpAny_bind (byText_at ?_)
  have pl := T.pl
  have ld := T.led
  unfold walked at h
  cases c : byT w with
  | true =>
    rw [c] at h
    simp only [if_true] at h ⊢
    exact wpAny_bind (wpAny_askSetting (wpAny_pure h))
  | false =>
    rw [c] at ld h
    simp only [pl, ld, Bool.not_true, Bool.not_false, Bool.false_and, Bool.false_eq_true, if_false] at h ⊢
    first | exact wpAny_bind (wpAny_pure (wpAny_pure h)) | exact wpAny_pure h
theorem snext_at {es : Array (Int × Value)} {ep i : Nat} {t : SetTable} {Q : Option (Value × Nat) → Shared → Prop} (ho : s.heap.get? a = some (setO es ep t)) (hE : Es es L) (T : Tb (byT w) t L) (hi : i ≤ L.length)
    (h : Q (((walked w a ep es)[i]?).map fun e => (e.2, slotOf (byT w) t (i + 1))) s) : wpAny (model prog w) A (setNext a (slotOf (byT w) t i) i ep) Q E s := by
  rw [next_eq]
  refine wpAny_bind (state_at ho hE T ?_)
  refine wpAny_bind (byText_at ?_)
  have pl := T.pl
  have ld := T.led
  cases c : byT w with
  | true =>
    simp only [if_true, bne_self_eq_false, Bool.false_eq_true, if_false]
    refine wpAny_bind (walk_is ho hE T (wpAny_pure ?_))
    rw [c] at h
    unfold slotOf at h ⊢
    simp only [if_true] at h ⊢
    exact h
  | false =>
    rw [c] at ld h
    simp only [pl, ld, Bool.not_true, Bool.not_false, Bool.false_and, Bool.false_eq_true, if_false]
    have bs := below_slot T c i hi
    rw [c] at bs
    rw [bs]
    have wk : walked w a ep es = es := by unfold walked; rw [c]; rfl
    rw [wk] at h
    have e : (match es[i]?, t.place[i]? with
      | some (_, z), some m => some (z, m + 1)
      | _, _ => none) = (es[i]?).map fun e => (e.2, slotOf false t (i + 1)) := by
      by_cases q : i < L.length
      · have h1 : i < es.size := by rw [hE.len]; exact q
        have h2 : i < t.place.size := by rw [T.sz]; exact q
        rw [Array.getElem?_eq_getElem h1, Array.getElem?_eq_getElem h2]
        unfold slotOf
        simp [Array.getD, h2]
      · have h1 : es[i]? = none := Array.getElem?_eq_none (by rw [hE.len]; omega)
        rw [h1]
        rfl
    first
    | exact wpAny_bind (wpAny_pure (wpAny_pure (by rw [e]; exact h)))
    | exact wpAny_pure (by rw [e]; exact h)
abbrev itO (sl i : Nat) (a : Addr) (n ep : Nat) : Obj := { cls := .type "set_iterator", dict := none, data := .fields #[.int (sl : Nat) 0, .int (i : Nat) 0, .ref a, .int (n : Nat) 0, .int (ep : Nat) 0], slots := #[] }
theorem item_at {I : Addr} {es : Array (Int × Value)} {ep i : Nat} {t : SetTable} {e : Int × Value} {Q : Option Value → Shared → Prop} (ne : a ≠ I) (ho : s.heap.get? a = some (setO es ep t)) (hE : Es es L) (T : Tb (byT w) t L)
    (hI : s.heap.get? I = some (itO (slotOf (byT w) t i) i a L.length ep)) (hw : (walked w a ep es)[i]? = some e)
    (h : ∀ h', h'.get? I = some (itO (slotOf (byT w) t (i + 1)) (i + 1) a L.length ep) → Heap.SameBut I s.heap h' → Q (some e.2) { s with heap := h' }) : wpAny (model prog w) A (pyNext (.ref I)) Q E s := by
  have hi : i < L.length := by
    rcases Nat.lt_or_ge i (walked w a ep es).size with q | q
    · rw [walked_size, hE.len] at q; exact q
    · rw [Array.getElem?_eq_none q] at hw; cases hw
  have hT : s.TypeIs (.ref I) "set_iterator" := ⟨_, hI, rfl⟩
  unfold pyNext
  refine wpAny_bind (wpAny_attempt (wpAny_callSpecial?_slot (name := Str.ofString "__next__") hT slot_si_next (wpAny_call_entry slot_si_next hT entry_si_next ?_ (args_si_next _))))
  unfold Builtin.«set_iterator.__next__»
  refine wpAny_bind (m := slotArgs "__next__" 0 _) (wpAny_pure ?_)
  dsimp only
  refine wpAny_bind (wpAny_fieldsOf hI rfl ?_)
  dsimp only
  unfold setEntries
  refine wpAny_bind (wpAny_bind (state_at ho hE T (wpAny_pure ?_)))
  have z : (((es.size : Nat) : Int) != ((L.length : Nat) : Int)) = false := by rw [hE.len]; simp
  dsimp only
  rw [z]
  simp only [Bool.false_eq_true, if_false, Int.toNat_natCast]
  refine wpAny_bind (snext_at ho hE T (by omega) ?_)
  rw [hw]
  dsimp only [Option.map]
  refine wpAny_bind (wpAny_setField_rec hI (by simp) fun h1 hI1 sb1 => ?_)
  refine wpAny_bind (wpAny_setField_rec (s := { s with heap := h1 }) hI1 (by simp) fun h2 hI2 sb2 => ?_)
  refine wpAny_pure ⟨_, rfl, wpAny_pure (h h2 ?_ (sb1.trans sb2))⟩
  rw [hI2]
  simp [rawInt]
theorem end_at {I : Addr} {es : Array (Int × Value)} {ep : Nat} {t : SetTable} {Q : Option Value → Shared → Prop} (hh : A.handled = none) (ne : a ≠ I) (ho : s.heap.get? a = some (setO es ep t)) (hE : Es es L) (T : Tb (byT w) t L)
    (hI : s.heap.get? I = some (itO (slotOf (byT w) t L.length) L.length a L.length ep))
    (h : ∀ h', Heap.ExtBut I s.heap h' → Q none { s with heap := h' }) : wpAny (model prog w) A (pyNext (.ref I)) Q E s := by
  have hT : s.TypeIs (.ref I) "set_iterator" := ⟨_, hI, rfl⟩
  unfold pyNext
  refine wpAny_bind (wpAny_attempt (wpAny_callSpecial?_slot (name := Str.ofString "__next__") hT slot_si_next (wpAny_call_entry slot_si_next hT entry_si_next ?_ (args_si_next _))))
  unfold Builtin.«set_iterator.__next__»
  refine wpAny_bind (m := slotArgs "__next__" 0 _) (wpAny_pure ?_)
  dsimp only
  refine wpAny_bind (wpAny_fieldsOf hI rfl ?_)
  dsimp only
  unfold setEntries
  refine wpAny_bind (wpAny_bind (state_at ho hE T (wpAny_pure ?_)))
  have z : (((es.size : Nat) : Int) != ((L.length : Nat) : Int)) = false := by rw [hE.len]; simp
  dsimp only
  rw [z]
  simp only [Bool.false_eq_true, if_false, Int.toNat_natCast]
  refine wpAny_bind (snext_at ho hE T (by omega) ?_)
  rw [Array.getElem?_eq_none (by rw [walked_size, hE.len]; exact Nat.le_refl _)]
  dsimp only [Option.map]
  refine wpAny_bind (wpAny_setField_rec hI (by simp) fun h1 hI1 sb1 => ?_)
  refine wpAny_bind ?_
  simp only [newExc, newTuple]
  refine wpAny_bind (wpAny_newObj_type ?_ (by size_fits))
  refine wpAny_bind (m := firstArgMember _ _) (wpAny_of_eq (a := Value.none) (by first | rfl | (simp only [firstArgMember]; rfl)) ?_); refine wpAny_newObj_type ?_ (by size_fits)
  simp only [raiseNew]
  refine wpAny_bind (wpAny_handled ?_)
  rw [show A.in1.handled = none from hh]; refine wpAny_bind (wpAny_pure (wpAny_throw ?_))
  refine wpAny_bind (wpAny_isInstance (U := "StopIteration") (T := "StopIteration") (b := true) ⟨_, Heap.get?_push_size _ rfl, rfl⟩ isSubtype_stop ?_)
  exact wpAny_pure (h _ ((sb1.extBut.push _).push _))
end
end Sm

set_option maxHeartbeats 4000000
namespace Sm
open PySem PyProof.Rows
section
variable {prog : Program} {w : World} {A : Around} {E : Value → Shared → Prop} {s : Shared} {a : Addr} {L : List Nat}
theorem sWalks {I : Addr} {es : Array (Int × Value)} {ep : Nat} {t : SetTable} (hh : A.handled = none) (ne : a ≠ I) (hE : Es es L) (T : Tb (byT w) t L) :
    Walks prog w A I [I, a] [I] L.length (fun i v => ∃ e, (walked w a ep es)[i]? = some e ∧ v = e.2)
      (fun i h => h.get? I = some (itO (slotOf (byT w) t i) i a L.length ep) ∧ h.get? a = some (setO es ep t)) where
  sub := fun b hb => by simp at hb; simp [hb]
  frame := fun _ _ _ st hk => ⟨hk I (by simp) _ st.1, hk a (by simp) _ st.2⟩
  item := fun i s Q E hi st hQ => by
    obtain ⟨e, he⟩ : ∃ e, (walked w a ep es)[i]? = some e := ⟨_, Array.getElem?_eq_getElem (by rw [walked_size, hE.len]; exact hi)⟩
    refine item_at ne st.2 hE T st.1 he fun h' hI sb => ?_
    exact hQ _ h' s.toks ⟨e, he, rfl⟩ ⟨hI, by rw [sb.2 a ne]; exact st.2⟩ fun b o hb q => by rw [sb.2 b (fun c => hb (by simp [c]))]; exact q
  done := fun s Q E st hQ => end_at hh ne st.2 hE T st.1 fun h' xb => hQ h' s.toks fun b o hb q => xb b o (fun c => hb (by simp [c])) q
  self := fun i s Q E st hQ => by
    have hT : s.TypeIs (.ref I) "set_iterator" := ⟨_, st.1, rfl⟩
    refine wpAny_pyIter_slot hT slot_si_iter (wpAny_call_entry slot_si_iter hT entry_si_iter ?_ (args_si_iter _))
    show wpAny _ _ (ret (Value.ref I)) _ _ s; exact wpAny_pure ⟨_, rfl, "set_iterator", _, hT, slot_si_next.lookup, hQ⟩
theorem drawn_eq (a : Addr) : setDrawn a = (do
  let (es, _, t) ← setState a
  let byText ← setsByText
  return !byText && (!t.plain && es.size > 1)) := rfl
theorem iter_at {es : Array (Int × Value)} {ep : Nat} {t : SetTable} {Q : Value → Shared → Prop} (ho : s.heap.get? a = some (setO es ep t)) (hE : Es es L) (T : Tb (byT w) t L)
    (h : Q (.ref s.heap.objs.size) { s with heap := s.heap.push (itO 0 0 a L.length ep) }) : wpAny (model prog w) A (pyIter (.ref a)) Q E s := by
  have hT : s.TypeIs (.ref a) "set" := ⟨_, ho, rfl⟩
  refine wpAny_pyIter_slot hT F.slot_set_iter (wpAny_call_entry F.slot_set_iter hT entry_iter ?_ (F.args_set_iter_1 _))
  unfold Builtin.«frozenset.__iter__»
  refine wpAny_bind (m := Builtin.Frozenset.slot0 _ _) (wpAny_pure ?_)
  unfold Builtin.Frozenset.sizeOf setEntries
  refine wpAny_bind (wpAny_bind (wpAny_bind (state_at ho hE T (wpAny_pure (wpAny_pure ?_)))))
  rw [drawn_eq]
  refine wpAny_bind (wpAny_bind (state_at ho hE T ?_))
  refine wpAny_bind (byText_at (wpAny_pure ?_))
  rw [T.pl]
  simp only [Bool.not_true, Bool.false_and, Bool.and_false, Bool.false_eq_true, if_false]
  refine wpAny_bind (wpAny_pure ?_)
  refine wpAny_bind (epoch_at ho hE T ?_)
  refine wpAny_bind ?_
  unfold newFields
  refine wpAny_newObj_type ?_
  refine wpAny_pure ⟨_, rfl, "set_iterator", _, ⟨_, Heap.get?_push_size _ rfl, rfl⟩, slot_si_next.lookup, ?_⟩
  rw [hE.len]
  exact h
theorem no_list : (Value.type "set" == Value.type "list") = false := by decide
theorem no_tup : (Value.type "set" == Value.type "tuple") = false := by decide
theorem len_slot : typeLookup (.type "set") "__len__" = pure (some (.builtin "set.__len__")) := F.slot_set_len.lookup
theorem split_len : splitId "set.__len__" = some ("set", "__len__") := by decide +kernel
theorem collect_set {es : Array (Int × Value)} {ep : Nat} {t : SetTable} {Q : List Value → Shared → Prop} (hh : A.handled = none) (ho : s.heap.get? a = some (setO es ep t)) (hE : Es es L) (T : Tb (byT w) t L)
    (h : ∀ (h' : Heap) (tk : Nat), (∀ b o, s.heap.get? b = some o → h'.get? b = some o) → s.heap.objs.size < h'.objs.size → Q ((walked w a ep es).toList.map (·.2)) { s with heap := h', toks := tk }) : wpAny (model prog w) A (collect (.ref a)) Q E s := by
  have lt : a < s.heap.objs.size := Heap.lt_size ho
  unfold collect
  refine wpAny_bind (wpAny_runValue (codeAny_builtin F.entry_proto_collect ?_))
  rw [Around.under_plainId F.plain_proto_collect _]
  show wpAny _ A.in1 (newList [] >>= fun l => again (.builtin "list.__iadd__" ⟨[l, .ref a], []⟩)) _ _ s
  refine wpAny_bind (wpAny_newObj_type (wpAny_pure ⟨plainId_quiet F.plain_list_iadd _, codeAny_builtin F.entry_list_iadd ?_⟩))
  rw [Around.under_plainId F.plain_list_iadd _]
  have S0 : (s.heap.push { cls := .type "list", data := .seq ([] : List Value).toArray }).get? s.heap.objs.size = some { cls := .type "list", data := .seq ([] : List Value).toArray } := Heap.get?_push_size _ rfl
  have ho1 : (s.heap.push { cls := .type "list", data := .seq ([] : List Value).toArray }).get? a = some (setO es ep t) := Heap.get?_push_of_some _ ho
  have hT1 : Shared.TypeIs { s with heap := s.heap.push { cls := .type "list", data := .seq ([] : List Value).toArray } } (.ref a) "set" := ⟨_, ho1, rfl⟩
  show wpAny _ A.in1 (Builtin.List.listExtendWith (.ref s.heap.objs.size) (.ref a) (.ref s.heap.objs.size)) _ _ { s with heap := s.heap.push { cls := .type "list", data := .seq ([] : List Value).toArray } }
  unfold Builtin.List.listExtendWith
  refine wpAny_bind (wpAny_typeOf hT1 ?_)
  have n1 : Builtin.List.listSameRef (.ref s.heap.objs.size) (.ref a) = false := by simp [Builtin.List.listSameRef, Nat.ne_of_gt lt]
  simp only [n1, no_list, no_tup, Bool.or_false, Bool.false_eq_true, if_false]
  refine wpAny_bind (iter_at ho1 hE T ?_)
  refine wpAny_bind (wpAny_holding ?_)
  have ho2 : ((s.heap.push { cls := .type "list", data := .seq ([] : List Value).toArray }).push (itO 0 0 a L.length ep)).get? a = some (setO es ep t) := Heap.get?_push_of_some _ ho1
  have hT2 : Shared.TypeIs { s with heap := (s.heap.push { cls := .type "list", data := .seq ([] : List Value).toArray }).push (itO 0 0 a L.length ep) } (.ref a) "set" := ⟨_, ho2, rfl⟩
  unfold Builtin.List.listLengthHint
  refine wpAny_bind (wpAny_specialOf hT2 len_slot ?_)
  dsimp only
  rw [split_len]
  dsimp only
  refine wpAny_bind (wpAny_isInstance hT2 sub_ss ?_)
  rw [if_neg (by decide)]
  rw [if_pos (by decide +kernel)]
  refine wpAny_bind (wpAny_typeOf hT2 ?_)
  dsimp only
  refine wpAny_pure ?_
  rw [if_pos (by decide +kernel)]
  refine wpAny_bind (wpAny_rule ?_)
  have lsz : (s.heap.push { cls := .type "list", data := .seq ([] : List Value).toArray }).objs.size = s.heap.objs.size + 1 := size_push' _ _
  have S1 : ((s.heap.push { cls := .type "list", data := .seq ([] : List Value).toArray }).push (itO 0 0 a L.length ep)).get? s.heap.objs.size = some { cls := .type "list", data := .seq ([] : List Value).toArray } := Heap.get?_push_of_some _ S0
  refine wpAny_bind ?_
  show wpAny _ A.in1 (updateSeq s.heap.objs.size (·.push .none) >>= fun _ => updateSeq s.heap.objs.size (·.pop)) _ _ _
  refine wpAny_bind (wpAny_updateSeq S1 rfl ?_)
  have S2 := Heap.get?_update_self (Obj.mapSeq (·.push Value.none)) S1 rfl
  refine wpAny_updateSeq S2 rfl ?_
  have S3 := Heap.get?_update_self (Obj.mapSeq (·.pop)) S2 rfl
  have oth : ∀ b o, b ≠ s.heap.objs.size → ((s.heap.push { cls := .type "list", data := .seq ([] : List Value).toArray }).push (itO 0 0 a L.length ep)).get? b = some o →
      ((((s.heap.push { cls := .type "list", data := .seq ([] : List Value).toArray }).push (itO 0 0 a L.length ep)).update s.heap.objs.size (Obj.mapSeq (·.push Value.none))).update s.heap.objs.size (Obj.mapSeq (·.pop))).get? b = some o :=
    fun b o hb e => (Heap.get?_update_other _ _ (Ne.symm hb)).trans ((Heap.get?_update_other _ _ (Ne.symm hb)).trans e)
  have neI : a ≠ (s.heap.push { cls := .type "list", data := .seq ([] : List Value).toArray }).objs.size := by rw [lsz]; exact Nat.ne_of_lt (Nat.lt_succ_of_lt lt)
  have W := (sWalks (prog := prog) (w := w) (A := A.in1) (I := (s.heap.push { cls := .type "list", data := .seq ([] : List Value).toArray }).objs.size) (ep := ep) (by simpa using hh) neI hE T).toS
  have l16 := T.len
  have sl0 : slotOf (byT w) t 0 = 0 := by unfold slotOf; split <;> rfl
  refine wpAny_pure ⟨plainId_quiet F.plain_extend_loop _, codeAny_extend_loopS W (by rw [sizeLine_eq]; omega) _ (by
      rw [lsz]; simp only [List.mem_cons, List.not_mem_nil, or_false, not_or]; exact ⟨Nat.ne_of_lt (Nat.lt_succ_self _), Nat.ne_of_gt lt⟩) _ _ 0 _ #[] _ rfl (Nat.zero_le _) ⟨?_, ?_⟩ S3 (ItemsOf.nil _) fun s' acc' c' hm hS' hacc => ?_⟩
  · refine oth _ _ (by rw [lsz]; exact Nat.ne_of_gt (Nat.lt_succ_self _)) ?_
    rw [sl0]
    exact Heap.get?_push_size _ rfl
  · exact oth _ _ (Nat.ne_of_lt lt) ho2
  · obtain ⟨h', g', d', tk', os'⟩ := s'
    have eg : g' = s.gens := hm.gens
    have ed : d' = s.drawn := hm.drawn
    have eo : os' = s.os := hm.os
    subst eg; subst ed; subst eo
    show wpAny _ A (load s.heap.objs.size >>= _) _ _ _
    refine wpAny_bind (wpAny_load hS' ?_)
    dsimp only
    have el : acc'.toList = (walked w a ep es).toList.map (·.2) := by
      apply List.ext_getElem?
      intro i
      rw [Array.getElem?_toList, List.getElem?_map, Array.getElem?_toList]
      rcases Nat.lt_or_ge i acc'.size with q | q
      · obtain ⟨e, he, hv⟩ := hacc.2 i acc'[i] (Array.getElem?_eq_getElem q)
        rw [Array.getElem?_eq_getElem q, he, hv]
        rfl
      · rw [Array.getElem?_eq_none q, Array.getElem?_eq_none (by rw [walked_size, hE.len, ← hacc.1]; exact q)]
        rfl
    rw [el]
    refine wpAny_pure (h h' tk' (fun b o e => ?_) (Heap.lt_size hS'))
    have lb : b < s.heap.objs.size := Heap.lt_size e
    refine hm.heap b o (by rw [lsz]; simp only [List.mem_cons, List.not_mem_nil, or_false, not_or]; exact ⟨Nat.ne_of_lt lb, Nat.ne_of_lt (Nat.lt_succ_of_lt lb)⟩) (oth b o (Nat.ne_of_lt lb) (Heap.get?_push_of_some _ (Heap.get?_push_of_some _ e)))
theorem sh_old {h : Heap} {a b : Addr} {vs : List Value} {out : Array Value} {o : Obj} (lb : b < h.objs.size) (ne : b ≠ a) (e : h.get? b = some o) : (sortedHeap h a vs out).get? b = some o := by
  unfold sortedHeap
  rw [Heap.get?_update_ne _ _ _ _ ne]
  exact Heap.get?_push_of_some _ (Heap.get?_push_of_some _ (by rw [Heap.get?_update_ne _ _ _ _ ne]; exact e))
theorem sh_at {h : Heap} {a : Addr} {vs : List Value} {xs out : Array Value} {n : Nat} (e : h.get? a = some (seqObj "list" xs n)) : ∃ n', (sortedHeap h a vs out).get? a = some (seqObj "list" out n') := by
  unfold sortedHeap
  exact ⟨_, get?_update_seq (Heap.get?_push_of_some _ (Heap.get?_push_of_some _ (get?_update_seq e fun _ => #[]))) fun _ => out⟩
/-- sorted(x), x a set of small numbers -/
theorem sorted_set {Q : Value → Shared → Prop} (hh : A.handled = none) (S : SetAt (byT w) s.heap a L)
    (h : ∀ (h' : Heap) (tk : Nat) (p : Addr) (vs : List Value) (n : Nat) (ns : List Int), (∀ b o, s.heap.get? b = some o → h'.get? b = some o) → s.heap.objs.size ≤ p → h'.get? p = some (seqObj "list" vs.toArray n) → IntsAre vs ns →
      ns.Perm (L.map fun v => ((v : Nat) : Int)) → ns.Pairwise (· ≤ ·) → Q (.ref p) { s with heap := h', toks := tk }) : wpAny (model prog w) A (call (.builtin "sorted") [.ref a]) Q E s := by
  obtain ⟨es, ep, t, ho, hE, T⟩ := S
  have l16 := T.len
  apply Calls.call_function_entry kind_sorted plain_sorted entry_sorted (args_sorted1 _)
  unfold Builtin.«sorted»
  refine wpAny_bind (m := checkCount "sorted" 1 1 _) (wpAny_pure ?_); refine wpAny_bind (collect_set (by simpa using hh) ho hE T fun h1 tk k lz => ?_)
  obtain ⟨L', hP, pm⟩ := hE.perm (walked_perm w a ep es)
  have hl : L'.length = L.length := pm.length_eq
  have hI : IntsAre ((walked w a ep es).toList.map (·.2)) (L'.map fun v => ((v : Nat) : Int)) := by
    generalize (walked w a ep es).toList = l at hP
    clear pm hl
    induction hP with
    | nil => exact .nil
    | cons r _ ih =>
      obtain ⟨q, e⟩ := r.2
      rw [List.map_cons, List.map_cons, e]
      exact .cons _ q ih
  have hn : ((walked w a ep es).toList.map (·.2)).length = L.length := by rw [List.length_map, Array.length_toList, walked_size, hE.len]
  refine wpAny_bind (wpAny_newList ?_ (by rw [hn, sizeLine_eq]; omega))
  have o1 : (h1.push (seqObj "list" ((walked w a ep es).toList.map (·.2)).toArray 0)).get? h1.objs.size = some (seqObj "list" ((walked w a ep es).toList.map (·.2)).toArray 0) := Heap.get?_push_size _ rfl
  refine wpAny_bind (wpAny_holding (wpAny_call_entry slot_list_sort ⟨_, o1, rfl⟩ entry_list_sort (list_sort_tree o1 hI (by rw [hn]; omega) fun out ns a1 a2 a3 => ⟨_, rfl, ?_⟩) (args_list_sort _)))
  obtain ⟨n', o2⟩ := sh_at (vs := (walked w a ep es).toList.map (·.2)) (out := out) o1
  refine wpAny_pure ⟨_, rfl, h _ _ _ out.toList n' ns (fun b o e => ?_) (Nat.le_of_lt lz) (by simpa using o2) a1 (a2.trans (pm.map _)) a3⟩
  have lb : b < h1.objs.size := Nat.lt_trans (Heap.lt_size e) lz
  exact sh_old (by rw [size_push']; exact Nat.lt_succ_of_lt lb) (Nat.ne_of_lt lb) (Heap.get?_push_of_some _ (k b o e))
end
end Sm

set_option maxHeartbeats 4000000
namespace Sm
open PySem PyProof.Rows
section
variable {prog : Program} {w : World} {A : Around} {R : Result → Shared → Prop} {I : Addr} {fp wr : List Addr} {G : Array GenState → Array GenState → Prop} {n : Nat} {P : Nat → Value → Prop} {St : Nat → Shared → Prop}
theorem fill_at (W : WalksS prog w A.in1 I fp wr G n P St) (S : Addr) (nf : S ∉ fp) (val : Nat → Nat) (hv : ∀ i v, i < n → P i v → ∃ t, v = .int ((val i : Nat) : Int) t) (lt : ∀ i, i < n → val i < 16) :
    ∀ (k i : Nat) (s : Shared) (L : List Nat), n - i = k → i ≤ n → St i s → SetAt (byT w) s.heap S L → Dense s.heap S → (∀ u, u ∈ L ↔ ∃ j, j < i ∧ val j = u) →
      (∀ s' L', Moved (S :: wr) G s s' → SetAt (byT w) s'.heap S L' → Dense s'.heap S → (∀ u, u ∈ L' ↔ ∃ j, j < n ∧ val j = u) → R (.ok (.ret .none)) s') →
      codeAny (model prog w) A (.builtin "set.update.loop" ⟨[.ref S, .ref I], []⟩) R s := by
  have nw : S ∉ wr := fun h => nf (W.sub _ h)
  have up : ∀ b ∈ wr, b ∈ S :: wr := fun b hb => List.mem_cons_of_mem _ hb
  intro k
  induction k with
  | zero =>
    intro i s L hk hi st hS hD mem hR
    obtain rfl : i = n := by omega
    refine codeAny_builtin F.entry_set_update_loop ?_
    rw [Around.under_plainId F.plain_set_update_loop _]; show wpAny _ A.in1 (pyNext (.ref I) >>= _) _ _ s; refine wpAny_bind (W.done s _ _ st fun s' hm => ?_)
    exact wpAny_pure (hR s' L (hm.mono up) (hS.keep fun o e => hm.heap S o nw e) (hD.keep fun o e => hm.heap S o nw e) mem)
  | succ k ih =>
    intro i s L hk hi st hS hD mem hR
    have li : i < n := by omega
    refine codeAny_builtin F.entry_set_update_loop ?_
    rw [Around.under_plainId F.plain_set_update_loop _]; show wpAny _ A.in1 (pyNext (.ref I) >>= _) _ _ s; refine wpAny_bind (W.item i s _ _ li st fun v s' hP st' hm => ?_)
    obtain ⟨t, rfl⟩ := hv i v li hP
    have hS' := hS.keep fun o e => hm.heap S o nw e
    have hD' := hD.keep fun o e => hm.heap S o nw e
    show wpAny _ A.in1 (holding [Value.int ((val i : Nat) : Int) t] (setAdd S (.int ((val i : Nat) : Int) t)) >>= _) _ _ s'
    refine wpAny_bind (wpAny_holding ?_)
    unfold setAdd
    refine wpAny_holding (wpAny_bind ((intKind prog w).pyHash (k := ((val i : Nat) : Int)) (intKind_is _ _ _ _) ?_))
    have eh : (intKind prog w).hash ((val i : Nat) : Int) = ((val i : Nat) : Int) := hash16 _ (lt i li)
    rw [eh]
    refine add_at (s := { s' with toks := s'.toks + 1 }) hS' (lt i li) fun b h' L' sb S2 mem2 dn => ?_
    refine wpAny_pure ⟨plainId_quiet F.plain_set_update_loop _, ih (i + 1) _ L' (by omega) li (W.frame _ s' _ _ st' (Nat.le_succ _) fun c hc o e => ?_) S2 (dn hD') (fun u => ?_) fun s2 L2 hm2 h2 h3 h4 => hR s2 L2 (Moved.trans W.gtrans ((hm.mono up).then_heap (Nat.le_succ _) fun c o hc e => ?_) hm2) h2 h3 h4⟩
    · rw [sb.2 c (fun q : c = S => nf (by rw [← q]; exact hc))]; exact e
    · rw [mem2 u, mem u]
      constructor
      · rintro (rfl | ⟨j, hj, e⟩)
        · exact ⟨i, Nat.lt_succ_self _, rfl⟩
        · exact ⟨j, Nat.lt_succ_of_lt hj, e⟩
      · rintro ⟨j, hj, e⟩
        rcases Nat.lt_or_ge j i with q | q
        · exact .inr ⟨j, q, e⟩
        · obtain rfl : j = i := by omega
          exact .inl e.symm
    · rw [sb.2 c (fun q : c = S => hc (by rw [q]; exact List.mem_cons_self))]; exact e
end
section
variable {prog : Program} {w : World} {A : Around} {E : Value → Shared → Prop} {s : Shared}
theorem newS_at (a : Value) {Q : Value → Shared → Prop} (h : Q (.ref s.heap.objs.size) { s with heap := s.heap.push (setO #[] 0 (.fresh 0 0 (!byT w))) }) :
    codeAny (model prog w) A (.call (.builtin "set.__new__") ⟨[.type "set", a], []⟩) (wants Q E) s := by
  refine codeAny_of_tree ?_
  show wpAny _ A.in1 (do checkBuiltinCall "set.__new__" ⟨[.type "set", a], []⟩; again (.builtin "set.__new__" ⟨[.type "set", a], []⟩)) _ _ s; refine wpAny_bind (wpAny_of_eq (F.newCall_set_1 a) (wpAny_pure ⟨plainId_quiet F.plain_set_new _, codeAny_builtin F.entry_set_new ?_⟩))
  rw [Around.under_plainId F.plain_set_new _]
  unfold Builtin.«set.__new__» Builtin.Frozenset.newClass
  have hsub := sub_set_self
  obtain ⟨hp, g, d, tk, os⟩ := s
  dsimp only at h ⊢
  wp_walk
  refine wpAny_askSetting (wpAny_pure ?_)
  dsimp only
  simp only [newObj]
  exact wpAny_bind (wpAny_alloc (wpAny_pure (wpAny_pure h)))
set_option maxHeartbeats 8000000 in
/-- set(xs), xs a list of small numbers -/
theorem set_at {l : Addr} {items : Array Value} {vals : List Nat} {Q : Value → Shared → Prop} (hh : A.handled = none) (hl : s.heap.IsList l items) (hi : IntsAre items.toList (vals.map fun v => ((v : Nat) : Int))) (lt : ∀ v ∈ vals, v < 16)
    (h : ∀ (h' : Heap) (tk : Nat) (L : List Nat), SetAt (byT w) h' s.heap.objs.size L → Dense h' s.heap.objs.size → (∀ u, u ∈ L ↔ u ∈ vals) → (∀ b o, b < s.heap.objs.size → s.heap.get? b = some o → h'.get? b = some o) → Q (.ref s.heap.objs.size) { s with heap := h', toks := tk }) :
    wpAny (model prog w) A (call (.type "set") [.ref l]) Q E s := by
  obtain ⟨c, tl, hmro⟩ := F.called_set.mro
  have hmade := F.called_set.made
  have hsub := F.called_set.sub
  have hlen : items.size = vals.length := by
    have := hi.length
    simpa using this
  refine wpAny_call (codeAny_of_tree ?_)
  show wpAny _ _ (callAny (.type "set") _) _ _ _; refine wpAny_pure ⟨Code.quiet_builtin _ (by decide +kernel), codeAny_builtin F.entry_type_call ?_⟩
  rw [Around.under_plain (weight_type_call_type "set" [.ref l] []) rfl]; have h1 := F.called_set.notType
  have h2 := F.called_set.canCreate
  have hct := F.typeCall_set_1 (.ref l)
  repeat (any_goals (first | assumption | wp_step))
  refine codeAny_mono (newS_at (.ref l) (E := E) (Q := fun obj s₁ => obj = .ref s.heap.objs.size ∧ s₁ = { s with heap := s.heap.push (setO #[] 0 (.fresh 0 0 (!byT w))) }) ⟨rfl, rfl⟩) fun r s₁ hr => ?_
  cases r with
  | error e => exact hr
  | ok fl =>
    cases fl with
    | ret obj =>
      obtain ⟨rfl, rfl⟩ := hr
      have gS : (s.heap.push (setO #[] 0 (.fresh 0 0 (!byT w)))).get? s.heap.objs.size = some (setO #[] 0 (.fresh 0 0 (!byT w))) := Heap.get?_push_size _ rfl
      have hT : Shared.TypeIs { s with heap := s.heap.push (setO #[] 0 (.fresh 0 0 (!byT w))) } (.ref s.heap.objs.size) "set" := ⟨_, gS, rfl⟩
      have hli := F.called_set.init.lookup
      have hbi := F.called_set.init.bind (.ref s.heap.objs.size)
      repeat (any_goals (first | assumption | wp_step))
      refine codeAny_mono (codeAny_call_builtin (R := wants (fun r s₂ => r = .none ∧ ∃ h' tk L, s₂ = { s with heap := h', toks := tk } ∧ SetAt (byT w) h' s.heap.objs.size L ∧ Dense h' s.heap.objs.size ∧ (∀ u, u ∈ L ↔ u ∈ vals) ∧
          (∀ b o, b < s.heap.objs.size → s.heap.get? b = some o → h'.get? b = some o)) E) F.called_set.init.plain F.entry_set_init (check_set_init_1 hT ?_)) fun r₂ s₂ hr₂ => ?_
      · obtain ⟨ol, hol, hcl, nl, hdl⟩ := hl
        obtain ⟨ocls, odict, odata, oslots⟩ := ol
        simp only at hcl hdl
        subst hcl; subst hdl
        have hol' : (s.heap.push (setO #[] 0 (.fresh 0 0 (!byT w)))).get? l = some { cls := .type "list", dict := odict, data := .seq items nl, slots := oslots } := Heap.get?_push_of_some _ hol
        have hsls := F.sub_list_set
        have hslf := F.sub_list_frozenset
        have hne : (Value.type "list" == Value.type "dict") = false := by decide
        have hl1 : (s.heap.push (setO #[] 0 (.fresh 0 0 (!byT w)))).IsList l items := ⟨_, hol', rfl, nl, rfl⟩
        unfold Builtin.«set.__init__» noKeywords Builtin.Frozenset.updateFrom
        generalize hPI : pyIter = PI
        wp_walk
        subst hPI
        refine wpAny_pyIter_list hl1 (wpAny_bind (wpAny_runValue ?_))
        have ll : l < s.heap.objs.size := Heap.lt_size hol
        have hh3 : A.in1.in1.in1.handled = none := by simp [hh]
        have ni : l ≠ (s.heap.push (setO #[] 0 (.fresh 0 0 (!byT w)))).objs.size := by rw [Heap.size_push]; exact Nat.ne_of_lt (Nat.lt_succ_of_lt ll)
        have nf : s.heap.objs.size ∉ [(s.heap.push (setO #[] 0 (.fresh 0 0 (!byT w)))).objs.size, l] := by
          rw [Heap.size_push]; simp only [List.mem_cons, List.not_mem_nil, or_false, not_or]
          exact ⟨Nat.ne_of_lt (Nat.lt_succ_self _), Nat.ne_of_gt ll⟩
        have hval : ∀ (i : Nat) (v : Value), i < items.size → items[i]? = some v → ∃ t, v = .int (((fun i => vals.getD i 0) i : Nat) : Int) t := fun i v li hv => by
          obtain ⟨t, e⟩ := PyProof.Rows.IntsAre.int_at hi i v (by rw [Array.getElem?_toList]; exact hv)
          have lv : i < vals.length := by omega
          refine ⟨t, ?_⟩
          rw [e]
          simp [List.getD, lv]
        refine fill_at ((Walks.list hh3 _ l ni items).toS) s.heap.objs.size nf (fun i => vals.getD i 0) hval (fun i li => ?_) (items.size - 0) 0 _ [] (by omega) (Nat.zero_le _) ⟨⟨_, Heap.get?_push_size _ rfl, rfl, rfl⟩, (hl1.push _)⟩ ?hS0 ?hD0 (fun u => by simp) ?hR
        · have lv : i < vals.length := by omega
          refine lt _ ?_
          simp [List.getD, lv]
        case hS0 => exact ⟨#[], 0, _, Heap.get?_push_of_some _ gS, .nil, fresh_tb _⟩
        case hD0 => exact ⟨#[], 0, _, Heap.get?_push_of_some _ gS, .inl rfl⟩
        case hR =>
          intro s' L' hm hS' hD' mem
          obtain ⟨h', g', d', tk', os'⟩ := s'
          have eg : g' = s.gens := hm.gens
          have ed : d' = s.drawn := hm.drawn
          have eo : os' = s.os := hm.os
          subst eg; subst ed; subst eo
          show wpAny _ _ _ _ _ _
          refine wpAny_pure ?_
          show wpAny _ _ (ret Value.none) _ _ _; refine wpAny_pure ⟨rfl, h', tk', L', rfl, hS', hD', fun u => ?_, fun b o hb e => ?_⟩
          · rw [mem u]
            constructor
            · rintro ⟨j, hj, rfl⟩
              have lv : j < vals.length := by omega
              simp [List.getD, lv]
            · intro hu
              obtain ⟨j, hj, e⟩ := List.getElem_of_mem hu
              exact ⟨j, by omega, by simp [List.getD, hj, e]⟩
          · have b1 : b ≠ s.heap.objs.size := Nat.ne_of_lt hb
            have b2 : b ≠ (s.heap.push (setO #[] 0 (.fresh 0 0 (!byT w)))).objs.size := by rw [Heap.size_push]; exact Nat.ne_of_lt (Nat.lt_succ_of_lt hb)
            exact hm.heap b o (by simp only [List.mem_cons, List.not_mem_nil, or_false, not_or]; exact ⟨b1, b2⟩) (Heap.get?_push_of_some _ (Heap.get?_push_of_some _ e))
      · cases r₂ with
        | error e => exact hr₂
        | ok fl₂ =>
          cases fl₂ with
          | ret r =>
            obtain ⟨rfl, h', tk, L, rfl, q1, q2, q3, q4⟩ := hr₂
            repeat (any_goals (first | assumption | wp_step))
            exact h _ _ L q1 q2 q3 q4
          | _ => exact hr₂.elim
    | _ => exact hr.elim
end
end Sm

set_option maxHeartbeats 4100000
namespace L2
open PySem PySem.Spec PyProof.Rows Sm
/-- a set of small numbers, as a thing of the heap; d: its table is no greater than it grows by itself -/
def SetV (w : World) (a : Addr) (d : Bool) (L : List Nat) : HO := .ext fun h => SetAt (byT w) h a L ∧ (d = true → Dense h a)
def Small (ns : List Int) : Prop := ∀ n ∈ ns, 0 ≤ n ∧ n < 16
/-- rising, each once, of those below sixteen that p tells -/
def upF (p : Int → Bool) : List Int := ((List.range 16).map fun i => ((i : Nat) : Int)).filter p
theorem upF_up (p : Int → Bool) : (upF p).Pairwise (· < ·) := by
  unfold upF
  refine List.Pairwise.filter _ ?_
  rw [List.pairwise_map]
  exact List.pairwise_lt_range.imp fun h => by omega
theorem mem_upF {p : Int → Bool} {v : Int} : v ∈ upF p ↔ 0 ≤ v ∧ v < 16 ∧ p v = true := by
  unfold upF
  rw [List.mem_filter, List.mem_map]
  constructor
  · rintro ⟨⟨i, hi, rfl⟩, h⟩
    have := List.mem_range.mp hi
    exact ⟨by omega, by omega, h⟩
  · rintro ⟨h0, h1, h⟩
    exact ⟨⟨v.toNat, List.mem_range.mpr (by omega), by omega⟩, h⟩
/-- two rising lists with the same members are one -/
theorem up_eq : ∀ {xs ys : List Int}, xs.Pairwise (· < ·) → ys.Pairwise (· < ·) → (∀ v, v ∈ xs ↔ v ∈ ys) → xs = ys
  | [], [], _, _, _ => rfl
  | [], y :: ys, _, _, h => absurd ((h y).mpr List.mem_cons_self) List.not_mem_nil
  | x :: xs, [], _, _, h => absurd ((h x).mp List.mem_cons_self) List.not_mem_nil
  | x :: xs, y :: ys, hx, hy, h => by
    obtain ⟨x1, x2⟩ := List.pairwise_cons.mp hx
    obtain ⟨y1, y2⟩ := List.pairwise_cons.mp hy
    have e : x = y := by
      rcases List.mem_cons.mp ((h x).mp List.mem_cons_self) with e | e
      · exact e
      · rcases List.mem_cons.mp ((h y).mpr List.mem_cons_self) with f | f
        · exact f.symm
        · have a := y1 x e
          have b := x1 y f
          omega
    subst e
    congr 1
    refine up_eq x2 y2 fun v => ?_
    constructor
    · intro q
      rcases List.mem_cons.mp ((h v).mp (List.mem_cons_of_mem _ q)) with e | e
      · subst e; have := x1 v q; omega
      · exact e
    · intro q
      rcases List.mem_cons.mp ((h v).mpr (List.mem_cons_of_mem _ q)) with e | e
      · subst e; have := y1 v q; omega
      · exact e
def rSetS (w : World) (K : PySem.W.Frag) : List V → Hp → VK → Prop := fun xs H Q => ∃ l ns, xs = [.ref l] ∧ SqL K H l (List.map V.int ns) ∧ Small ns ∧ ∀ p L H', New H p (SetV w p true L) H' → (∀ u : Nat, u ∈ L ↔ (u : Int) ∈ ns) → Q (.ref p) H'
def rSortS (w : World) : List V → Hp → VK → Prop := fun xs H Q => ∃ a d L, xs = [.ref a] ∧ H a = some (SetV w a d L) ∧ ∀ p H', New H p (.lst ((upF fun v => decide (v.toNat ∈ L)).map V.int)) H' → Q (.ref p) H'
def rSortI (K : PySem.W.Frag) : List V → Hp → VK → Prop := fun xs H Q => ∃ l ns, xs = [.ref l] ∧ SqL K H l (List.map V.int ns) ∧ ns.length < 64 ∧ ∀ p H' zs, New H p (.lst (List.map V.int zs)) H' → zs.Perm ns → zs.Pairwise (· ≤ ·) → Q (.ref p) H'
theorem ints_from : ∀ {vs : List Value} {ns : List Int}, IntsAre vs ns → Vals (ns.map V.int) vs
  | _, _, .nil => .nil
  | _, _, .cons n t r => .cons ⟨t, rfl⟩ (ints_from r)
theorem up_small {xs : List Int} {L : List Nat} (pm : xs.Perm (L.map fun v => ((v : Nat) : Int))) (nd : L.Nodup) (lt : ∀ v ∈ L, v < 16) (le : xs.Pairwise (· ≤ ·)) : xs = upF fun v => decide (v.toNat ∈ L) := by
  have nd2 : xs.Nodup := pm.nodup_iff.mpr (by
    unfold List.Nodup
    rw [List.pairwise_map]
    exact nd.imp fun h e => h (by omega))
  have lt2 : xs.Pairwise (· < ·) := by
    unfold List.Nodup at nd2
    exact (le.and nd2).imp fun h => by omega
  refine up_eq lt2 (upF_up _) fun v => ?_
  rw [pm.mem_iff, mem_upF, List.mem_map]
  constructor
  · rintro ⟨u, hu, rfl⟩
    have := lt u hu
    exact ⟨by omega, by omega, decide_eq_true (by rw [Int.toNat_natCast]; exact hu)⟩
  · rintro ⟨h0, h1, h⟩
    exact ⟨v.toNat, of_decide_eq_true h, by omega⟩
section
variable {X : Cx} {K : PySem.W.Frag} {w : World}
theorem setV_ok {H : Hp} {h : Heap} {a : Addr} {d : Bool} {L : List Nat} {P : Program} {w' : World} (S : SetAt (byT w) h a L) (D : d = true → Dense h a) : ObjOk P w' H h a (SetV w a d L) := by
  refine ⟨⟨S, D⟩, ?_, ?_⟩
  · obtain ⟨_, _, _, ho, _⟩ := S
    exact ⟨_, ho⟩
  · rintro h1 h2 ⟨s1, d1⟩ k
    exact ⟨s1.keep k, fun e => (d1 e).keep k⟩
theorem call_setS (ek : X.K = K) (ew : X.w = w) (cm : X.calm = true) : CallR X (.type "set") (rSetS w K) := by
  subst ek; subst ew
  intro pins s σ H xs us Q I r h
  obtain ⟨l, ns, rfl, hL, sm, q⟩ := h
  obtain ⟨u, rfl, rx⟩ := vals1 r
  cases rx
  obtain ⟨its, r', pl, hz⟩ := I.list hL
  have hi := ints_of r'
  have e : (ns.map Int.toNat).map (fun v => ((v : Nat) : Int)) = ns := by
    rw [List.map_map]
    have : ∀ n ∈ ns, ((fun v => ((v : Nat) : Int)) ∘ Int.toNat) n = id n := fun n hn => by
      have := (sm n hn).1
      show ((n.toNat : Nat) : Int) = n
      omega
    rw [List.map_congr_left this, List.map_id]
  refine set_at (vals := ns.map Int.toNat) (I.ok.hd cm) pl.isList (by rw [e]; simpa using hi) (fun v hv => ?_) fun h' tk L S D mem k => ?_
  · obtain ⟨n, hn, rfl⟩ := List.mem_map.mp hv
    have := sm n hn
    omega
  · have hf : H s.heap.objs.size = none := I.hok.fresh (Nat.le_refl _)
    refine ⟨.ref s.heap.objs.size, _, I.laid (t' := tk) (o := SetV X.w s.heap.objs.size true L) (fun b o eo => k b o (Heap.lt_size eo) eo) (Nat.le_refl _) (setV_ok S fun _ => D), rfl, q _ L _ (New.mk0 hf) fun u => ?_⟩
    rw [mem u, List.mem_map]
    constructor
    · rintro ⟨n, hn, rfl⟩
      have := (sm n hn).1
      have e2 : ((n.toNat : Nat) : Int) = n := by omega
      rw [e2]; exact hn
    · intro hn
      exact ⟨_, hn, by omega⟩
theorem call_sortedS (ew : X.w = w) (cm : X.calm = true) : CallR X (.builtin "sorted") (rSortS w) := by
  subst ew
  intro pins s σ H xs us Q I r h
  obtain ⟨a, d, L, rfl, hA, q⟩ := h
  obtain ⟨u, rfl, rx⟩ := vals1 r
  cases rx
  obtain ⟨⟨S, _⟩, _⟩ := I.hok a _ hA
  obtain ⟨_, _, t, _, _, T⟩ := id S
  refine sorted_set (I.ok.hd cm) S fun h' tk p vs n ns k hp ho hi pm le => ?_
  have e := up_small pm T.nd T.lt le
  subst e
  have l16 : (upF fun v => decide (v.toNat ∈ L)).length ≤ 16 := by rw [pm.length_eq, List.length_map]; exact T.len
  have hf : H p = none := I.hok.fresh hp
  refine ⟨.ref p, _, I.laid (t' := tk) (o := .lst ((upF fun v => decide (v.toNat ∈ L)).map V.int)) k hp ⟨?_, vs, n, ints_from hi, ho⟩, rfl, q p _ (New.mk0 hf)⟩
  rw [List.length_map, sizeLine_eq]
  omega
theorem call_sortedI (e : X.K = K) : CallR X (.builtin "sorted") (rSortI K) := by
  subst e
  intro pins s σ H xs us Q I r h
  obtain ⟨l, ns, rfl, hL, h64, q⟩ := h
  obtain ⟨u, rfl, rx⟩ := vals1 r
  cases rx
  obtain ⟨its, r', pl, hz⟩ := I.list hL
  have hlen := r'.length
  rw [List.length_map] at hlen
  refine sorted_ints (ns := ns) pl.isList (ints_of r') (by omega) fun out zs hi pm le => ?_
  obtain ⟨c, hc⟩ := sortedAll_at s.heap its out
  refine ⟨.ref (s.heap.objs.size + 1), _, I.laid (t' := s.toks) (o := .lst (zs.map V.int)) (fun b o eo => sortedAll_old eo) (Nat.le_succ _) ⟨?_, out.toList, c, ints_from hi, by simpa using hc⟩, rfl, q _ _ zs (New.mk0 (I.hok.fresh (Nat.le_succ _))) pm le⟩
  rw [List.length_map, pm.length_eq, sizeLine_eq]
  omega
end
end L2

namespace L2
open PySem PySem.Spec PyProof.Rows
/-! ### for x, y in zip(xs, ys) -/
section
variable {X : Cx} {K : PySem.W.Frag}
end
end L2

namespace L2
open PySem PySem.Spec PyProof.Rows
theorem us1 {A : Type} {us : List A} {P : List A → Prop} (h : us.length = 1) (f : ∀ a, P [a]) : P us := by
  match us, h with
  | [a], _ => exact f a
theorem us2 {A : Type} {us : List A} {P : List A → Prop} (h : us.length = 2) (f : ∀ a b, P [a, b]) : P us := by
  match us, h with
  | [a, b], _ => exact f a b
theorem us3 {A : Type} {us : List A} {P : List A → Prop} (h : us.length = 3) (f : ∀ a b c, P [a, b, c]) : P us := by
  match us, h with
  | [a, b, c], _ => exact f a b c
theorem dn_mk1 {K : PySem.W.Frag} {h : Heap} {mg : Str → Option Value} {x : Str} {st : Stmt} {ps : List Str} {f : Addr} {oc : Value} {od an : Option Addr} {osl : Array (Option Value)} {kV doc pm cdv ct : Value} (X : K.In h) (G : h.Ns mainGlobals mg)
    (a : PySem.W.nsIn K mainGlobals x = some (some (.ref f))) (l : K.lookup f = some ⟨oc, od, .func (PySem.W.fnOf x x (defArgs st) (defBody st) (defScope st) .none kV doc pm an cdv ct), osl⟩) (c : PySem.W.codeIn K cdv x = true) (k : PySem.W.keepIn K (.ref f) = true)
    (hp : ps.length = 1)
    (hb : ∀ (kV doc pm : Value) (an : Option Addr) (cdv ct : Value) (u0 : Value), bindArgs (PySem.W.fnOf x x (defArgs st) (defBody st) (defScope st) .none kV doc pm an cdv ct) ⟨[u0], []⟩ = pure (ps.zip [u0])) :
    Nonempty (Dn K mg x st ps) :=
  dn_mk X G a l c k fun kV doc pm an cdv ct us hl => us1 (P := fun us => bindArgs (PySem.W.fnOf x x (defArgs st) (defBody st) (defScope st) .none kV doc pm an cdv ct) ⟨us, []⟩ = pure (ps.zip us)) (hl.trans hp) fun u0 => hb kV doc pm an cdv ct u0
theorem dn_mk2 {K : PySem.W.Frag} {h : Heap} {mg : Str → Option Value} {x : Str} {st : Stmt} {ps : List Str} {f : Addr} {oc : Value} {od an : Option Addr} {osl : Array (Option Value)} {kV doc pm cdv ct : Value} (X : K.In h) (G : h.Ns mainGlobals mg)
    (a : PySem.W.nsIn K mainGlobals x = some (some (.ref f))) (l : K.lookup f = some ⟨oc, od, .func (PySem.W.fnOf x x (defArgs st) (defBody st) (defScope st) .none kV doc pm an cdv ct), osl⟩) (c : PySem.W.codeIn K cdv x = true) (k : PySem.W.keepIn K (.ref f) = true)
    (hp : ps.length = 2)
    (hb : ∀ (kV doc pm : Value) (an : Option Addr) (cdv ct : Value) (u0 u1 : Value), bindArgs (PySem.W.fnOf x x (defArgs st) (defBody st) (defScope st) .none kV doc pm an cdv ct) ⟨[u0, u1], []⟩ = pure (ps.zip [u0, u1])) :
    Nonempty (Dn K mg x st ps) :=
  dn_mk X G a l c k fun kV doc pm an cdv ct us hl => us2 (P := fun us => bindArgs (PySem.W.fnOf x x (defArgs st) (defBody st) (defScope st) .none kV doc pm an cdv ct) ⟨us, []⟩ = pure (ps.zip us)) (hl.trans hp) fun u0 u1 => hb kV doc pm an cdv ct u0 u1
theorem dn_mk3 {K : PySem.W.Frag} {h : Heap} {mg : Str → Option Value} {x : Str} {st : Stmt} {ps : List Str} {f : Addr} {oc : Value} {od an : Option Addr} {osl : Array (Option Value)} {kV doc pm cdv ct : Value} (X : K.In h) (G : h.Ns mainGlobals mg)
    (a : PySem.W.nsIn K mainGlobals x = some (some (.ref f))) (l : K.lookup f = some ⟨oc, od, .func (PySem.W.fnOf x x (defArgs st) (defBody st) (defScope st) .none kV doc pm an cdv ct), osl⟩) (c : PySem.W.codeIn K cdv x = true) (k : PySem.W.keepIn K (.ref f) = true)
    (hp : ps.length = 3)
    (hb : ∀ (kV doc pm : Value) (an : Option Addr) (cdv ct : Value) (u0 u1 u2 : Value), bindArgs (PySem.W.fnOf x x (defArgs st) (defBody st) (defScope st) .none kV doc pm an cdv ct) ⟨[u0, u1, u2], []⟩ = pure (ps.zip [u0, u1, u2])) :
    Nonempty (Dn K mg x st ps) :=
  dn_mk X G a l c k fun kV doc pm an cdv ct us hl => us3 (P := fun us => bindArgs (PySem.W.fnOf x x (defArgs st) (defBody st) (defScope st) .none kV doc pm an cdv ct) ⟨us, []⟩ = pure (ps.zip us)) (hl.trans hp) fun u0 u1 u2 => hb kV doc pm an cdv ct u0 u1 u2
end L2

set_option maxHeartbeats 4100000
namespace Ls
open PySem PyProof.Rows PySem.Calls PySem.W PySem.SeqAt
open AutoSeq1 (wpAny_loadPart')
open MeetsSeq MeetsSeq2 MeetsSeq3
section
variable {prog : Program} {w : World} {A : Around} {E : Value → Shared → Prop} {s : Shared}
end
end Ls

set_option maxHeartbeats 4100000
namespace Srt
open PySem PyProof.Rows PySem.Calls PySem.W
section
variable {prog : Program} {wo : World} {A : Around} {E : Value → Shared → Prop} {s : Shared}
end
end Srt
namespace L2
open PySem PySem.Spec PyProof.Rows Bg Srt
def LstV (K : PySem.W.Frag) (H : Hp) (v : V) (ns : List Int) : Prop := ∃ p, v = .ref p ∧ SqL K H p (ns.map V.int)
section
variable {X : Cx} {K : PySem.W.Frag}
/-! ### xs[::-1] -/
end
end L2


namespace K
open PySem L2 Lw Bg
def top (i : Nat) : Stmt := PySem.Challenge.pw_bagwood_k17_whole_touching_sets_meet.main.body.getD i (.Pass ⟨0, 0, 0, 0⟩)
abbrev s_is_whole : Stmt := top 4
theorem sc_is_whole : FnScope ["thing"] ["thing"] (defScope s_is_whole) := ⟨rfl, rfl, rfl, by decide +kernel, rfl, by decide +kernel, by decide +kernel⟩
abbrev s_is_below : Stmt := top 5
theorem sc_is_below : FnScope ["n", "thing"] ["n", "thing"] (defScope s_is_below) := ⟨rfl, rfl, rfl, by decide +kernel, rfl, by decide +kernel, by decide +kernel⟩
def spWhole (K : PySem.W.Frag) : Sp := fun vs H Q _ => ∃ (x : V) (t : Value) (bi bb : Bool), vs = [x] ∧ TyOf K H x t ∧ PySem.W.kitOne K t (.type "int") = some bi ∧ PySem.W.kitOne K t (.type "bool") = some bb ∧ Q (.bl (bi && !bb)) H
def spBelow : Sp := fun vs H Q _ => ∃ (n : Int) (o : Option Int), vs = [.int n, upV o] ∧ Q (.bl (belowF n o)) H
section
variable {P : Program} {w : World} {K : PySem.W.Frag} {mg : Str → Option Value} {base : Heap}
set_option maxHeartbeats 4000000 in
theorem ok_is_whole (B : Bl mg) (d_is_whole : Dn K mg "is_whole" s_is_whole ["thing"]) : FnOk P w K mg base CX0 1 d_is_whole.f d_is_whole.fd ["thing"] (spWhole K) := by
  refine d_is_whole.F.ok sc_is_whole (fun vs H Q E h => ?_) (fun cdv A outer s H vs Q E hr h => ?_)
  · obtain ⟨x, t, bi, bb, rfl, _⟩ := h
    rfl
  obtain ⟨x, t, bi, bb, rfl, ty, h1, h2, q⟩ := h
  refine ⟨_, (pss_one (ps_ret (pe_and (pe_callB (call_isinstK (K := K) rfl) rfl B.isinstance (by decide +kernel) (pa_cons (pv 0) (pa_cons (pe_bltn (v := .ty "int") (u := .type "int") rfl B.int (by decide +kernel) rfl) pa_nil))) (pe_one (pe_not (pe_callB (call_isinstK (K := K) rfl) rfl B.isinstance (by decide +kernel) (pa_cons (pv 0) (pa_cons (pe_bltn (v := .ty "bool") (u := .type "bool") rfl B.bool (by decide +kernel) rfl) pa_nil)))))))), ?_⟩
  refine ⟨_, rfl, _, _, _, _, _, rfl, rfl, ty, h1, _, rfl, ?_⟩
  cases bi with
  | true =>
    refine iteT ?_
    exact ⟨_, rfl, _, _, _, _, _, rfl, rfl, ty, h2, _, rfl, q⟩
  | false => exact iteF q
set_option maxHeartbeats 4000000 in
theorem ok_is_below (B : Bl mg) (d_is_whole : Dn K mg "is_whole" s_is_whole ["thing"]) (d_is_below : Dn K mg "is_below" s_is_below ["n", "thing"]) : FnOk P w K mg base CX0 2 d_is_below.f d_is_below.fd ["n", "thing"] spBelow := by
  have G_is_whole : FnOk P w K mg base CX0 1 _ _ _ _ := ok_is_whole B d_is_whole
  refine d_is_below.F.ok sc_is_below (fun vs H Q E h => ?_) (fun cdv A outer s H vs Q E hr h => ?_)
  · obtain ⟨n, i, rfl, _⟩ := h
    rfl
  obtain ⟨n, o, rfl, q⟩ := h
  refine ⟨_, (pss_one (ps_ret (pe_and (pe_call G_is_whole hr rfl d_is_whole.m d_is_whole.F.kp d_is_whole.b .nil pass0 (pa_cons (pv 1) pa_nil)) (pe_one (pe_chain op_le op_lt pe_int (pv 1) (pv 0)))))), ?_⟩
  cases o with
  | none => exact ⟨_, rfl, _, _, _, _, rfl, TyOf.non, kit_non_int, kit_non_bool, _, rfl, iteF q⟩
  | some i =>
    refine ⟨_, rfl, _, _, _, _, rfl, TyOf.int i, kit_int_int, kit_int_bool, _, rfl, ?_⟩
    refine iteT ?_
    refine ⟨_, rfl, _, _, rfl, rfl, _, rfl, ?_⟩
    refine ite2 (fun c => ?_) (fun c => ?_)
    · have c' : 0 ≤ i := of_decide_eq_true c
      refine ⟨_, rfl, _, _, rfl, rfl, ?_⟩
      have e : belowF n (some i) = decide (i < n) := by unfold belowF; simp [c']
      rw [e] at q; exact q
    · have c' : ¬ 0 ≤ i := of_decide_eq_false (Bool.eq_false_iff.mpr c)
      have e : belowF n (some i) = false := by unfold belowF; simp [c']
      rw [e] at q; exact q
end

def commonF (xs ys : List Int) : List Int := xs.filter fun v => decide (v ∈ ys)
def spCommon (K : PySem.W.Frag) : Sp := fun vs H Q _ => ∃ (a b : Addr) (xs ys : List Int), vs = [.ref a, .ref b] ∧ SqL K H a (xs.map V.int) ∧ SqL K H b (ys.map V.int) ∧ xs.length ≤ 1000 ∧
  ∀ H0 p H', Same H H0 → New H0 p (.lst ((commonF xs ys).map V.int)) H' → Q (.ref p) H'
theorem fm_ifI (xs : List Int) (c : Int → Bool) : (xs.map V.int).filterMap (fun x => match x with | .int v => if c v then some (.int v) else none | _ => none) = (xs.filter c).map V.int := by
  induction xs with
  | nil => rfl
  | cons x r ih =>
    rw [List.map_cons, List.filter_cons]
    cases e : c x with
    | true => rw [List.filterMap_cons_some (by simp only [e]; rfl), ih]; simp
    | false => rw [List.filterMap_cons_none (by simp only [e]; rfl), ih]; simp

abbrev s_common : Stmt := top 6
theorem sc_common : FnScope ["one", "other"] ["one", "other"] (defScope s_common) := ⟨rfl, rfl, rfl, by decide +kernel, rfl, by decide +kernel, by decide +kernel⟩
section
variable {P : Program} {w : World} {K : PySem.W.Frag} {mg : Str → Option Value} {base : Heap}
set_option maxHeartbeats 4000000 in
theorem ok_common (B : Bl mg) (d_common : Dn K mg "common" s_common ["one", "other"]) : FnOk P w K mg base CX0 1 d_common.f d_common.fd ["one", "other"] (spCommon K) := by
  refine d_common.F.ok sc_common (fun vs H Q E h => ?_) (fun cdv A outer s H vs Q E hr h => ?_)
  · obtain ⟨a, b, xs, ys, rfl, _⟩ := h
    rfl
  obtain ⟨a, b, xs, ys, rfl, hA, hB, hz, q⟩ := h
  have hv : (A.deeper (PyProof.Rows.envOfC "common" (defScope s_common) s.heap.objs.size d_common.f cdv)).units + 65 < cLine := by have := hr.un; omega
  refine ⟨_, (pss_one (ps_ret (pe_lc ["v", "other"] [none, some 1]  (by kernel_rfl) rfl (pi_listK (K := K) rfl (pv 0)) (fun _ _ _ _ _ => (pg_name (i := 0) (show (["v", "other"] : List Str).Nodup by decide +kernel) rfl (Or.inl rfl))) (fun _ _ _ _ _ => (pts_one (pt_cmpR (op_inDK (K := K) rfl hv) (pv 0) (pv 1) (by with_unfolding_all rfl)))) (fun _ _ _ _ _ => (pv 0))))), ?_⟩
  refine ⟨_, rfl, a, rfl, ⟨_, hA⟩, ?_⟩
  refine lc_fmN (fun x => match x with | .int v => if decide (v ∈ ys) then some (.int v) else none | _ => none) hA (by rw [List.length_map]; exact hz) (fun x H1 N hx sm hN => ?_) (fun H1 p H1' sm hp => ?_)
  · obtain ⟨v, hv, rfl⟩ := List.mem_map.mp hx
    have hN' := hN H1 sm
    refine ⟨_, rfl, _, rfl, inInts (sm.seq hB) ⟨_, rfl, ?_⟩⟩
    dsimp only at hN'
    cases c : decide (v ∈ ys) with
    | true => rw [c] at hN'; exact iteT ⟨_, rfl, hN'⟩
    | false => rw [c] at hN'; exact iteF hN'
  · rw [fm_ifI] at hp
    exact q _ _ _ sm hp
end

end K


namespace K
open PySem L2 Lw Bg
abbrev s__law_cell : Stmt := top 12
theorem sc__law_cell : FnScope ["_law_script", "_law_k"] ["_law_script", "_law_k"] (defScope s__law_cell) := ⟨rfl, rfl, rfl, by decide +kernel, rfl, by decide +kernel, by decide +kernel⟩
def spCellA (K : PySem.W.Frag) : Sp := fun vs H Q _ => ∃ (a : Addr) (ns : List Int) (k : Int), vs = [.ref a, .int k] ∧ Scr K H a ns ∧ ns.length ≤ 63 ∧ 0 ≤ k ∧ k ≤ 1000 ∧ ∀ z, Q (.int z) H
theorem rowAt_snoc_lt {rs : List Row} {r : Row} {k : Nat} (h : k < rs.length) : rowAt (rs ++ [r]) k = rowAt rs k := by
  unfold rowAt
  rw [List.getD_eq_getElem?_getD, List.getD_eq_getElem?_getD, List.getElem?_append_left h]
theorem rowAt_snoc_eq {rs : List Row} {r : Row} : rowAt (rs ++ [r]) rs.length = r := by
  unfold rowAt
  rw [List.getD_eq_getElem?_getD, List.getElem?_append_right (Nat.le_refl _)]
  simp
section
variable {P : Program} {w : World} {K : PySem.W.Frag} {mg : Str → Option Value} {base : Heap}
set_option maxHeartbeats 4000000 in
theorem ok__law_cell (B : Bl mg) (d__law_cell : Dn K mg "_law_cell" s__law_cell ["_law_script", "_law_k"]) : FnOk P w K mg base CX0 1 d__law_cell.f d__law_cell.fd ["_law_script", "_law_k"] (spCellA K) := by
  refine d__law_cell.F.ok sc__law_cell (fun vs H Q E h => ?_) (fun cdv A outer s H vs Q E hr h => ?_)
  · obtain ⟨a, ns, k, rfl, _⟩ := h
    rfl
  obtain ⟨a, ns, k, rfl, hS, h63, h0, h1, q⟩ := h
  refine ⟨_, (pss_cons (ps_if (pt_cmpR op_lt (pv 1) (pe_callB (call_lenK (K := K) rfl) rfl B.len (by decide +kernel) (pa_cons (pv 0) pa_nil)) (nomark _))
      (pss_one (ps_ret (pe_ix (ix_listK (K := K) rfl) (pv 0) (pv 1) (fun _ _ => rfl))))
      pss_nil)
      (pss_cons (ps_if (pt_cmpR op_eq (pe_callB (call_lenK (K := K) rfl) rfl B.len (by decide +kernel) (pa_cons (pv 0) pa_nil)) pe_int (nomark _))
      (pss_one (ps_ret (pe_op op_add (pe_op op_mul (pe_op op_mul (pv 1) (pv 1)) pe_int) pe_int)))
      pss_nil)
      (pss_one (ps_ret (pe_op op_add (pe_op op_mul (pe_op op_mod (pe_ix (ix_listK (K := K) rfl) (pv 0) (pe_op op_mod (pe_op op_mul (pv 1) pe_int) (pe_callB (call_lenK (K := K) rfl) rfl B.len (by decide +kernel) (pa_cons (pv 0) pa_nil))) (fun _ _ => rfl)) pe_int) pe_int) (pe_op op_mul (pe_op op_mul (pv 1) (pv 1)) pe_int)))))), ?_⟩
  have hl : (ns.map V.int).length = ns.length := List.length_map _
  refine ⟨_, rfl, _, rfl, a, _, rfl, .inl hS.seq, _, _, rfl, rfl, _, rfl, ?_⟩
  refine ite2 (fun c => ?_) (fun c => ?_)
  · have c' : k < (((ns.map V.int).length : Nat) : Int) := of_decide_eq_true c
    rw [hl] at c'
    exact ⟨_, rfl, _, rfl, a, _, _, _, rfl, rfl, hS.seq, at_ints h0 c', q _⟩
  refine ⟨_, rfl, a, _, rfl, .inl hS.seq, rfl, _, rfl, ?_⟩
  refine ite2 (fun c2 => ?_) (fun c2 => ?_)
  · exact ⟨_, rfl, _, rfl, _, _, rfl, rfl, .inl ⟨by omega, by omega⟩, _, _, rfl, rfl, .inr ⟨by decide, by decide⟩, _, _, rfl, rfl, q _⟩
  · have c2' : ¬ V.int (((ns.map V.int).length : Nat) : Int) = V.int 0 := of_decide_eq_false (Bool.eq_false_iff.mpr c2)
    rw [hl] at c2'
    have z' : (0 : Int) < (ns.length : Int) := by
      rcases Nat.eq_zero_or_pos ns.length with e | e
      · exact absurd (by rw [e]; rfl) c2'
      · omega
    have m0 := Int.emod_nonneg (k * 3) (show (ns.length : Int) ≠ 0 by omega)
    have m1 := Int.emod_lt_of_pos (k * 3) z'
    exact ⟨_, rfl, _, rfl, _, _, rfl, rfl, .inr ⟨by decide, by decide⟩, _, rfl, a, _, rfl, .inl hS.seq, _, _, rfl, rfl, (by rw [hl]; exact z'), a, _, _, _, rfl, rfl, hS.seq, (by rw [hl]; exact at_ints m0 m1), _, _, rfl, rfl, (show (0 : Int) < _ by decide), _, _, rfl, rfl, .inr ⟨by decide, by decide⟩, _, rfl, _, rfl, _, _, rfl, rfl, .inl ⟨by omega, by omega⟩, _, _, rfl, rfl, .inr ⟨by decide, by decide⟩, _, _, rfl, rfl, q _⟩
end

def dueF (p : Int → Bool) (i : Nat) : List Int := ((List.range i).map fun j => ((j : Nat) : Int)).filter p
theorem due_len (p : Int → Bool) (i : Nat) : (dueF p i).length ≤ i := by
  unfold dueF
  refine Nat.le_trans (List.length_filter_le _ _) ?_
  simp
theorem due_up (p : Int → Bool) (i : Nat) : (dueF p i).Pairwise (· < ·) := by
  unfold dueF
  refine List.Pairwise.filter _ ?_
  rw [List.pairwise_map]
  exact List.pairwise_lt_range.imp fun h => by omega
theorem mem_due {p : Int → Bool} {i : Nat} {v : Int} : v ∈ dueF p i ↔ 0 ≤ v ∧ v < i ∧ p v = true := by
  unfold dueF
  rw [List.mem_filter, List.mem_map]
  constructor
  · rintro ⟨⟨j, hj, rfl⟩, h⟩
    have := List.mem_range.mp hj
    exact ⟨by omega, by omega, h⟩
  · rintro ⟨h0, h1, h⟩
    exact ⟨⟨v.toNat, List.mem_range.mpr (by omega), by omega⟩, h⟩

abbrev s__law_turned : Stmt := top 14
theorem sc__law_turned : FnScope ["_law_script", "_law_n", "_law_turned_here", "_law_v"] ["_law_script", "_law_n"] (defScope s__law_turned) := ⟨rfl, rfl, rfl, by decide +kernel, rfl, by decide +kernel, by decide +kernel⟩
abbrev s__law_kept : Stmt := top 15
theorem sc__law_kept : FnScope ["_law_old", "_law_cell_here", "_law_kept_here", "_law_bits", "_law_v"] ["_law_old", "_law_cell_here"] (defScope s__law_kept) := ⟨rfl, rfl, rfl, by decide +kernel, rfl, by decide +kernel, by decide +kernel⟩
abbrev s__law_tree : Stmt := top 16
theorem sc__law_tree : FnScope ["_law_script", "_law_turned_here", "_law_many", "_law_rows", "_law_used", "_law_k", "_law_size", "_law_up", "_law_bag"] ["_law_script", "_law_turned_here", "_law_many"] (defScope s__law_tree) := ⟨rfl, rfl, rfl, by decide +kernel, rfl, by decide +kernel, by decide +kernel⟩
abbrev rng (n : Nat) : List Int := (List.range n).map fun i => ((i : Nat) : Int)
theorem mem_rng {n : Nat} {v : Int} : v ∈ rng n ↔ 0 ≤ v ∧ v < (n : Int) := by
  rw [List.mem_map]
  constructor
  · rintro ⟨i, hi, rfl⟩
    have := List.mem_range.mp hi
    omega
  · rintro ⟨h0, h1⟩
    exact ⟨v.toNat, List.mem_range.mpr (by omega), by omega⟩
theorem nodup_rng (n : Nat) : (rng n).Nodup := by
  unfold List.Nodup
  rw [List.pairwise_map]
  exact List.pairwise_lt_range.imp fun h => by omega
/-- a tree of bags of n places, as the law's hands make one -/
structure Tree (n : Nat) (rs : List Row) : Prop where
  pos : 0 < rs.length
  len : rs.length ≤ 20
  ok : ∀ k < rs.length, rowOk n rs k = true
  cov : ∀ v : Int, 0 ≤ v → v < (n : Int) → ∃ r ∈ rs, v ∈ r.2
  tops : ∀ v : Int, (topsF rs v).length ≤ 1
def spTurned (K : PySem.W.Frag) : Sp := fun vs H Q _ => ∃ (a : Addr) (ns : List Int) (n : Nat), vs = [.ref a, .int n] ∧ Scr K H a ns ∧ ns.length ≤ 63 ∧ n ≤ 10 ∧ ∀ r us H', New H r (.lst (List.map V.int us)) H' → us.Perm (rng n) → Q (.ref r) H'
def spKept (K : PySem.W.Frag) : Sp := fun vs H Q _ => ∃ (b : Addr) (c : Int) (os : List Int), vs = [.ref b, .int c] ∧ SqL K H b (os.map V.int) ∧ os.length ≤ 900 ∧ ∀ r ks H', New H r (.lst (List.map V.int ks)) H' → List.Sublist ks os → Q (.ref r) H'
def spTree (K : PySem.W.Frag) : Sp := fun vs H Q _ => ∃ (a p : Addr) (ns us : List Int) (n many : Nat), vs = [.ref a, .ref p, .int many] ∧ Scr K H a ns ∧ ns.length ≤ 63 ∧ H p = some (.lst (us.map V.int)) ∧ us.Perm (rng n) ∧ n ≤ 10 ∧ 0 < many ∧ many ≤ 7 ∧
  ∀ l xs rs H', Same H H' → H l = none → H' l = some (.lst xs) → Paired (RowL l H') xs rs → Tree n rs → many ≤ rs.length → Q (.ref l) H'
theorem isTop_snoc {n : Int} {rs : List Row} {r : Row} {v : Int} {k : Nat} (hk : k < rs.length) (ok : ∀ k < rs.length, rowOk n rs k = true) : isTop (rs ++ [r]) v k = isTop rs v k := by
  unfold isTop
  rw [rowAt_snoc_lt hk]
  congr 2
  unfold heldF
  have o := ok k hk
  unfold rowOk upOk at o
  cases e : (rowAt rs k).1 with
  | none => rfl
  | some i =>
    rw [e] at o
    dsimp only
    by_cases z : k = 0
    · rw [if_pos z] at o; cases o
    · rw [if_neg z] at o
      rw [Bool.and_eq_true] at o
      have b := of_decide_eq_true o.1
      rw [rowAt_snoc_lt (by omega)]
theorem tops_snoc {n : Int} {rs : List Row} {r : Row} {v : Int} (ok : ∀ k < rs.length, rowOk n rs k = true) : topsF (rs ++ [r]) v = topsF rs v ++ (if isTop (rs ++ [r]) v rs.length = true then [rs.length] else []) := by
  unfold topsF
  rw [List.length_append, List.length_singleton, List.range_succ, List.filter_append]
  congr 1
  · exact List.filter_congr fun k hk => isTop_snoc (List.mem_range.mp hk) ok
  · rw [List.filter_cons]
    split <;> simp
theorem tops_nil {rs : List Row} {v : Int} (h : ∀ r ∈ rs, v ∉ r.2) : topsF rs v = [] := by
  unfold topsF
  refine List.filter_eq_nil_iff.mpr fun k hk => ?_
  have hk' := List.mem_range.mp hk
  have := h _ (List.mem_of_getElem? (rowAt_lt hk'))
  unfold isTop has
  rw [decide_eq_false this]
  simp
theorem nodup_of_lt {xs : List Int} (h : xs.Pairwise (· < ·)) : xs.Nodup := h.imp fun h => by omega
theorem lt_of_le {xs : List Int} (le : xs.Pairwise (· ≤ ·)) (nd : xs.Nodup) : xs.Pairwise (· < ·) := by
  unfold List.Nodup at nd
  exact (le.and nd).imp fun h => by omega
section
variable {P : Program} {w : World} {K : PySem.W.Frag} {mg : Str → Option Value} {base : Heap}
set_option maxHeartbeats 4000000 in
theorem ok__law_turned (B : Bl mg) (d__law_cell : Dn K mg "_law_cell" s__law_cell ["_law_script", "_law_k"]) (d__law_turned : Dn K mg "_law_turned" s__law_turned ["_law_script", "_law_n"]) : FnOk P w K mg base CX0 2 d__law_turned.f d__law_turned.fd ["_law_script", "_law_n"] (spTurned K) := by
  have G__law_cell : FnOk P w K mg base CX0 1 _ _ _ _ := ok__law_cell B d__law_cell
  refine d__law_turned.F.ok sc__law_turned (fun vs H Q E h => ?_) (fun cdv A outer s H vs Q E hr h => ?_)
  · obtain ⟨a, ns, n, rfl, _⟩ := h
    rfl
  obtain ⟨a, ns, n, rfl, hS, h63, hn, q⟩ := h
  refine ⟨_, (pss_cons (ps_set (i := 2) sc__law_turned.nd rfl (Or.inl rfl) (pe_lstN pa_nil))
      (pss_cons (ps_for PassesOwn.never rfl (pi_range1 rfl B.range (pa_cons (pv 1) pa_nil)) (pg_name (i := 3) sc__law_turned.nd rfl (Or.inl rfl))
      (pss_one (ps_expr (pe_bmK (K := K) rfl PySem.F.plainAttrs_list PySem.F.slot_list_insert PySem.F.type_list_insert mt_insertN (pv 2) (pa_cons (pe_op op_mod (pe_call G__law_cell hr rfl d__law_cell.m d__law_cell.F.kp d__law_cell.b .nil pass0 (pa_cons (pv 0) (pa_cons (pe_op op_add pe_int (pv 3)) pa_nil))) (pe_op op_add (pv 3) pe_int)) (pa_cons (pv 3) pa_nil))))))
      (pss_one (ps_ret (pv 2))))), ?_⟩
  refine ⟨(by show 0 ≤ 1000; decide), fun r H0 nw => ?_⟩
  refine ⟨_, rfl, _, rfl, by omega, by omega, ?_⟩
  rw [Int.toNat_natCast]
  refine for_range (n := n) (fun i σ H' => ∃ (us : List Int) (v : Option V), σ = [some (.ref a), some (.int n), some (.ref r), v] ∧ New H r (.lst (us.map V.int)) H' ∧ us.Perm (rng i)) ⟨[], none, rfl, nw, .nil⟩ ?_ ?_
  · rintro i σ H1 hi ⟨us, v, rfl, n1, pm⟩
    have ei : (0 + (i : Int)) = ((i : Nat) : Int) := by omega
    rw [ei]
    have lu : us.length = i := by rw [pm.length_eq]; simp
    refine ⟨_, rfl, .inl ⟨rfl, _, SqL.of n1.here⟩, _, rfl, _, rfl, _, _, rfl, rfl, a, ns, _, rfl, hS.same n1.same, h63, (by omega), (by omega), fun z => ?_⟩
    have m0 := Int.emod_nonneg z (show (i : Int) + 1 ≠ 0 by omega)
    have m1 := Int.emod_lt_of_pos z (show (0 : Int) < (i : Int) + 1 by omega)
    refine ⟨_, rfl, _, _, rfl, rfl, _, _, rfl, rfl, (show (0 : Int) < _ by omega), _, rfl, r, _, _, _, rfl, rfl, n1.here, (by rw [List.length_map]; omega), m0, (by rw [List.length_map]; omega), fun H2 ch => ?_⟩
    refine ⟨us.take (z % ((i : Int) + 1)).toNat ++ (i : Int) :: us.drop (z % ((i : Int) + 1)).toNat, _, rfl, ⟨n1.fresh, ?_, fun b hb => (ch.rest b hb).trans (n1.rest b hb)⟩, ?_⟩
    · rw [ch.here, ← List.map_take, ← List.map_drop, List.map_append, List.map_cons]
    · refine List.perm_middle.trans ?_
      rw [List.take_append_drop]
      have e : rng (i + 1) = rng i ++ [(i : Int)] := by unfold rng; rw [List.range_succ, List.map_append]; rfl
      rw [e]
      exact (pm.cons _).trans (List.perm_append_singleton _ _).symm
  · rintro σ H1 ⟨us, v, rfl, n1, pm⟩
    exact ⟨_, rfl, q r us H1 n1 pm⟩
set_option maxHeartbeats 4000000 in
theorem ok__law_kept (B : Bl mg) (d__law_kept : Dn K mg "_law_kept" s__law_kept ["_law_old", "_law_cell_here"]) : FnOk P w K mg base CX0 1 d__law_kept.f d__law_kept.fd ["_law_old", "_law_cell_here"] (spKept K) := by
  refine d__law_kept.F.ok sc__law_kept (fun vs H Q E h => ?_) (fun cdv A outer s H vs Q E hr h => ?_)
  · obtain ⟨b, c, os, rfl, _⟩ := h
    rfl
  obtain ⟨b, c, os, rfl, hB, hz, q⟩ := h
  refine ⟨_, (pss_cons (ps_set (i := 2) sc__law_kept.nd rfl (Or.inl rfl) (pe_lstN pa_nil))
      (pss_cons (ps_set (i := 3) sc__law_kept.nd rfl (Or.inl rfl) (pe_op op_mod (pe_op op_mul (pe_op op_mod (pv 1) pe_int) pe_int) pe_int))
      (pss_cons (ps_for PassesOwn.never rfl (pi_listK (K := K) rfl (pv 0)) (pg_name (i := 4) sc__law_kept.nd rfl (Or.inl rfl))
      (pss_cut (ps_if (pt_cmpR op_gt (pe_op op_mod (pv 3) pe_int) pe_int (nomark _))
      (pss_one (ps_expr (pe_bmK (K := K) rfl PySem.F.plainAttrs_list PySem.F.slot_list_append PySem.F.type_list_append mt_appendN (pv 2) (pa_cons (pv 4) pa_nil))))
      pss_nil)
      (pss_one (ps_set (i := 3) sc__law_kept.nd rfl (Or.inl rfl) (pe_op op_fdiv (pv 3) pe_int)))))
      (pss_one (ps_ret (pv 2)))))), ?_⟩
  refine ⟨(by show 0 ≤ 1000; decide), fun r H0 nw => ?_⟩
  refine ⟨_, rfl, _, _, rfl, rfl, (show (0 : Int) < _ by decide), _, _, rfl, rfl, .inr ⟨by decide, by decide⟩, _, _, rfl, rfl, (show (0 : Int) < _ by decide), ?_⟩
  refine ⟨_, rfl, b, rfl, ⟨_, nw.same.seq hB⟩, ?_⟩
  refine for_list (xs := os.map V.int) (fun i σ H' => ∃ (ks : List Int) (bt : Int) (v : Option V), σ = [some (.ref b), some (.int c), some (.ref r), some (.int bt), v] ∧ New H r (.lst (ks.map V.int)) H' ∧ List.Sublist ks (os.take i)) ⟨[], _, none, rfl, nw, List.nil_sublist _⟩ (fun i σ H' _ ⟨ks, bt, v, _, n1, _⟩ => n1.same.seq hB) ?_ ?_
  · rintro i x σ H1 hx ⟨ks, bt, v, rfl, n1, sb⟩
    rw [List.getElem?_map] at hx
    obtain ⟨u, hu, rfl⟩ := Option.map_eq_some_iff.mp hx
    have et : os.take (i + 1) = os.take i ++ [u] := by rw [List.take_succ, hu]; rfl
    have lk := sb.length_le
    rw [List.length_take] at lk
    refine ⟨fun σ' H' => ∃ ks' : List Int, σ' = [some (.ref b), some (.int c), some (.ref r), some (.int bt), some (.int u)] ∧ New H r (.lst (ks'.map V.int)) H' ∧ List.Sublist ks' (os.take (i + 1)), ?_, ?_⟩
    · refine ⟨_, rfl, _, _, rfl, rfl, (show (0 : Int) < _ by decide), _, _, rfl, rfl, _, rfl, ?_⟩
      refine ite2 (fun d => ?_) (fun d => ?_)
      · refine ⟨_, rfl, .inl ⟨rfl, _, SqL.of n1.here⟩, _, rfl, r, _, _, rfl, rfl, n1.here, (by rw [List.length_map]; omega), fun H2 ch => ?_⟩
        refine ⟨ks ++ [u], rfl, ⟨n1.fresh, by rw [ch.here, List.map_append]; rfl, fun b hb => (ch.rest b hb).trans (n1.rest b hb)⟩, ?_⟩
        rw [et]
        exact sb.append (List.Sublist.refl _)
      · refine ⟨ks, rfl, n1, ?_⟩
        rw [et]
        exact sb.trans (List.sublist_append_left _ _)
    · rintro σ' H2 ⟨ks', rfl, n2, sb2⟩
      exact ⟨_, rfl, _, _, rfl, rfl, ⟨by decide, by decide⟩, ks', _, _, rfl, n2, sb2⟩
  · rintro σ H1 ⟨ks, bt, v, rfl, n1, sb⟩
    rw [List.length_map, List.take_length] at sb
    exact ⟨_, rfl, q r ks H1 n1 sb⟩
end

def TreeW (K : PySem.W.Frag) (a p l : Addr) (ns us : List Int) (n many : Nat) (H : Hp) (m : Nat) (σ : St) (H' : Hp) : Prop :=
  ∃ (xs : List V) (rs : List Row) (used : Nat) (vk vs vu vb : Option V), σ = [some (.ref a), some (.ref p), some (.int many), some (.ref l), some (.int used), vk, vs, vu, vb] ∧ Same H H' ∧ H' l = some (.lst xs) ∧ Paired (RowL l H') xs rs ∧
    m = (many - rs.length) + (n - used) ∧ rs.length ≤ many + used ∧ rs.length ≤ 17 ∧ (∀ k < rs.length, rowOk n rs k = true) ∧ (∀ v : Int, (∃ r ∈ rs, v ∈ r.2) ↔ v ∈ us.take used) ∧ ∀ v : Int, (topsF rs v).length ≤ 1
theorem few_up {n : Nat} {xs : List Int} (hn : n ≤ 10) (h : setF n xs = true) : xs.length ≤ 10 := by
  obtain ⟨h1, h2⟩ := (set_iff _ _).mp h
  have e : xs = dueF (fun v => decide (v ∈ xs)) n := up_eq h2 (due_up _ _) fun v => by
    rw [mem_due]
    constructor
    · intro hv
      have := h1 v hv
      exact ⟨this.1, this.2, decide_eq_true hv⟩
    · rintro ⟨_, _, hv⟩; exact of_decide_eq_true hv
  rw [e]
  exact Nat.le_trans (due_len _ _) hn
/-- a row more: new places and some of its up's -/
theorem grow_ok {n : Nat} {us : List Int} {rs : List Row} {used sz : Nat} {u : Option Int} {ks zs : List Int} (pm : us.Perm (rng n)) (ok : ∀ k < rs.length, rowOk n rs k = true) (mem : ∀ v : Int, (∃ r ∈ rs, v ∈ r.2) ↔ v ∈ us.take used) (tp : ∀ v : Int, (topsF rs v).length ≤ 1)
    (hu : upOk rs.length u = true) (hk : ∀ v ∈ ks, ∃ i, u = some i ∧ v ∈ (rowAt rs i.toNat).2) (ndk : ks.Nodup) (hz : zs.Perm ((us.drop used).take sz ++ ks)) (le : zs.Pairwise (· ≤ ·)) :
    (∀ k < (rs ++ [(u, zs)]).length, rowOk n (rs ++ [(u, zs)]) k = true) ∧ (∀ v : Int, (∃ r ∈ rs ++ [(u, zs)], v ∈ r.2) ↔ v ∈ us.take (used + sz)) ∧ ∀ v : Int, (topsF (rs ++ [(u, zs)]) v).length ≤ 1 := by
  have ndu : us.Nodup := pm.nodup_iff.mpr (nodup_rng n)
  have et : us.take (used + sz) = us.take used ++ (us.drop used).take sz := List.take_add
  have nd2 : (us.take used ++ (us.drop used).take sz).Nodup := by rw [← et]; exact ndu.sublist (List.take_sublist _ _)
  obtain ⟨_, ndt, dis⟩ := List.nodup_append.mp nd2
  have upi : ∀ i, u = some i → 0 ≤ i ∧ i.toNat < rs.length := fun i e => by
    subst e
    unfold upOk at hu
    by_cases z : rs.length = 0
    · rw [if_pos z] at hu; cases hu
    · rw [if_neg z] at hu
      have b := of_decide_eq_true hu
      omega
  have ksold : ∀ v ∈ ks, v ∈ us.take used := fun v hv => by
    obtain ⟨i, e, hm⟩ := hk v hv
    exact (mem v).mp ⟨_, List.mem_of_getElem? (rowAt_lt (upi i e).2), hm⟩
  have ndz : zs.Nodup := hz.nodup_iff.mpr (List.nodup_append.mpr ⟨ndt, ndk, fun x hx y hy e => dis y (ksold y hy) x hx e.symm⟩)
  have memz : ∀ v, v ∈ zs ↔ v ∈ (us.drop used).take sz ∨ v ∈ ks := fun v => by rw [hz.mem_iff, List.mem_append]
  have inn : ∀ v ∈ us, 0 ≤ v ∧ v < (n : Int) := fun v hv => mem_rng.mp (pm.mem_iff.mp hv)
  have setz : setF n zs = true := (set_iff _ _).mpr ⟨fun v hv => by
    rcases (memz v).mp hv with h | h
    · exact inn v (List.mem_of_mem_drop (List.mem_of_mem_take h))
    · exact inn v (List.mem_of_mem_take (ksold v h)), lt_of_le le ndz⟩
  refine ⟨fun k hk' => ?_, fun v => ?_, fun v => ?_⟩
  · rw [List.length_append] at hk'
    have hk'' : k < rs.length + 1 := hk'
    by_cases e : k = rs.length
    · subst e
      unfold rowOk
      rw [rowAt_snoc_eq, hu, setz]
      rfl
    · have kl : k < rs.length := by omega
      have := ok k kl
      unfold rowOk at this ⊢
      rw [rowAt_snoc_lt kl]; exact this
  · rw [et, List.mem_append, ← mem v]
    constructor
    · rintro ⟨r, hr, hv⟩
      rcases List.mem_append.mp hr with hr | hr
      · exact .inl ⟨r, hr, hv⟩
      · rw [List.mem_singleton.mp hr] at hv
        rcases (memz v).mp hv with h | h
        · exact .inr h
        · exact .inl ((mem v).mpr (ksold v h))
    · rintro (⟨r, hr, hv⟩ | h)
      · exact ⟨r, List.mem_append_left _ hr, hv⟩
      · exact ⟨_, List.mem_append_right _ (List.mem_singleton.mpr rfl), (memz v).mpr (.inl h)⟩
  · rw [tops_snoc ok]
    split
    · rename_i c
      have hv : v ∈ (us.drop used).take sz := by
        unfold isTop at c
        rw [rowAt_snoc_eq, Bool.and_eq_true] at c
        rcases (memz v).mp (of_decide_eq_true c.1) with h | h
        · exact h
        · exfalso
          obtain ⟨i, e, hm⟩ := hk v h
          have b := upi i e
          have c2 := c.2
          unfold heldF at c2
          rw [e] at c2
          dsimp only at c2
          rw [rowAt_snoc_lt b.2] at c2
          unfold has at c2
          rw [decide_eq_true hm] at c2
          cases c2
      rw [tops_nil (fun r hr hm => dis v ((mem v).mp ⟨r, hr, hm⟩) v hv rfl)]
      simp
    · simpa using tp v
section
variable {P : Program} {w : World} {K : PySem.W.Frag} {mg : Str → Option Value} {base : Heap}
set_option maxHeartbeats 8000000 in
theorem ok__law_tree (B : Bl mg) (d__law_cell : Dn K mg "_law_cell" s__law_cell ["_law_script", "_law_k"]) (d__law_kept : Dn K mg "_law_kept" s__law_kept ["_law_old", "_law_cell_here"]) (d__law_tree : Dn K mg "_law_tree" s__law_tree ["_law_script", "_law_turned_here", "_law_many"]) : FnOk P w K mg base CX0 2 d__law_tree.f d__law_tree.fd ["_law_script", "_law_turned_here", "_law_many"] (spTree K) := by
  have G__law_cell : FnOk P w K mg base CX0 1 _ _ _ _ := ok__law_cell B d__law_cell
  have G__law_kept : FnOk P w K mg base CX0 1 _ _ _ _ := ok__law_kept B d__law_kept
  refine d__law_tree.F.ok sc__law_tree (fun vs H Q E h => ?_) (fun cdv A outer s H vs Q E hr h => ?_)
  · obtain ⟨a, p, ns, us, n, many, rfl, _⟩ := h
    rfl
  obtain ⟨a, p, ns, us, n, many, rfl, hS, h63, hp, pm, hn, m0, m7, q⟩ := h
  have lu : us.length = n := by rw [pm.length_eq]; simp
  have ndu : us.Nodup := pm.nodup_iff.mpr (nodup_rng n)
  refine ⟨_, (pss_cons (ps_set (i := 3) sc__law_tree.nd rfl (Or.inl rfl) (pe_lstN pa_nil))
      (pss_cons (ps_set (i := 4) sc__law_tree.nd rfl (Or.inl rfl) pe_int)
      (pss_cons (ps_while PassesOwn.never (PW.pt (pw_or (pt_cmpR op_lt (pe_callB (call_lenK (K := K) rfl) rfl B.len (by decide +kernel) (pa_cons (pv 3) pa_nil)) (pv 2) (nomark _)) (pw_or1 (pt_cmpR op_lt (pv 4) (pe_callB (call_lenK (K := K) rfl) rfl B.len (by decide +kernel) (pa_cons (pv 1) pa_nil)) (nomark _)))))
      (pss_cons (ps_set (i := 5) sc__law_tree.nd rfl (Or.inl rfl) (pe_callB (call_lenK (K := K) rfl) rfl B.len (by decide +kernel) (pa_cons (pv 3) pa_nil)))
      (pss_cons (ps_set (i := 6) sc__law_tree.nd rfl (Or.inl rfl) (pe_op op_mod (pe_call G__law_cell hr rfl d__law_cell.m d__law_cell.F.kp d__law_cell.b .nil pass0 (pa_cons (pv 0) (pa_cons (pe_op op_add pe_int (pe_op op_mul pe_int (pv 5))) pa_nil))) pe_int))
      (pss_cut (ps_if (pt_cmpR op_ge (pv 5) (pv 2) (nomark _))
      (pss_one (ps_set (i := 6) sc__law_tree.nd rfl (Or.inl rfl) (pe_op op_add pe_int (pe_op op_mod (pv 6) pe_int))))
      pss_nil)
      (pss_cons (ps_set (i := 7) sc__law_tree.nd rfl (Or.inl rfl) pe_non)
      (pss_cons (ps_set (i := 8) sc__law_tree.nd rfl (Or.inl rfl) (pe_slice (sl_listN (K := K) rfl) (pv 1) (po_some (pv 4)) (po_some (pe_op op_add (pv 4) (pv 6)))))
      (pss_cut (ps_if (pt_cmpR op_gt (pv 5) pe_int (nomark _))
      (pss_cons (ps_set (i := 7) sc__law_tree.nd rfl (Or.inl rfl) (pe_op op_mod (pe_call G__law_cell hr rfl d__law_cell.m d__law_cell.F.kp d__law_cell.b .nil pass0 (pa_cons (pv 0) (pa_cons (pe_op op_add pe_int (pe_op op_mul pe_int (pv 5))) pa_nil))) (pv 5)))
      (pss_one (ps_set (i := 8) sc__law_tree.nd rfl (Or.inl rfl) (pe_op op_catN (pv 8) (pe_call G__law_kept hr rfl d__law_kept.m d__law_kept.F.kp d__law_kept.b .nil pass0 (pa_cons (pe_ix (ix_tupK (K := K) rfl) (pe_ix (ix_listK (K := K) rfl) (pv 3) (pv 7) (fun _ _ => rfl)) pe_int (fun _ _ => rfl)) (pa_cons (pe_call G__law_cell hr rfl d__law_cell.m d__law_cell.F.kp d__law_cell.b .nil pass0 (pa_cons (pv 0) (pa_cons (pe_op op_add pe_int (pe_op op_mul pe_int (pv 5))) pa_nil))) pa_nil)))))))
      pss_nil)
      (pss_cons (ps_set (i := 4) sc__law_tree.nd rfl (Or.inl rfl) (pe_op op_add (pv 4) (pv 6)))
      (pss_one (ps_expr (pe_bmK (K := K) rfl PySem.F.plainAttrs_list PySem.F.slot_list_append PySem.F.type_list_append mt_appendN (pv 3) (pa_cons (pe_tupN (pa_cons (pv 7) (pa_cons (pe_callB (call_sortedI (K := K) rfl) rfl B.sorted (by decide +kernel) (pa_cons (pv 8) pa_nil)) pa_nil))) pa_nil))))))))))))
      (pss_one (ps_ret (pv 3)))))), ?_⟩
  refine ⟨(by show 0 ≤ 1000; decide), fun l H0 nw => ?_⟩
  refine ⟨TreeW K a p l ns us n many H, ⟨_, [], [], 0, none, none, none, none, rfl, nw.same, nw.here, .nil, rfl, Nat.zero_le _, Nat.zero_le _, fun k hk => absurd hk (Nat.not_lt_zero _), fun v => by simp, fun v => by simp [topsF]⟩, ?_⟩
  rintro m σ H1 ⟨xs, rs, used, vk, vs, vu, vb, rfl, s1, hl, hpr, em, b1, b2, ok, mem, tp⟩
  have lx : xs.length = rs.length := Paired.length hpr
  have hp1 : H1 p = some (.lst (us.map V.int)) := s1 _ _ hp
  have hS1 := hS.same s1
  have f0 : H l = none := nw.fresh
  refine ⟨_, rfl, l, _, rfl, .inl (SqL.of hl), _, rfl, _, _, rfl, rfl, _, rfl, ?_⟩
  refine ite2 (fun c => iteT ?_) (fun c => ⟨_, rfl, _, rfl, p, _, rfl, .inl (SqL.of hp1), _, _, rfl, rfl, _, rfl, ite2 (fun d => ?_) (fun d => ?_)⟩)
  rotate_left 2
  · have c' : ¬ ((xs.length : Nat) : Int) < (many : Int) := of_decide_eq_false (Bool.eq_false_iff.mpr c)
    have d' : ¬ (used : Int) < (((us.map V.int).length : Nat) : Int) := of_decide_eq_false (Bool.eq_false_iff.mpr d)
    rw [List.length_map] at d'
    refine ⟨_, rfl, q l xs rs H1 s1 f0 hl hpr ⟨by omega, by omega, ok, fun v v0 v1 => ?_, tp⟩ (by omega)⟩
    refine (mem v).mpr ?_
    rw [List.take_of_length_le (by omega)]
    exact pm.mem_iff.mpr (mem_rng.mpr ⟨v0, v1⟩)
  all_goals
    have hc : rs.length < many ∨ (many ≤ rs.length ∧ used < n) := by
      first
      | exact .inr (by
          have c' : ¬ ((xs.length : Nat) : Int) < (many : Int) := of_decide_eq_false (Bool.eq_false_iff.mpr c)
          have d' : (used : Int) < (((us.map V.int).length : Nat) : Int) := of_decide_eq_true d
          rw [List.length_map] at d'
          omega)
      | exact .inl (by have c' : ((xs.length : Nat) : Int) < (many : Int) := of_decide_eq_true c; omega)
    refine ⟨fun σ' H' => ∃ m', m' < m ∧ TreeW K a p l ns us n many H m' σ' H', fun _ _ h => h, ?_⟩
    refine ⟨_, rfl, l, _, rfl, .inl (SqL.of hl), ?_⟩
    rw [lx]
    refine ⟨_, rfl, _, rfl, _, _, rfl, rfl, .inl ⟨by decide, by decide⟩, _, _, rfl, rfl, a, ns, _, rfl, hS1, h63, (by omega), (by omega), fun z => ?_⟩
    refine ⟨_, _, rfl, rfl, (show (0 : Int) < _ by decide), ?_⟩
    have z0 := Int.emod_nonneg z (show (4 : Int) ≠ 0 by decide)
    have z1 := Int.emod_lt_of_pos z (show (0 : Int) < 4 by decide)
    refine ⟨fun σ' H' => ∃ sz : Nat, σ' = [some (.ref a), some (.ref p), some (.int many), some (.ref l), some (.int used), some (.int (rs.length : Nat)), some (.int sz), vu, vb] ∧ H' = H1 ∧ sz ≤ 3 ∧ (many ≤ rs.length → 1 ≤ sz), ?_, ?_⟩
    · refine ⟨_, rfl, _, rfl, _, _, rfl, rfl, _, rfl, ?_⟩
      refine ite2 (fun e => ?_) (fun e => ?_)
      · have w0 := Int.emod_nonneg (z % 4) (show (2 : Int) ≠ 0 by decide)
        have w1 := Int.emod_lt_of_pos (z % 4) (show (0 : Int) < 2 by decide)
        refine ⟨_, rfl, _, _, rfl, rfl, (show (0 : Int) < _ by decide), _, _, rfl, rfl, (1 + z % 4 % 2).toNat, ?_, rfl, by omega, fun _ => by omega⟩
        have : (((1 + z % 4 % 2).toNat : Nat) : Int) = 1 + z % 4 % 2 := by omega
        rw [this]
        rfl
      · have e' : ¬ (many : Int) ≤ ((rs.length : Nat) : Int) := of_decide_eq_false (Bool.eq_false_iff.mpr e)
        refine ⟨(z % 4).toNat, ?_, rfl, by omega, fun h => by omega⟩
        have : (((z % 4).toNat : Nat) : Int) = z % 4 := by omega
        rw [this]
        rfl
    rintro σ' H' ⟨sz, rfl, rfl, sz3, szm⟩
    refine ⟨_, rfl, _, rfl, _, rfl, _, rfl, _, rfl, _, _, rfl, rfl, _, rfl, p, _, rfl, SqL.of hp1, fun p2 H2 n2 => ?_⟩
    have ec : ((used : Int) + (sz : Int)) = ((used + sz : Nat) : Int) := by omega
    rw [ec, cut_mid] at n2
    have s2 := s1.trans n2.same
    have hl2 : H2 l = some (.lst xs) := n2.same _ _ hl
    have lsl : ((us.drop used).take sz).length ≤ 3 := Nat.le_trans (List.length_take_le _ _) sz3
    refine ⟨fun σ' H3 => ∃ (u : Option Int) (pb : Addr) (ks : List Int), σ' = [some (.ref a), some (.ref p), some (.int many), some (.ref l), some (.int used), some (.int (rs.length : Nat)), some (.int sz), some (upV u), some (.ref pb)] ∧ Same H2 H3 ∧ H3 pb = some (.lst (((us.drop used).take sz ++ ks).map V.int)) ∧
      upOk rs.length u = true ∧ (∀ v ∈ ks, ∃ i, u = some i ∧ v ∈ (rowAt rs i.toNat).2) ∧ ks.Nodup ∧ ks.length ≤ 10, ?_, ?_⟩
    · refine ⟨_, rfl, _, _, rfl, rfl, _, rfl, ?_⟩
      refine ite2 (fun e => ?_) (fun e => ?_)
      · have e' : (0 : Int) < ((rs.length : Nat) : Int) := of_decide_eq_true e
        refine ⟨_, rfl, _, rfl, _, _, rfl, rfl, .inl ⟨by decide, by decide⟩, _, _, rfl, rfl, a, ns, _, rfl, hS.same s2, h63, (by omega), (by omega), fun z5 => ?_⟩
        have u0 := Int.emod_nonneg z5 (show ((rs.length : Nat) : Int) ≠ 0 by omega)
        have u1 := Int.emod_lt_of_pos z5 e'
        refine ⟨_, rfl, _, _, rfl, rfl, e', ?_⟩
        obtain ⟨f, ef⟩ : ∃ f : Nat, z5 % ((rs.length : Nat) : Int) = (f : Int) := ⟨(z5 % ((rs.length : Nat) : Int)).toNat, by omega⟩
        dsimp only
        rw [ef]
        have fl : f < rs.length := by omega
        obtain ⟨v, hx, ⟨pt, bb, rfl, hT, hbb, hbl, _⟩⟩ := paired_getr hpr (rowAt_lt fl)
        have okf := ok f fl
        unfold rowOk at okf
        rw [Bool.and_eq_true] at okf
        have lf := few_up hn okf.2
        refine ⟨_, rfl, _, rfl, _, rfl, l, _, _, _, rfl, rfl, SqL.of hl2, atI_nat hx, pt, _, _, _, rfl, rfl, SqT.of (n2.same _ _ hT), rfl, ?_⟩
        refine ⟨_, rfl, _, rfl, _, _, rfl, rfl, .inl ⟨by decide, by decide⟩, _, _, rfl, rfl, a, ns, _, rfl, hS.same s2, h63, (by omega), (by omega), fun z6 => ?_⟩
        refine ⟨bb, z6, _, rfl, SqL.of (n2.same _ _ hbb), by omega, fun pk ks H4 n4 sb => ?_⟩
        have lk := sb.length_le
        refine ⟨p2, pk, _, _, rfl, rfl, n4.same _ _ n2.here, n4.here, (by rw [List.length_map, List.length_map]; omega), fun p5 H5 n5 => ?_⟩
        rw [← List.map_append] at n5
        refine ⟨some (f : Int), p5, ks, rfl, n4.same.trans n5.same, n5.here, ?_, fun v hv => ⟨f, rfl, sb.subset hv⟩, (nodup_of_lt ((set_iff _ _).mp okf.2).2).sublist sb, by omega⟩
        unfold upOk
        rw [if_neg (by omega)]
        exact decide_eq_true ⟨by omega, by omega⟩
      · have e' : ¬ (0 : Int) < ((rs.length : Nat) : Int) := of_decide_eq_false (Bool.eq_false_iff.mpr e)
        refine ⟨none, p2, [], rfl, Same.refl _, ?_, ?_, fun v hv => absurd hv List.not_mem_nil, .nil, Nat.zero_le _⟩
        · rw [List.append_nil]; exact n2.here
        · unfold upOk
          rw [if_pos (by omega)]; rfl
    rintro σ' H3 ⟨u, pb, ks, rfl, s3, hpb, hu, hk, ndk, lk⟩
    have s03 := s2.trans s3
    have hl3 : H3 l = some (.lst xs) := s3 _ _ hl2
    refine ⟨_, rfl, _, rfl, _, _, rfl, rfl, ?_⟩
    dsimp only
    rw [ec]
    refine ⟨_, rfl, .inl ⟨rfl, _, SqL.of hl3⟩, _, rfl, _, rfl, pb, _, rfl, SqL.of hpb, (by rw [List.length_append]; omega), fun pz H4 zs n4 hz le => ?_⟩
    refine ⟨(by show 2 ≤ 1000; decide), fun pr H5 n5 => ?_⟩
    have s45 := n4.same.trans n5.same
    have hl5 : H5 l = some (.lst xs) := s45 _ _ hl3
    refine ⟨l, _, _, rfl, rfl, hl5, (by omega), fun H6 c6 => ?_⟩
    obtain ⟨g1, g2, g3⟩ := grow_ok pm ok mem tp hu hk ndk hz le
    have lz := hz.length_eq
    rw [List.length_append] at lz
    have s16 := n2.same.trans s3
    refine ⟨_, ?_, xs ++ [.ref pr], rs ++ [(u, zs)], used + sz, _, _, _, _, rfl, (s03.trans s45).chg f0 c6, c6.here, ?_, rfl, ?_, ?_, g1, g2, g3⟩
    · rw [em, List.length_append, List.length_singleton]
      omega
    · refine paired_snoc (Paired.mapP hpr fun v t q => (q.same (s16.trans s45)).chg hl5 c6) (RowL.chg hl5 c6 ⟨pr, pz, rfl, n5.here, n5.same _ _ n4.here, ?_, by dsimp only; omega⟩)
      exact (n4.ne hl3).symm
    · rw [List.length_append, List.length_singleton]
      omega
    · rw [List.length_append, List.length_singleton]
      omega
end

theorem mem_rowAt {rs : List Row} {r : Row} (h : r ∈ rs) : ∃ k, k < rs.length ∧ rowAt rs k = r := by
  obtain ⟨k, hk, e⟩ := List.getElem_of_mem h
  exact ⟨k, hk, rowAt_get (by rw [List.getElem?_eq_getElem hk, e])⟩

end K


namespace K
open PySem L2 Lw Bg
def UpsOk (rs : List Row) : Prop := ∀ j, j < rs.length → ∀ u, (rowAt rs j).1 = some u → 0 ≤ u ∧ u.toNat < j
theorem ups_ok {n : Int} {rs : List Row} (ok : ∀ k < rs.length, rowOk n rs k = true) : UpsOk rs := fun j hj u e => by
  have o := ok j hj
  unfold rowOk upOk at o
  rw [Bool.and_eq_true] at o
  by_cases z : j = 0
  · rw [if_pos z, e] at o; cases o.1
  · rw [if_neg z, e] at o
    have b := of_decide_eq_true o.1
    omega
theorem up_some {n : Int} {rs : List Row} (ok : ∀ k < rs.length, rowOk n rs k = true) {j : Nat} (hj : j < rs.length) (h0 : 0 < j) : ∃ u : Nat, (rowAt rs j).1 = some (u : Int) ∧ u < j := by
  have o := ok j hj
  unfold rowOk upOk at o
  rw [Bool.and_eq_true, if_neg (by omega)] at o
  cases e : (rowAt rs j).1 with
  | none => rw [e] at o; cases o.1
  | some u =>
    rw [e] at o
    have b := of_decide_eq_true o.1
    exact ⟨u.toNat, by congr 1; omega, by omega⟩

abbrev s_rooted : Stmt := top 8
theorem sc_rooted : FnScope ["tree", "k", "near", "olds", "rows", "ups", "row", "old", "fresh"] ["tree", "k"] (defScope s_rooted) := ⟨rfl, rfl, rfl, by decide +kernel, rfl, by decide +kernel, by decide +kernel⟩
abbrev s_neighbours : Stmt := top 9
theorem sc_neighbours : FnScope ["tree", "near", "row", "k"] ["tree"] (defScope s_neighbours) := ⟨rfl, rfl, rfl, by decide +kernel, rfl, by decide +kernel, by decide +kernel⟩
/-- the neighbours of row k, as the rows below i tell them -/
def nearAt (rs : List Row) (i k : Nat) : List Nat := (List.range i).flatMap fun j => match (rowAt rs j).1 with
  | none => []
  | some u => (if j = k then [u.toNat] else []) ++ (if u.toNat = k then [j] else [])
theorem near_succ (rs : List Row) (i k : Nat) : nearAt rs (i + 1) k = nearAt rs i k ++ (match (rowAt rs i).1 with
  | none => []
  | some u => (if i = k then [u.toNat] else []) ++ (if u.toNat = k then [i] else [])) := by
  unfold nearAt
  rw [List.range_succ, List.flatMap_append]
  simp
theorem near_mem {rs : List Row} {i k x : Nat} : x ∈ nearAt rs i k ↔ ∃ j u, j < i ∧ (rowAt rs j).1 = some u ∧ ((j = k ∧ x = u.toNat) ∨ (u.toNat = k ∧ x = j)) := by
  unfold nearAt
  rw [List.mem_flatMap]
  constructor
  · rintro ⟨j, hj, h⟩
    cases e : (rowAt rs j).1 with
    | none => rw [e] at h; cases h
    | some u =>
      rw [e] at h
      refine ⟨j, u, List.mem_range.mp hj, e, ?_⟩
      rcases List.mem_append.mp h with h | h
      · split at h
        · rename_i c; exact .inl ⟨c, List.mem_singleton.mp h⟩
        · cases h
      · split at h
        · rename_i c; exact .inr ⟨c, List.mem_singleton.mp h⟩
        · cases h
  · rintro ⟨j, u, hj, e, h⟩
    refine ⟨j, List.mem_range.mpr hj, ?_⟩
    rw [e]
    rcases h with ⟨c, rfl⟩ | ⟨c, rfl⟩
    · exact List.mem_append_left _ (by rw [if_pos c]; exact List.mem_singleton.mpr rfl)
    · exact List.mem_append_right _ (by rw [if_pos c]; exact List.mem_singleton.mpr rfl)
theorem near_lt {rs : List Row} (U : UpsOk rs) {k x : Nat} (h : x ∈ nearAt rs rs.length k) : x < rs.length := by
  obtain ⟨j, u, hj, e, h⟩ := near_mem.mp h
  have := U j hj u e
  omega
theorem near_len (rs : List Row) (i k : Nat) : (nearAt rs i k).length ≤ 2 * i := by
  induction i with
  | zero => simp [nearAt]
  | succ i ih =>
    rw [near_succ, List.length_append]
    have : (match (rowAt rs i).1 with
      | none => ([] : List Nat)
      | some u => (if i = k then [u.toNat] else []) ++ (if u.toNat = k then [i] else [])).length ≤ 2 := by
      split
      · simp
      · rw [List.length_append]
        split <;> split <;> simp
    omega
theorem near_up {rs : List Row} (U : UpsOk rs) (i k : Nat) (hi : i ≤ rs.length) : (nearAt rs i k).Pairwise (· < ·) ∧ (∀ x ∈ nearAt rs i k, x < i) := by
  induction i with
  | zero => exact ⟨by simp [nearAt], fun x h => by simp [nearAt] at h⟩
  | succ i ih =>
    obtain ⟨p, b⟩ := ih (by omega)
    rw [near_succ]
    cases e : (rowAt rs i).1 with
    | none =>
      dsimp only
      rw [List.append_nil]
      exact ⟨p, fun x hx => by have := b x hx; omega⟩
    | some u =>
      have hu := U i (by omega) u e
      dsimp only
      by_cases c : i = k
      · subst c
        have em : nearAt rs i i = [] := by
          refine List.eq_nil_iff_forall_not_mem.mpr fun x hx => ?_
          obtain ⟨j, u', hj, e', h⟩ := near_mem.mp hx
          have := U j (by omega) u' e'
          omega
        rw [em, if_pos rfl, if_neg (by omega)]
        exact ⟨by simp, fun x hx => by simp at hx; omega⟩
      · rw [if_neg c]
        split
        · refine ⟨List.pairwise_append.mpr ⟨p, by simp, fun x hx y hy => ?_⟩, fun x hx => ?_⟩
          · simp at hy
            have := b x hx
            omega
          · rcases List.mem_append.mp hx with hx | hx
            · have := b x hx; omega
            · simp at hx; omega
        · rw [List.nil_append, List.append_nil]
          exact ⟨p, fun x hx => by have := b x hx; omega⟩
abbrev natV (l : List Nat) : List V := l.map fun (x : Nat) => V.int (x : Int)
/-- lists of numbers at addresses that all differ -/
structure NearL (H : Hp) (qs : List Addr) (f : Nat → List Nat) : Prop where
  nd : qs.Nodup
  at_ : ∀ (j : Nat) q, qs[j]? = some q → H q = some (.lst (natV (f j)))
theorem NearL.same {H H' : Hp} {qs : List Addr} {f : Nat → List Nat} (n : NearL H qs f) (s : Same H H') : NearL H' qs f := ⟨n.nd, fun j q e => s _ _ (n.at_ j q e)⟩
theorem NearL.chg {H H' : Hp} {qs : List Addr} {f : Nat → List Nat} {i x : Nat} {q : Addr} (n : NearL H qs f) (e : qs[i]? = some q) (c : Chg H q (.lst (natV (f i) ++ [.int (x : Int)])) H') : NearL H' qs (fun j => if j = i then f i ++ [x] else f j) :=
  ⟨n.nd, fun j q' e' => by
    by_cases z : j = i
    · subst z
      rw [e] at e'; cases e'
      rw [if_pos rfl, c.here]
      simp [natV]
    · rw [if_neg z]
      refine (c.rest q' fun y => ?_).trans (n.at_ j q' e')
      subst y
      obtain ⟨h1, e1⟩ := List.getElem?_eq_some_iff.mp e
      obtain ⟨h2, e2⟩ := List.getElem?_eq_some_iff.mp e'
      exact z ((List.getElem_inj n.nd).mp (e2.trans e1.symm))⟩
def spNear (K : PySem.W.Frag) : Sp := fun vs H Q _ => ∃ (a : Addr) (rs : List Row), vs = [.ref a] ∧ RowsAt K H a rs ∧ UpsOk rs ∧ rs.length ≤ 400 ∧
  ∀ p qs H', Same H H' → H p = none → H' p = some (.lst (qs.map V.ref)) → qs.length = rs.length → (∀ q ∈ qs, H q = none) → p ∉ qs → NearL H' qs (nearAt rs rs.length) → Q (.ref p) H'
section
variable {P : Program} {w : World} {K : PySem.W.Frag} {mg : Str → Option Value} {base : Heap}
set_option maxHeartbeats 8000000 in
theorem ok_neighbours (B : Bl mg) (d_neighbours : Dn K mg "neighbours" s_neighbours ["tree"]) : FnOk P w K mg base CX0 1 d_neighbours.f d_neighbours.fd ["tree"] (spNear K) := by
  refine d_neighbours.F.ok sc_neighbours (fun vs H Q E h => ?_) (fun cdv A outer s H vs Q E hr h => ?_)
  · obtain ⟨a, rs, rfl, _⟩ := h
    rfl
  obtain ⟨a, rs, rfl, hR, U, h400, q⟩ := h
  obtain ⟨xs, hx, hp, hz⟩ := id hR
  have lx : xs.length = rs.length := Paired.length hp
  refine ⟨_, (pss_cons (ps_setLC (i := 1) ["row"] [none] sc_neighbours.nd rfl rfl (by kernel_rfl) rfl (pi_listK (K := K) rfl (pv 0)) (fun _ _ _ _ _ => (pg_name (i := 0) (show (["row"] : List Str).Nodup by decide +kernel) rfl (Or.inl rfl))) (fun _ _ _ _ _ => pts_nil) (fun _ _ _ _ _ => (pe_lstN pa_nil)) (by rfl))
      (pss_cons (ps_for PassesOwn.never rfl (pi_enum (K := K) rfl rfl B.enumerate (pa_cons (pv 0) pa_nil)) (pg_tupK (K := K) (n := 2) rfl rfl (pgs_cons (pg_name (i := 3) sc_neighbours.nd rfl (Or.inl rfl)) (pgs_cons (pg_name (i := 2) sc_neighbours.nd rfl (Or.inl rfl)) pgs_nil)))
      (pss_one (ps_if (pt_cmpR op_notN (pe_ix (ix_tupK (K := K) rfl) (pv 2) pe_int (fun _ _ => rfl)) pe_non (nomark _))
      (pss_cons (ps_expr (pe_bmK (K := K) rfl PySem.F.plainAttrs_list PySem.F.slot_list_append PySem.F.type_list_append mt_appendN (pe_ix (ix_listK (K := K) rfl) (pv 1) (pv 3) (fun _ _ => rfl)) (pa_cons (pe_ix (ix_tupK (K := K) rfl) (pv 2) pe_int (fun _ _ => rfl)) pa_nil)))
      (pss_one (ps_expr (pe_bmK (K := K) rfl PySem.F.plainAttrs_list PySem.F.slot_list_append PySem.F.type_list_append mt_appendN (pe_ix (ix_listK (K := K) rfl) (pv 1) (pe_ix (ix_tupK (K := K) rfl) (pv 2) pe_int (fun _ _ => rfl)) (fun _ _ => rfl)) (pa_cons (pv 3) pa_nil)))))
      pss_nil)))
      (pss_one (ps_ret (pv 1))))), ?_⟩
  refine ⟨_, rfl, a, rfl, ⟨_, hx⟩, ?_⟩
  refine lc_list (K := K) (a := a) (xs := xs) (fun i ys G => Same H G ∧ ∃ qs : List Addr, ys = qs.map V.ref ∧ qs.length = i ∧ (∀ q ∈ qs, H q = none) ∧ NearL G qs (fun _ => [])) ⟨Same.refl _, [], rfl, rfl, fun q h => absurd h List.not_mem_nil, ⟨.nil, fun j q e => by simp at e⟩⟩ (fun i ys G hi ⟨s, qs, e, l, _⟩ => ⟨s.seq hx, ?_⟩) (fun i x ys G hi ⟨s, qs, e, l, fr, nl⟩ => ?_) ?_
  · rw [e, List.length_map, l]
    exact Nat.le_of_lt (small1000 (by omega))
  · refine ⟨(by show 0 ≤ 1000; decide), fun p6 H6 n6 => ?_⟩
    refine ⟨s.trans n6.same, qs ++ [p6], by rw [e, List.map_append]; rfl, by rw [List.length_append, l]; rfl, fun q hq => ?_, ?_, fun j q ej => ?_⟩
    · rcases List.mem_append.mp hq with hq | hq
      · exact fr q hq
      · rw [List.mem_singleton.mp hq]; exact s.free n6.fresh
    · refine List.nodup_append.mpr ⟨nl.nd, List.nodup_cons.mpr ⟨List.not_mem_nil, .nil⟩, fun x hx y hy z => ?_⟩
      rw [List.mem_singleton.mp hy] at z
      obtain ⟨j, hj, ej⟩ := List.getElem_of_mem hx
      have := nl.at_ j x (by rw [← ej]; exact List.getElem?_eq_getElem hj)
      rw [z, n6.fresh] at this; cases this
    · by_cases c : j < qs.length
      · rw [List.getElem?_append_left c] at ej
        exact n6.same _ _ (nl.at_ j q ej)
      · rw [List.getElem?_append_right (by omega)] at ej
        cases z : j - qs.length with
        | zero => rw [z] at ej; simp at ej; rw [← ej]; exact n6.here
        | succ k => rw [z] at ej; simp at ej
  rintro ys G0 ⟨s0, qs, rfl, l0, fr0, nl0⟩ pn hfree
  obtain ⟨G, hnew⟩ : ∃ G, G = upd G0 pn (.lst (qs.map V.ref)) := ⟨_, rfl⟩
  have nG : New G0 pn (.lst (qs.map V.ref)) G := by rw [hnew]; exact New.mk0 hfree
  rw [← hnew]
  have sG : Same H G := s0.trans nG.same
  have pq : pn ∉ qs := fun hm => by
    obtain ⟨j, hj, ej⟩ := List.getElem_of_mem hm
    have := nl0.at_ j pn (by rw [← ej]; exact List.getElem?_eq_getElem hj)
    rw [nG.fresh] at this; cases this
  refine ⟨_, rfl, a, rfl, ⟨_, sG.seq hx⟩, ?_⟩
  refine for_enum (xs := xs) (fun i σ H' => (∃ rr kk : Option V, σ = [some (.ref a), some (.ref pn), rr, kk]) ∧ Same H H' ∧ H' pn = some (.lst (qs.map V.ref)) ∧ NearL H' qs (nearAt rs i)) ⟨⟨none, none, rfl⟩, sG, nG.here, nl0.nd, fun j q e => nG.same _ _ (nl0.at_ j q e)⟩ (fun i σ H' _ ⟨_, s, _⟩ => s.seq hx) ?_ ?_
  · rintro i x σ H4 p H5 hi ⟨⟨rr, kk, rfl⟩, s4, hpn, nl⟩ nw
    obtain ⟨r, hr1, ⟨pp, b, rfl, hT, hb, hbz⟩⟩ := paired_get hp hi
    have er : rowAt rs i = r := rowAt_get hr1
    have il : i < rs.length := (List.getElem?_eq_some_iff.mp hr1).1
    have s5 : Same H H5 := s4.trans nw.same
    have hpn5 := nw.same _ _ hpn
    have nl5 := nl.same nw.same
    refine ⟨p, _, rfl, SqT.of nw.here, rfl, _, _, rfl, _, _, rfl, rfl, ?_⟩
    refine ⟨_, rfl, pp, _, _, _, rfl, rfl, s5.tupq hT, rfl, rfl, _, rfl, ?_⟩
    cases e : r.1 with
    | none =>
      have ee : decide (upV r.1 = V.non) = true := by rw [e]; rfl
      rw [show (!decide (upV none = V.non)) = false from rfl]
      refine iteF ⟨⟨_, _, rfl⟩, s5, hpn5, nl5.nd, fun j q ej => ?_⟩
      rw [near_succ, er, e]
      dsimp only
      rw [List.append_nil]
      exact nl5.at_ j q ej
    | some u =>
      have hu := U i il u (by rw [er]; exact e)
      rw [e] at hT
      rw [show (!decide (upV (some u) = V.non)) = true from rfl]
      refine iteT ?_
      have il' : i < qs.length := by omega
      have ul : u.toNat < qs.length := by omega
      have hqi : qs[i]? = some qs[i] := List.getElem?_eq_getElem il'
      have hqu : qs[u.toNat]? = some qs[u.toNat] := List.getElem?_eq_getElem ul
      have eu : u = ((u.toNat : Nat) : Int) := by omega
      have mi : atI (qs.map V.ref) (i : Int) = some (V.ref qs[i]) := atI_nat (by rw [List.getElem?_map, hqi]; rfl)
      have mu : atI (qs.map V.ref) u = some (V.ref qs[u.toNat]) := by
        have z : atI (qs.map V.ref) ((u.toNat : Nat) : Int) = some (V.ref qs[u.toNat]) := atI_nat (by rw [List.getElem?_map, hqu]; rfl)
        rw [← eu] at z
        exact z
      have hli := near_len rs i i
      have hlu := near_len rs i u.toNat
      refine ⟨_, rfl, _, rfl, pn, _, _, _, rfl, rfl, SqL.of hpn5, mi, .inl ⟨rfl, _, SqL.of (nl5.at_ i _ hqi)⟩, _, rfl, pp, _, _, _, rfl, rfl, s5.tupq hT, rfl, qs[i], _, _, rfl, rfl, nl5.at_ i _ hqi, ?_, fun H6 c6 => ?_⟩
      · rw [List.length_map]; omega
      rw [show upV (some u) = V.int ((u.toNat : Nat) : Int) by rw [← eu]; rfl] at c6
      have nl6 := nl5.chg hqi c6
      have hqH : ∀ q ∈ qs, H q = none := fr0
      have s6 : Same H H6 := s5.chg (hqH _ (List.getElem_mem il')) c6
      have hpn6 : H6 pn = some (.lst (qs.map V.ref)) := (c6.rest pn fun z => pq (by rw [z]; exact List.getElem_mem il')).trans hpn5
      have nu : u.toNat ≠ i := by omega
      have g6 : H6 qs[u.toNat] = some (.lst (natV (nearAt rs i u.toNat))) := by
        have := nl6.at_ u.toNat _ hqu
        rw [if_neg nu] at this
        exact this
      refine ⟨_, rfl, _, rfl, pp, _, _, _, rfl, rfl, s6.tupq hT, rfl, pn, _, _, _, rfl, rfl, SqL.of hpn6, mu, .inl ⟨rfl, _, SqL.of g6⟩, _, rfl, qs[u.toNat], _, _, rfl, rfl, g6, ?_, fun H7 c7 => ?_⟩
      · rw [List.length_map]; omega
      have c7' : Chg H6 qs[u.toNat] (.lst (natV ((fun j => if j = i then nearAt rs i i ++ [u.toNat] else nearAt rs i j) u.toNat) ++ [.int (i : Int)])) H7 := by
        dsimp only
        rw [if_neg nu]
        exact c7
      have nl7 := nl6.chg hqu c7'
      refine ⟨⟨_, _, rfl⟩, s6.chg (hqH _ (List.getElem_mem ul)) c7, (c7.rest pn fun z => pq (by rw [z]; exact List.getElem_mem ul)).trans hpn6, nl7.nd, fun j q ej => ?_⟩
      have := nl7.at_ j q ej
      rw [this, near_succ, er, e]
      dsimp only
      by_cases c1 : j = u.toNat
      · subst c1
        rw [if_pos rfl, if_neg nu, if_neg (Ne.symm nu), if_pos rfl]
        simp
      · rw [if_neg c1, if_neg (Ne.symm c1)]
        by_cases c2 : j = i
        · subst c2
          rw [if_pos rfl, if_pos rfl]; simp
        · rw [if_neg c2, if_neg (Ne.symm c2)]; simp
  · rintro σ H4 ⟨⟨rr, kk, rfl⟩, s4, hpn, nl⟩
    rw [lx] at nl
    exact ⟨_, rfl, q pn qs H4 s4 (s0.free hfree) hpn (by rw [l0, lx]) fr0 pq nl⟩
end
/-- a row of a new list at p: its bag is new, too -/
def RowN (H : Hp) (ex : List Addr) (H' : Hp) (v : V) (r : Row) : Prop := ∃ q b, v = .ref q ∧ H' q = some (.tup [upV r.1, .ref b]) ∧ H' b = some (.lst (r.2.map V.int)) ∧ H b = none ∧ b ∉ ex ∧ r.2.length ≤ 1000
/-- the walk: the old numbers in their new order, and the new ups -/
def bst (rs : List Row) (k : Nat) : Nat → List Nat × List (Option Int)
  | 0 => ([k], [none])
  | r + 1 =>
    let p := bst rs k r
    if r < p.1.length then
      let fr := (nearAt rs rs.length (p.1.getD r 0)).filter fun j => !decide (j ∈ p.1)
      (p.1 ++ fr, p.2 ++ fr.map fun _ => some (r : Int))
    else p
theorem bst_succ {rs : List Row} {k r : Nat} (h : r < (bst rs k r).1.length) : bst rs k (r + 1) =
    ((bst rs k r).1 ++ (nearAt rs rs.length ((bst rs k r).1.getD r 0)).filter (fun j => !decide (j ∈ (bst rs k r).1)),
     (bst rs k r).2 ++ ((nearAt rs rs.length ((bst rs k r).1.getD r 0)).filter (fun j => !decide (j ∈ (bst rs k r).1))).map fun _ => some (r : Int)) := by
  rw [bst]
  simp only [if_pos h]
theorem bst_stop {rs : List Row} {k r : Nat} (h : ¬ r < (bst rs k r).1.length) : bst rs k (r + 1) = bst rs k r := by
  rw [bst]
  simp only [if_neg h]
structure BstOk (rs : List Row) (k r : Nat) : Prop where
  nd : (bst rs k r).1.Nodup
  lt : ∀ x ∈ (bst rs k r).1, x < rs.length
  len : (bst rs k r).2.length = (bst rs k r).1.length
  le : (bst rs k r).1.length ≤ rs.length
theorem nodup_le : ∀ {m : Nat} {l : List Nat}, l.Nodup → (∀ x ∈ l, x < m) → l.length ≤ m
  | 0, l, _, lt => by
    cases l with
    | nil => exact Nat.le_refl _
    | cons x r => exact absurd (lt x List.mem_cons_self) (Nat.not_lt_zero _)
  | m + 1, l, nd, lt => by
    have ih := nodup_le (m := m) (nd.erase m) fun x hx => by
      obtain ⟨h1, h2⟩ := nd.mem_erase_iff.mp hx
      have := lt x h2
      omega
    rw [List.length_erase] at ih
    split at ih <;> omega
theorem bst_ok {rs : List Row} {k : Nat} (U : UpsOk rs) (hk : k < rs.length) : ∀ r, BstOk rs k r
  | 0 => ⟨by simp [bst], fun x hx => by simp [bst] at hx; omega, rfl, by simp [bst]; omega⟩
  | r + 1 => by
    have ih := bst_ok U hk r
    by_cases h : r < (bst rs k r).1.length
    · have nd : (bst rs k (r + 1)).1.Nodup := by
        rw [bst_succ h]
        refine List.nodup_append.mpr ⟨ih.nd, ?_, fun x hx y hy z => ?_⟩
        · exact ((near_up U rs.length _ (Nat.le_refl _)).1.imp fun h => Nat.ne_of_lt h).filter _
        · subst z
          have := (List.mem_filter.mp hy).2
          simp at this
          exact this hx
      have lt : ∀ x ∈ (bst rs k (r + 1)).1, x < rs.length := fun x hx => by
        rw [bst_succ h] at hx
        rcases List.mem_append.mp hx with hx | hx
        · exact ih.lt x hx
        · exact near_lt U (List.mem_filter.mp hx).1
      exact ⟨nd, lt, by rw [bst_succ h]; simp [ih.len], nodup_le nd lt⟩
    · rw [show BstOk rs k (r + 1) ↔ BstOk rs k r from ⟨fun z => ih, fun _ => ⟨by rw [bst_stop h]; exact ih.nd, by rw [bst_stop h]; exact ih.lt, by rw [bst_stop h]; exact ih.len, by rw [bst_stop h]; exact ih.le⟩⟩]
      exact ih
/-- the first r rows of the rooted tree -/
def rootRow (rs : List Row) (p : List Nat × List (Option Int)) (j : Nat) : Row := (p.2.getD j none, (rowAt rs (p.1.getD j 0)).2)
theorem rootRow_succ {rs : List Row} {k r j : Nat} (ok : BstOk rs k r) (hj : j < r) (hr : r ≤ (bst rs k r).1.length) : rootRow rs (bst rs k (r + 1)) j = rootRow rs (bst rs k r) j := by
  by_cases h : r < (bst rs k r).1.length
  · unfold rootRow
    rw [bst_succ h]
    have a1 : j < (bst rs k r).1.length := by omega
    have a2 : j < (bst rs k r).2.length := by rw [ok.len]; exact a1
    simp only [List.getD_eq_getElem?_getD, List.getElem?_append_left a1, List.getElem?_append_left a2]
  · rw [bst_stop h]
theorem bst_long {rs : List Row} {k : Nat} : ∀ r, r < (bst rs k r).1.length → r + 1 ≤ (bst rs k (r + 1)).1.length := fun r h => by
  rw [bst_succ h, List.length_append]
  omega
/-- how long the walk is, and what it tells -/
def bstEnd (rs : List Row) (k : Nat) : Nat → Nat → Nat
  | 0, r => r
  | f + 1, r => if r < (bst rs k r).1.length then bstEnd rs k f (r + 1) else r
def rootLen (rs : List Row) (k : Nat) : Nat := bstEnd rs k rs.length 0
def rootedF (rs : List Row) (k : Nat) : List Row := (List.range (rootLen rs k)).map (rootRow rs (bst rs k (rootLen rs k)))
theorem bstEnd_eq {rs : List Row} {k : Nat} (U : UpsOk rs) (hk : k < rs.length) : ∀ f r e, r + f = rs.length → r ≤ e → (∀ i, r ≤ i → i < e → i < (bst rs k i).1.length) → ¬ e < (bst rs k e).1.length → bstEnd rs k f r = e
  | 0, r, e, h, le, a, b => by
    unfold bstEnd
    by_cases z : r = e
    · exact z
    · have := a r (Nat.le_refl _) (by omega)
      have := (bst_ok U hk r).le
      omega
  | f + 1, r, e, h, le, a, b => by
    unfold bstEnd
    by_cases z : r = e
    · subst z
      rw [if_neg b]
    · rw [if_pos (a r (Nat.le_refl _) (by omega))]
      exact bstEnd_eq U hk f (r + 1) e (by omega) (by omega) (fun i h1 h2 => a i (by omega) h2) b
theorem natV_ints (l : List Nat) : natV l = (l.map fun (x : Nat) => (x : Int)).map V.int := by
  unfold natV
  rw [List.map_map]
  rfl
theorem notInNats {K : PySem.W.Frag} {H : Hp} {b : Addr} {l : List Nat} {x : Nat} {Q : VK} (hS : SqL K H b (natV l)) (q : Q (.bl (!decide (x ∈ l))) H) : rInD K true (.int (x : Int)) (.ref b) H Q := by
  rw [natV_ints] at hS
  refine notInInts hS ?_
  have e : decide ((x : Int) ∈ l.map fun (x : Nat) => (x : Int)) = decide (x ∈ l) := by
    rw [Bool.eq_iff_iff, decide_eq_true_iff, decide_eq_true_iff, List.mem_map]
    constructor
    · rintro ⟨y, hy, e⟩
      have : y = x := by omega
      rw [← this]; exact hy
    · intro h
      exact ⟨x, h, rfl⟩
  rw [e]
  exact q
theorem fm_nats {f : V → Option V} {p : Nat → Bool} : ∀ {l : List Nat}, (∀ x ∈ l, f (.int (x : Int)) = if p x = true then some (.int (x : Int)) else none) → (natV l).filterMap f = natV (l.filter p)
  | [], _ => rfl
  | x :: r, h => by
    have ih := fm_nats (f := f) (p := p) (l := r) fun y hy => h y (List.mem_cons_of_mem _ hy)
    have hx := h x List.mem_cons_self
    show (V.int (x : Int) :: natV r).filterMap f = _
    rw [List.filter_cons]
    by_cases c : p x = true
    · rw [if_pos c] at hx ⊢
      rw [List.filterMap_cons_some hx, ih]; rfl
    · rw [if_neg c] at hx ⊢
      rw [List.filterMap_cons_none hx, ih]
theorem natV_at {l : List Nat} {j : Nat} (h : j < l.length) : atI (natV l) (j : Int) = some (.int ((l.getD j 0 : Nat) : Int)) := atI_nat (by
  unfold natV
  rw [List.getElem?_map, List.getElem?_eq_getElem h, List.getD_eq_getElem?_getD, List.getElem?_eq_getElem h]; rfl)
theorem ups_at {l : List (Option Int)} {j : Nat} (h : j < l.length) : atI (l.map upV) (j : Int) = some (upV (l.getD j none)) := atI_nat (by
  rw [List.getElem?_map, List.getElem?_eq_getElem h, List.getD_eq_getElem?_getD, List.getElem?_eq_getElem h]; rfl)
def spRooted (K : PySem.W.Frag) : Sp := fun vs H Q _ => ∃ (a : Addr) (rs : List Row) (k : Nat), vs = [.ref a, .int k] ∧ RowsAt K H a rs ∧ UpsOk rs ∧ rs.length ≤ 400 ∧ k < rs.length ∧
  ∀ p xs H', Same H H' → H p = none → H' p = some (.lst xs) → Paired (RowN H [p] H') xs (rootedF rs k) → Q (.ref p) H'
section
variable {P : Program} {w : World} {K : PySem.W.Frag} {mg : Str → Option Value} {base : Heap}
set_option maxHeartbeats 8000000 in
theorem ok_rooted (B : Bl mg) (d_is_whole : Dn K mg "is_whole" s_is_whole ["thing"]) (d_is_below : Dn K mg "is_below" s_is_below ["n", "thing"]) (d_neighbours : Dn K mg "neighbours" s_neighbours ["tree"]) (d_rooted : Dn K mg "rooted" s_rooted ["tree", "k"]) : FnOk P w K mg base CX0 3 d_rooted.f d_rooted.fd ["tree", "k"] (spRooted K) := by
  have G_is_below : FnOk P w K mg base CX0 2 _ _ _ _ := ok_is_below B d_is_whole d_is_below
  have G_neighbours : FnOk P w K mg base CX0 2 _ _ _ _ := (ok_neighbours B d_neighbours).mono (by decide)
  refine d_rooted.F.ok sc_rooted (fun vs H Q E h => ?_) (fun cdv A outer s H vs Q E hr h => ?_)
  · obtain ⟨a, rs, k, rfl, _⟩ := h
    rfl
  obtain ⟨a, rs, k, rfl, hR, U, h400, hk, q⟩ := h
  have hv : (A.deeper (PyProof.Rows.envOfC "rooted" (defScope s_rooted) s.heap.objs.size d_rooted.f cdv)).units + 65 < cLine := by have := hr.un; omega
  obtain ⟨xs, hx, hp, hz⟩ := id hR
  have lx : xs.length = rs.length := Paired.length hp
  refine ⟨_, (pss_cons (ps_if (pt_not (pt_truthK (K := K) rfl (pe_call G_is_below hr rfl d_is_below.m d_is_below.F.kp d_is_below.b .nil pass0 (pa_cons (pe_callB (call_lenK (K := K) rfl) rfl B.len (by decide +kernel) (pa_cons (pv 0) pa_nil)) (pa_cons (pv 1) pa_nil))) (fun _ => rfl)))
      (pss_one ps_never)
      pss_nil)
      (pss_cons (ps_set (i := 2) sc_rooted.nd rfl (Or.inl rfl) (pe_call G_neighbours hr rfl d_neighbours.m d_neighbours.F.kp d_neighbours.b .nil pass0 (pa_cons (pv 0) pa_nil)))
      (pss_cons (ps_set (i := 3) sc_rooted.nd rfl (Or.inr rfl) (pe_lstN (pa_cons (pv 1) pa_nil)))
      (pss_cons (ps_set (i := 4) sc_rooted.nd rfl (Or.inl rfl) (pe_lstN pa_nil))
      (pss_cons (ps_set (i := 5) sc_rooted.nd rfl (Or.inl rfl) (pe_lstN (pa_cons pe_non pa_nil)))
      (pss_cons (ps_while PassesOwn.never (pt_cmpR op_lt (pe_callB (call_lenK (K := K) rfl) rfl B.len (by decide +kernel) (pa_cons (pv 4) pa_nil)) (pe_callB (call_lenK (K := K) rfl) rfl B.len (by decide +kernel) (pa_cons (pv 3) pa_nil)) (nomark _))
      (pss_cons (ps_set (i := 6) sc_rooted.nd rfl (Or.inr rfl) (pe_callB (call_lenK (K := K) rfl) rfl B.len (by decide +kernel) (pa_cons (pv 4) pa_nil)))
      (pss_cons (ps_set (i := 7) sc_rooted.nd rfl (Or.inl rfl) (pe_ix (ix_listK (K := K) rfl) (pv 3) (pv 6) (fun _ _ => rfl)))
      (pss_cons (ps_expr (pe_bmK (K := K) rfl PySem.F.plainAttrs_list PySem.F.slot_list_append PySem.F.type_list_append mt_appendN (pv 4) (pa_cons (pe_tupN (pa_cons (pe_ix (ix_listK (K := K) rfl) (pv 5) (pv 6) (fun _ _ => rfl)) (pa_cons (pe_callTy (call_listN (K := K) rfl) rfl B.list (by decide +kernel) (pa_cons (pe_ix (ix_tupK (K := K) rfl) (pe_ix (ix_listK (K := K) rfl) (pv 0) (pv 7) (fun _ _ => rfl)) pe_int (fun _ _ => rfl)) pa_nil)) pa_nil))) pa_nil)))
      (pss_cons (ps_setLC (i := 8) ["j", "olds"] [none, some 3] sc_rooted.nd rfl rfl (by kernel_rfl) rfl (pi_listK (K := K) rfl (pe_ix (ix_listK (K := K) rfl) (pv 2) (pv 7) (fun _ _ => rfl))) (fun _ _ _ _ _ => (pg_name (i := 0) (show (["j", "olds"] : List Str).Nodup by decide +kernel) rfl (Or.inl rfl))) (fun _ _ _ _ _ => (pts_one (pt_cmpR (op_notInDK (K := K) rfl hv) (pv 0) (pv 1) (by with_unfolding_all rfl)))) (fun _ _ _ _ _ => (pv 0)) (by rfl))
      (pss_cons (ps_expr (pe_bmK (K := K) rfl PySem.F.plainAttrs_list PySem.F.slot_list_extend PySem.F.type_list_extend mt_extendN (pv 3) (pa_cons (pv 8) pa_nil)))
      (pss_one (ps_expr (pe_bmK (K := K) rfl PySem.F.plainAttrs_list PySem.F.slot_list_extend PySem.F.type_list_extend mt_extendN (pv 5) (pa_cons (pe_lc ["j", "row"] [none, some 6]  (by kernel_rfl) rfl (pi_listK (K := K) rfl (pv 8)) (fun _ _ _ _ _ => (pg_name (i := 0) (show (["j", "row"] : List Str).Nodup by decide +kernel) rfl (Or.inl rfl))) (fun _ _ _ _ _ => pts_nil) (fun _ _ _ _ _ => (pv 1))) pa_nil))))))))))
      (pss_one (ps_ret (pv 4))))))))), ?_⟩
  refine ⟨_, rfl, a, _, rfl, .inl hx, _, rfl, ((xs.length : Nat) : Int), some (k : Int), rfl, _, rfl, ?_⟩
  have hb : belowF ((xs.length : Nat) : Int) (some (k : Int)) = true := by unfold belowF; simp; omega
  rw [hb]
  refine iteF ?_
  refine ⟨_, rfl, a, rs, rfl, hR, U, h400, fun pn qs H1 s1 fpn hpn lq frq pq nl => ?_⟩
  refine ⟨_, rfl, (by show 1 ≤ 1000; decide), fun po H2 n2 => ?_⟩
  refine ⟨(by show 0 ≤ 1000; decide), fun pr H3 n3 => ?_⟩
  refine ⟨(by show 1 ≤ 1000; decide), fun pu H4 n4 => ?_⟩
  have dor : po ≠ pr := n3.ne n2.here
  have dou : po ≠ pu := n4.ne (n3.same _ _ n2.here)
  have dru : pr ≠ pu := n4.ne n3.here
  have s14 : Same H1 H4 := n2.same.trans (n3.same.trans n4.same)
  have fo : H1 po = none := n2.fresh
  have fr_ : H1 pr = none := n2.same.free n3.fresh
  have fu : H1 pu = none := n2.same.free (n3.same.free n4.fresh)
  refine ⟨fun m σ H' => ∃ (r : Nat) (ro ol fs : Option V) (ys : List V), m = rs.length - r ∧ σ = [some (.ref a), some (.int k), some (.ref pn), some (.ref po), some (.ref pr), some (.ref pu), ro, ol, fs] ∧ Same H1 H' ∧
      H' po = some (.lst (natV (bst rs k r).1)) ∧ H' pu = some (.lst ((bst rs k r).2.map upV)) ∧ H' pr = some (.lst ys) ∧ Paired (RowN H [pr, po, pu] H') ys ((List.range r).map (rootRow rs (bst rs k r))) ∧ r ≤ (bst rs k r).1.length ∧ ∀ i < r, i < (bst rs k i).1.length,
    ⟨_, 0, none, none, none, [], rfl, rfl, s14, n4.same _ _ (n3.same _ _ n2.here), n4.here, n4.same _ _ n3.here, .nil, Nat.zero_le _, fun i h => absurd h (Nat.not_lt_zero _)⟩, ?_⟩
  rintro m σ H5 ⟨r, ro, ol, fs, ys, rfl, rfl, s5, ho, hup, hrw, pr5, rl, ri⟩
  have ly : ys.length = r := by have := Paired.length pr5; simpa using this
  have OK := bst_ok U hk r
  refine ⟨_, rfl, pr, _, rfl, .inl (SqL.of hrw), _, rfl, po, _, rfl, .inl (SqL.of ho), _, _, rfl, rfl, _, rfl, ?_⟩
  refine ite2 (fun c => ?_) (fun c => ?_)
  · have c' : ((ys.length : Nat) : Int) < (((natV (bst rs k r).1).length : Nat) : Int) := of_decide_eq_true c
    rw [List.length_map, ly] at c'
    have rlt : r < (bst rs k r).1.length := by omega
    refine ⟨fun σ' H' => ∃ m', m' < rs.length - r ∧ ∃ (r : Nat) (ro ol fs : Option V) (ys : List V), m' = rs.length - r ∧ σ' = [some (.ref a), some (.int k), some (.ref pn), some (.ref po), some (.ref pr), some (.ref pu), ro, ol, fs] ∧ Same H1 H' ∧
      H' po = some (.lst (natV (bst rs k r).1)) ∧ H' pu = some (.lst ((bst rs k r).2.map upV)) ∧ H' pr = some (.lst ys) ∧ Paired (RowN H [pr, po, pu] H') ys ((List.range r).map (rootRow rs (bst rs k r))) ∧ r ≤ (bst rs k r).1.length ∧ ∀ i < r, i < (bst rs k i).1.length, fun _ _ h => h, ?_⟩
    refine ⟨_, rfl, pr, _, rfl, .inl (SqL.of hrw), ?_⟩
    dsimp only
    rw [ly]
    obtain ⟨o, eo⟩ : ∃ o, o = (bst rs k r).1.getD r 0 := ⟨_, rfl⟩
    have om : o ∈ (bst rs k r).1 := by rw [eo, List.getD_eq_getElem?_getD, List.getElem?_eq_getElem rlt]; exact List.getElem_mem rlt
    have ol' := OK.lt o om
    refine ⟨_, rfl, _, rfl, po, _, _, _, rfl, rfl, SqL.of ho, natV_at rlt, ?_⟩
    rw [← eo]
    obtain ⟨xo, hxo, ⟨po', bo, rfl, hTo, hbo, hboz⟩⟩ := paired_getr hp (rowAt_lt ol')
    have s05 : Same H H5 := s1.trans s5
    refine ⟨_, rfl, .inl ⟨rfl, _, SqL.of hrw⟩, _, rfl, _, rfl, pu, _, _, _, rfl, rfl, SqL.of hup, ups_at (by rw [OK.len]; exact rlt), _, rfl, _, rfl, a, _, _, _, rfl, rfl, s05.seq hx, atI_nat hxo, po', _, _, _, rfl, rfl, s05.tupq hTo, rfl, bo, _, rfl, .inl (s05.seq hbo), fun pb H6 n6 => ?_⟩
    refine ⟨(by show 2 ≤ 1000; decide), fun pt H7 n7 => ?_⟩
    have s57 : Same H5 H7 := n6.same.trans n7.same
    refine ⟨pr, _, _, rfl, rfl, s57 _ _ hrw, by have := OK.le; omega, fun H8 c8 => ?_⟩
    have s8 : Same H1 H8 := (s5.trans s57).chg fr_ c8
    have ho8 : H8 po = some (.lst (natV (bst rs k r).1)) := (c8.rest po dor).trans (s57 _ _ ho)
    have hu8 : H8 pu = some (.lst ((bst rs k r).2.map upV)) := (c8.rest pu (Ne.symm dru)).trans (s57 _ _ hup)
    have hqo : qs[o]? = some (qs[o]'(by omega)) := List.getElem?_eq_getElem (by omega)
    have no8 := s8 _ _ (nl.at_ o _ hqo)
    have nle := near_len rs rs.length o
    refine ⟨_, rfl, _, rfl, pn, _, _, _, rfl, rfl, SqL.of (s8 _ _ hpn), atI_nat (by rw [List.getElem?_map, hqo]; rfl), _, rfl, ⟨_, SqL.of no8⟩, ?_⟩
    refine lc_fmN (fun v => match v with | .int x => if decide (x.toNat ∈ (bst rs k r).1) = true then none else some (.int x) | _ => none) (SqL.of no8) (by rw [List.length_map]; omega) (fun v H9 N hv9 s9 hN => ?_) (fun H9 pf H10 s9 n10 => ?_)
    · obtain ⟨x, hx9, rfl⟩ := List.mem_map.mp hv9
      have hN' := hN H9 s9
      refine ⟨_, rfl, _, rfl, notInNats (SqL.of (s9 _ _ ho8)) ⟨_, rfl, ?_⟩⟩
      dsimp only at hN'
      rw [Int.toNat_natCast] at hN'
      by_cases d : x ∈ (bst rs k r).1
      · rw [if_pos (decide_eq_true d)] at hN'
        rw [decide_eq_true d]
        exact iteF hN'
      · rw [if_neg (by simpa using d)] at hN'
        rw [decide_eq_false d]
        exact iteT ⟨_, rfl, hN'⟩
    rw [fm_nats (p := fun x => !decide (x ∈ (bst rs k r).1)) (fun x _ => by
      dsimp only
      rw [Int.toNat_natCast]
      by_cases d : x ∈ (bst rs k r).1
      · rw [if_pos (decide_eq_true d), decide_eq_true d]; rfl
      · rw [if_neg (by simpa using d), decide_eq_false d]; rfl)] at n10
    obtain ⟨fr, efr⟩ : ∃ fr, fr = (nearAt rs rs.length o).filter fun x => !decide (x ∈ (bst rs k r).1) := ⟨_, rfl⟩
    rw [← efr] at n10
    have e1 : (bst rs k (r + 1)) = ((bst rs k r).1 ++ fr, (bst rs k r).2 ++ fr.map fun _ => some (r : Int)) := by
      rw [bst_succ rlt, ← eo, ← efr]
    have lfr : (bst rs k r).1.length + fr.length ≤ rs.length := by
      have := (bst_ok U hk (r + 1)).le
      rw [e1, List.length_append] at this
      exact this
    have s810 : Same H8 H10 := s9.trans n10.same
    have lo1 := OK.le
    have lo2 := OK.len
    refine ⟨_, rfl, .inl ⟨rfl, _, SqL.of (s810 _ _ ho8)⟩, _, rfl, po, pf, _, _, rfl, rfl, s810 _ _ ho8, n10.here, by rw [List.length_map, List.length_map]; omega, fun H11 c11 => ?_⟩
    have pfo : pf ≠ po := (n10.ne (s9 _ _ ho8)).symm
    have hf11 : H11 pf = some (.lst (natV fr)) := (c11.rest pf pfo).trans n10.here
    have hu11 : H11 pu = some (.lst ((bst rs k r).2.map upV)) := (c11.rest pu (Ne.symm dou)).trans (s810 _ _ hu8)
    refine ⟨_, rfl, .inl ⟨rfl, _, SqL.of hu11⟩, _, rfl, pf, rfl, ⟨_, SqL.of hf11⟩, ?_⟩
    refine lc_fmN (fun _ => some (.int (r : Int))) (SqL.of hf11) (by rw [List.length_map]; omega) (fun v H12 N hv12 s12 hN => ?_) (fun H12 pz H13 s12 n13 => ?_)
    · exact ⟨_, rfl, hN H12 s12⟩
    have ez : (natV fr).filterMap (fun _ => some (V.int (r : Int))) = (fr.map fun _ => some (r : Int)).map upV := by
      rw [List.map_map]
      unfold natV
      rw [List.filterMap_map]
      exact fm_some fun _ _ => rfl
    rw [ez] at n13
    have s13 : Same H11 H13 := s12.trans n13.same
    refine ⟨pu, pz, _, _, rfl, rfl, s13 _ _ hu11, n13.here, by rw [List.length_map, List.length_map, List.length_map]; omega, fun H14 c14 => ?_⟩
    have k14 : ∀ b u, b ≠ po → b ≠ pu → H8 b = some u → H14 b = some u := fun b u h1 h2 e => (c14.rest b h2).trans (s13 _ _ ((c11.rest b h1).trans (s810 _ _ e)))
    have s14' : Same H1 H14 := fun b u e => k14 b u (fun z => by rw [z, fo] at e; cases e) (fun z => by rw [z, fu] at e; cases e) (s8 _ _ e)
    have npb : pb ≠ pr := (n6.ne hrw).symm
    have hbn : H pb = none := s05.free n6.fresh
    refine ⟨rs.length - (r + 1), by omega, r + 1, _, _, _, ys ++ [.ref pt], rfl, rfl, s14', ?_, ?_, k14 _ _ (Ne.symm dor) dru c8.here, ?_, bst_long r rlt, fun i hi => ?_⟩
    · rw [e1, c14.rest po dou, s13 _ _ c11.here]
      simp [natV]
    · rw [e1, c14.here]
      simp
    · rw [List.range_succ, List.map_append]
      have keep : ∀ (v : V) (rw_ : Row), RowN H [pr, po, pu] H5 v rw_ → RowN H [pr, po, pu] H14 v rw_ := fun v rw_ ⟨q0, b0, e0, t0, l0, f0, d0, z0⟩ => by
        have g1 : H8 q0 = some (.tup [upV rw_.1, .ref b0]) := (c8.rest q0 (ne_of (s57 _ _ t0) (s57 _ _ hrw) (by intro z; cases z))).trans (s57 _ _ t0)
        have d1 : b0 ≠ pr := fun z => d0 (by rw [z]; exact List.mem_cons_self)
        have d2 : b0 ≠ po := fun z => d0 (by rw [z]; exact List.mem_cons_of_mem _ List.mem_cons_self)
        have d3 : b0 ≠ pu := fun z => d0 (by rw [z]; exact List.mem_cons_of_mem _ (List.mem_cons_of_mem _ List.mem_cons_self))
        have g2 : H8 b0 = some (.lst (rw_.2.map V.int)) := (c8.rest b0 d1).trans (s57 _ _ l0)
        exact ⟨q0, b0, e0, k14 _ _ (ne_of g1 ho8 (by intro z; cases z)) (ne_of g1 hu8 (by intro z; cases z)) g1, k14 _ _ d2 d3 g2, f0, d0, z0⟩
      have em : (List.range r).map (rootRow rs (bst rs k (r + 1))) = (List.range r).map (rootRow rs (bst rs k r)) := List.map_congr_left fun j hj => rootRow_succ OK (List.mem_range.mp hj) rl
      rw [em]
      have a2 : r < (bst rs k r).2.length := by rw [lo2]; exact rlt
      have er : rootRow rs (bst rs k (r + 1)) r = ((bst rs k r).2.getD r none, (rowAt rs o).2) := by
        unfold rootRow
        rw [e1, eo]
        simp only [List.getD_eq_getElem?_getD, List.getElem?_append_left rlt, List.getElem?_append_left a2]
      refine paired_snoc (Paired.mapP pr5 keep) ?_
      rw [er]
      have nb1 : pb ≠ po := (n6.ne ho).symm
      have nb2 : pb ≠ pu := (n6.ne hup).symm
      have t8 : H8 pt = some (.tup [upV ((bst rs k r).2.getD r none), .ref pb]) := (c8.rest pt (ne_of n7.here (s57 _ _ hrw) (by intro z; cases z))).trans n7.here
      have b8 : H8 pb = some (.lst ((rowAt rs o).2.map V.int)) := (c8.rest pb npb).trans (n7.same _ _ n6.here)
      refine ⟨pt, pb, rfl, k14 _ _ (ne_of t8 ho8 (by intro z; cases z)) (ne_of t8 hu8 (by intro z; cases z)) t8, k14 _ _ nb1 nb2 b8, hbn, ?_, hboz⟩
      intro z
      simp only [List.mem_cons, List.not_mem_nil, or_false] at z
      rcases z with z | z | z
      · exact npb z
      · exact nb1 z
      · exact nb2 z
    · by_cases z : i < r
      · exact ri i z
      · have : i = r := by omega
        subst this; exact rlt
  · have c' : ¬ ((ys.length : Nat) : Int) < (((natV (bst rs k r).1).length : Nat) : Int) := of_decide_eq_false (Bool.eq_false_iff.mpr c)
    rw [List.length_map, ly] at c'
    have er : rootLen rs k = r := bstEnd_eq U hk rs.length 0 r (by omega) (Nat.zero_le _) (fun i _ hi => ri i hi) (by omega)
    refine ⟨_, rfl, q pr ys H5 (s1.trans s5) (s1.free fr_) hrw ?_⟩
    unfold rootedF
    rw [er]
    exact Paired.mapP pr5 fun v w ⟨q0, b0, e0, t0, l0, f0, d0, z0⟩ => ⟨q0, b0, e0, t0, l0, f0, fun z => d0 (by rw [List.mem_singleton.mp z]; exact List.mem_cons_self), z0⟩
end

end K

namespace K
open PySem L2 Lw Bg
def tieT (ts : List (Int × Int)) (x y : Nat) : Bool := decide (((x : Int), (y : Int)) ∈ ts) || decide (((y : Int), (x : Int)) ∈ ts)
inductive PathT (ts : List (Int × Int)) (S : List Nat) (x : Nat) : Nat → Prop
  | one {u : Nat} (h : tieT ts x u = true) : PathT ts S x u
  | step {a u : Nat} (p : PathT ts S x a) (m : a ∈ S) (h : tieT ts a u = true) : PathT ts S x u
theorem PathT.glue {ts : List (Int × Int)} {S : List Nat} {x w u : Nat} (hw : w ∈ S) (a : PathT ts S x w) (b : PathT ts S w u) : PathT ts S x u := by
  induction b with
  | one h => exact .step a hw h
  | step p m h ih => exact .step ih m h
theorem tieT_symm {ts : List (Int × Int)} {x y : Nat} (h : tieT ts x y = true) : tieT ts y x = true := by
  unfold tieT at h ⊢
  rw [Bool.or_comm]; exact h
theorem PathT.symm {ts : List (Int × Int)} {S : List Nat} {x u : Nat} (h : PathT ts S x u) : PathT ts S u x := by
  induction h with
  | one h => exact .one (tieT_symm h)
  | step p m h ih => exact PathT.glue m (.one (tieT_symm h)) ih

/-- no ring: each set has a place with at most one other of it around -/
def Wooded (ts : List (Int × Int)) : Prop := ∀ S : List Nat, S ≠ [] → ∃ v ∈ S, ∀ a ∈ S, ∀ b ∈ S, tieT ts v a = true → tieT ts v b = true → a = b
/-- a way that meets no place twice, last place first -/
inductive Way (ts : List (Int × Int)) (x : Nat) : List Nat → Prop
  | one : Way ts x [x]
  | step {y z : Nat} {l : List Nat} (w : Way ts x (y :: l)) (t : tieT ts y z = true) (n : z ∉ y :: l) : Way ts x (z :: y :: l)
theorem Way.suffix {ts : List (Int × Int)} {x z : Nat} {l : List Nat} (h : Way ts x l) : z ∈ l → ∃ l', Way ts x (z :: l') ∧ ∀ y ∈ z :: l', y ∈ l := by
  induction h with
  | one =>
    intro hz
    obtain rfl := List.mem_singleton.mp hz
    exact ⟨[], .one, fun y hy => hy⟩
  | step w t n ih =>
    intro hz
    rcases List.mem_cons.mp hz with e | hz
    · subst e
      exact ⟨_, .step w t n, fun y hy => hy⟩
    · obtain ⟨l', h1, h2⟩ := ih hz
      exact ⟨l', h1, fun y hy => List.mem_cons_of_mem _ (h2 y hy)⟩
theorem way_of {ts : List (Int × Int)} {S : List Nat} {x u : Nat} (hx : x ∈ S) (h : PathT ts S x u) : u ∈ S → ∃ l, Way ts x (u :: l) ∧ ∀ y ∈ u :: l, y ∈ S := by
  have go : ∀ {w u : Nat} {l : List Nat}, Way ts x (w :: l) → (∀ y ∈ w :: l, y ∈ S) → tieT ts w u = true → u ∈ S → ∃ l, Way ts x (u :: l) ∧ ∀ y ∈ u :: l, y ∈ S := fun {w u l} a b t hu => by
    by_cases c : u ∈ w :: l
    · obtain ⟨l', h1, h2⟩ := a.suffix c
      exact ⟨l', h1, fun y hy => b y (h2 y hy)⟩
    · refine ⟨w :: l, .step a t c, fun y hy => ?_⟩
      rcases List.mem_cons.mp hy with e | hy
      · rw [e]; exact hu
      · exact b y hy
  induction h with
  | one t => exact fun hu => go .one (fun y hy => by rw [List.mem_singleton.mp hy]; exact hx) t hu
  | step p m t ih =>
    intro hu
    obtain ⟨l, h1, h2⟩ := ih m
    exact go h1 h2 t hu
theorem Way.deg {ts : List (Int × Int)} {x : Nat} {L : List Nat} (h : Way ts x L) : ∀ {z : Nat} {l : List Nat}, L = z :: l → ∀ w, w ∉ L → tieT ts w z = true → ∀ y ∈ L, y ≠ x → ∃ a b, a ∈ w :: L ∧ b ∈ w :: L ∧ a ≠ b ∧ tieT ts y a = true ∧ tieT ts y b = true := by
  induction h with
  | one => exact fun _ w _ _ y hy ne => absurd (List.mem_singleton.mp hy) ne
  | @step y0 z0 l0 w0 t n ih =>
    intro z l e w hw tw y hy ne
    injection e with e1 e2
    subst e1
    rcases List.mem_cons.mp hy with e | hy
    · subst e
      refine ⟨w, y0, List.mem_cons_self, List.mem_cons_of_mem _ (List.mem_cons_of_mem _ List.mem_cons_self), fun z => hw ?_, tieT_symm tw, tieT_symm t⟩
      rw [z]
      exact List.mem_cons_of_mem _ List.mem_cons_self
    · obtain ⟨a, b, ha, hb, c⟩ := ih rfl z0 n (tieT_symm t) y hy ne
      exact ⟨a, b, List.mem_cons_of_mem _ ha, List.mem_cons_of_mem _ hb, c⟩
theorem Way.last {ts : List (Int × Int)} {x : Nat} {L : List Nat} (h : Way ts x L) : x ∈ L := by
  induction h with
  | one => exact List.mem_singleton.mpr rfl
  | step w t n ih => exact List.mem_cons_of_mem _ ih
theorem Way.beside {ts : List (Int × Int)} {x : Nat} {L : List Nat} (h : Way ts x L) : ∀ {z : Nat} {l : List Nat}, L = z :: l → z ≠ x → ∃ a, a ∈ L ∧ tieT ts x a = true := by
  induction h with
  | one => exact fun e ne => absurd (List.cons.inj e).1.symm ne
  | @step y0 z0 l0 w0 t n ih =>
    intro z l e ne
    by_cases c : y0 = x
    · subst c
      exact ⟨z0, List.mem_cons_self, t⟩
    · obtain ⟨a, ha, ta⟩ := ih rfl c
      exact ⟨a, List.mem_cons_of_mem _ ha, ta⟩
theorem one_in {ts : List (Int × Int)} (W : Wooded ts) {S : List Nat} {v u u' : Nat} (hv : v ∉ S) (hu : u ∈ S) (hu' : u' ∈ S) (p : u = u' ∨ PathT ts S u u') (t : tieT ts v u = true) (t' : tieT ts v u' = true) : u = u' := by
  rcases p with e | p
  · exact e
  refine Classical.byContradiction fun ne => ?_
  obtain ⟨l, h, sub⟩ := way_of hu p hu'
  have vn : v ∉ u' :: l := fun z => hv (sub v z)
  obtain ⟨y, hy, un⟩ := W (v :: u' :: l) (List.cons_ne_nil _ _)
  by_cases c : y = v
  · subst c
    exact ne (un u (List.mem_cons_of_mem _ h.last) u' (List.mem_cons_of_mem _ List.mem_cons_self) t t')
  have hy' : y ∈ u' :: l := (List.mem_cons.mp hy).resolve_left c
  by_cases d : y = u
  · subst d
    obtain ⟨a, ha, ta⟩ := h.beside rfl (Ne.symm ne)
    have := un v List.mem_cons_self a (List.mem_cons_of_mem _ ha) (tieT_symm t) ta
    rw [this] at vn
    exact vn ha
  · obtain ⟨a, b, ha, hb, nab, ta, tb⟩ := h.deg rfl v vn t' y hy' d
    exact nab (un a ha b hb ta tb)

/-! a tree of bags begun at another bag -/
def rts (rs : List Row) : List (Int × Int) := (List.range rs.length).filterMap fun k => (rowAt rs k).1.map fun u => (u, (k : Int))
theorem mem_rts {rs : List Row} {a b : Int} : (a, b) ∈ rts rs ↔ ∃ k : Nat, k < rs.length ∧ (rowAt rs k).1 = some a ∧ b = (k : Int) := by
  unfold rts
  rw [List.mem_filterMap]
  constructor
  · rintro ⟨k, hk, e⟩
    obtain ⟨u, hu, e2⟩ := Option.map_eq_some_iff.mp e
    injection e2 with e3 e4
    exact ⟨k, List.mem_range.mp hk, by rw [hu, e3], e4.symm⟩
  · rintro ⟨k, hk, e, rfl⟩
    exact ⟨k, List.mem_range.mpr hk, by rw [e]; rfl⟩
theorem tie_near {rs : List Row} (U : UpsOk rs) {x y : Nat} : tieT (rts rs) x y = true ↔ y ∈ nearAt rs rs.length x := by
  rw [near_mem]
  unfold tieT
  rw [Bool.or_eq_true, decide_eq_true_iff, decide_eq_true_iff, mem_rts, mem_rts]
  constructor
  · rintro (⟨k, hk, e, h⟩ | ⟨k, hk, e, h⟩)
    · exact ⟨k, (x : Int), hk, e, .inr ⟨by omega, by omega⟩⟩
    · exact ⟨k, (y : Int), hk, e, .inl ⟨by omega, by omega⟩⟩
  · rintro ⟨j, u, hj, e, h | h⟩
    · have := U j hj u e
      exact .inr ⟨j, hj, by rw [e]; congr 1; omega, by omega⟩
    · have := U j hj u e
      exact .inl ⟨j, hj, by rw [e]; congr 1; omega, by omega⟩
theorem max_in {f : Nat → Nat} : ∀ {S : List Nat}, S ≠ [] → ∃ v ∈ S, ∀ x ∈ S, f x ≤ f v
  | [], h => absurd rfl h
  | [a], _ => ⟨a, List.mem_cons_self, fun x hx => by rw [List.mem_singleton.mp hx]; exact Nat.le_refl _⟩
  | a :: b :: r, _ => by
    obtain ⟨v, hv, h⟩ := max_in (f := f) (S := b :: r) (List.cons_ne_nil _ _)
    rcases Nat.le_total (f a) (f v) with c | c
    · refine ⟨v, List.mem_cons_of_mem _ hv, fun x hx => ?_⟩
      rcases List.mem_cons.mp hx with e | hx
      · rw [e]; exact c
      · exact h x hx
    · refine ⟨a, List.mem_cons_self, fun x hx => ?_⟩
      rcases List.mem_cons.mp hx with e | hx
      · rw [e]; exact Nat.le_refl _
      · exact Nat.le_trans (h x hx) c
theorem rts_wooded {rs : List Row} (U : UpsOk rs) : Wooded (rts rs) := by
  intro S ne
  obtain ⟨v, hv, mx⟩ := max_in (f := id) ne
  have up : ∀ a ∈ S, tieT (rts rs) v a = true → (rowAt rs v).1 = some (a : Int) := fun a ha t => by
    unfold tieT at t
    rw [Bool.or_eq_true, decide_eq_true_iff, decide_eq_true_iff, mem_rts, mem_rts] at t
    rcases t with ⟨k, hk, e, h⟩ | ⟨k, hk, e, h⟩
    · have := U k hk _ e
      have m : a ≤ v := mx a ha
      omega
    · have : k = v := by omega
      rw [this] at e
      exact e
  refine ⟨v, hv, fun a ha b hb ta tb => ?_⟩
  have e1 := up a ha ta
  have e2 := up b hb tb
  rw [e1] at e2
  injection e2 with e
  omega
theorem tie_ne {rs : List Row} (U : UpsOk rs) {x : Nat} : tieT (rts rs) x x = false := by
  cases c : tieT (rts rs) x x with
  | false => rfl
  | true =>
    unfold tieT at c
    rw [Bool.or_self, decide_eq_true_iff, mem_rts] at c
    obtain ⟨k, hk, e, h⟩ := c
    have := U k hk _ e
    omega
/-- what the walk has told so far -/
structure BstI (rs : List Row) (k r : Nat) : Prop where
  hd : (bst rs k r).1.getD 0 0 = k ∧ 0 < (bst rs k r).1.length
  top : (bst rs k r).2.getD 0 none = none
  up : ∀ j, 0 < j → j < (bst rs k r).1.length → ∃ i : Nat, (bst rs k r).2.getD j none = some (i : Int) ∧ i < j ∧ i < r ∧ tieT (rts rs) ((bst rs k r).1.getD i 0) ((bst rs k r).1.getD j 0) = true
  cl : ∀ i, i < r → i < (bst rs k r).1.length → ∀ y, tieT (rts rs) ((bst rs k r).1.getD i 0) y = true → y ∈ (bst rs k r).1
theorem getD_l {α : Type} {l m : List α} {i : Nat} {d : α} (h : i < l.length) : (l ++ m).getD i d = l.getD i d := by
  rw [List.getD_eq_getElem?_getD, List.getElem?_append_left h, List.getD_eq_getElem?_getD]
theorem bst_inv {rs : List Row} {k : Nat} (U : UpsOk rs) (hk : k < rs.length) : ∀ r, BstI rs k r
  | 0 => ⟨⟨rfl, by simp [bst]⟩, rfl, fun j h0 h1 => by simp [bst] at h1; omega, fun i h => absurd h (Nat.not_lt_zero _)⟩
  | r + 1 => by
    have I := bst_inv U hk r
    have O := bst_ok U hk r
    by_cases h : r < (bst rs k r).1.length
    · have e := bst_succ (rs := rs) (k := k) h
      generalize hf : (nearAt rs rs.length ((bst rs k r).1.getD r 0)).filter (fun j => !decide (j ∈ (bst rs k r).1)) = fr at e
      have mf : ∀ y, y ∈ fr ↔ tieT (rts rs) ((bst rs k r).1.getD r 0) y = true ∧ y ∉ (bst rs k r).1 := fun y => by
        rw [← hf, List.mem_filter, tie_near U]
        simp
      obtain ⟨h1, h2⟩ := I.hd
      have l2 := O.len
      refine ⟨?_, ?_, fun j j0 jl => ?_, fun i ir il y t => ?_⟩
      · rw [e]
        refine ⟨by rw [getD_l h2]; exact h1, by rw [List.length_append]; omega⟩
      · rw [e]
        show ((bst rs k r).2 ++ _).getD 0 none = none
        rw [getD_l (by omega)]; exact I.top
      · rw [e] at jl ⊢
        dsimp only at jl ⊢
        by_cases c : j < (bst rs k r).1.length
        · obtain ⟨i, a1, a2, a3, a4⟩ := I.up j j0 c
          refine ⟨i, by rw [getD_l (by omega)]; exact a1, a2, by omega, ?_⟩
          rw [getD_l (by omega), getD_l c]; exact a4
        · rw [List.length_append] at jl
          have jf : j - (bst rs k r).1.length < fr.length := by omega
          refine ⟨r, ?_, by omega, by omega, ?_⟩
          · rw [List.getD_eq_getElem?_getD, List.getElem?_append_right (by omega), l2, List.getElem?_map, List.getElem?_eq_getElem jf]; rfl
          · rw [getD_l h]
            have ej : ((bst rs k r).1 ++ fr).getD j 0 = fr[j - (bst rs k r).1.length] := by
              rw [List.getD_eq_getElem?_getD, List.getElem?_append_right (by omega), List.getElem?_eq_getElem jf]; rfl
            rw [ej]
            exact ((mf _).mp (List.getElem_mem jf)).1
      · rw [e] at il t ⊢
        dsimp only at il t ⊢
        by_cases c : i < r
        · rw [getD_l (by omega)] at t
          exact List.mem_append_left _ (I.cl i c (by omega) y t)
        · have : i = r := by omega
          subst this
          rw [getD_l h] at t
          by_cases d : y ∈ (bst rs k i).1
          · exact List.mem_append_left _ d
          · exact List.mem_append_right _ ((mf y).mpr ⟨t, d⟩)
    · have e := bst_stop (rs := rs) (k := k) h
      refine ⟨by rw [e]; exact I.hd, by rw [e]; exact I.top, fun j j0 jl => ?_, fun i ir il y t => ?_⟩
      · rw [e] at jl ⊢
        obtain ⟨i, a1, a2, a3, a4⟩ := I.up j j0 jl
        exact ⟨i, a1, a2, by omega, a4⟩
      · rw [e] at il t ⊢
        exact I.cl i (by omega) il y t
theorem end_at {rs : List Row} {k : Nat} (U : UpsOk rs) (hk : k < rs.length) : rootLen rs k = (bst rs k (rootLen rs k)).1.length := by
  have go : ∀ f r, r + f = rs.length → r ≤ (bst rs k r).1.length → r ≤ bstEnd rs k f r ∧ bstEnd rs k f r = (bst rs k (bstEnd rs k f r)).1.length := fun f => by
    induction f with
    | zero =>
      intro r h l
      have := (bst_ok U hk r).le
      exact ⟨Nat.le_refl _, by show r = (bst rs k r).1.length; omega⟩
    | succ f ih =>
      intro r h l
      unfold bstEnd
      by_cases c : r < (bst rs k r).1.length
      · rw [if_pos c]
        obtain ⟨a, b⟩ := ih (r + 1) (by omega) (bst_long r c)
        exact ⟨by omega, b⟩
      · rw [if_neg c]
        exact ⟨Nat.le_refl _, by omega⟩
  exact (go rs.length 0 (by omega) (Nat.zero_le _)).2
/-- the numbers told at the end, and the ups -/
structure RootI (rs : List Row) (k : Nat) (os : List Nat) (us : List (Option Int)) : Prop where
  nd : os.Nodup
  lt : ∀ x ∈ os, x < rs.length
  ln : us.length = os.length
  hd : os.getD 0 0 = k
  all : ∀ x, x < rs.length → x ∈ os
  top : us.getD 0 none = none
  up : ∀ j, 0 < j → j < os.length → ∃ i : Nat, us.getD j none = some (i : Int) ∧ i < j ∧ tieT (rts rs) (os.getD i 0) (os.getD j 0) = true
theorem root_inv {rs : List Row} {k : Nat} (U : UpsOk rs) (all0 : ∀ x, 0 < x → x < rs.length → ∃ u, (rowAt rs x).1 = some u) (hk : k < rs.length) : RootI rs k (bst rs k (rootLen rs k)).1 (bst rs k (rootLen rs k)).2 := by
  have I := bst_inv U hk (rootLen rs k)
  have O := bst_ok U hk (rootLen rs k)
  have E := end_at U hk
  generalize hp : bst rs k (rootLen rs k) = p at *
  have I' : BstI rs k (rootLen rs k) := bst_inv U hk (rootLen rs k)
  have cl : ∀ x ∈ p.1, ∀ y, tieT (rts rs) x y = true → y ∈ p.1 := fun x hx y t => by
    obtain ⟨i, hi, e⟩ := List.getElem_of_mem hx
    have := I'.cl i (by rw [E]; exact hi) (by rw [hp]; exact hi) y
    rw [hp, List.getD_eq_getElem?_getD, List.getElem?_eq_getElem hi] at this
    refine this ?_
    show tieT (rts rs) p.1[i] y = true
    rw [e]; exact t
  have upT : ∀ x u, x < rs.length → (rowAt rs x).1 = some u → tieT (rts rs) x u.toNat = true := fun x u hx e => by
    have := U x hx u e
    unfold tieT
    rw [Bool.or_eq_true]
    refine .inr (decide_eq_true (mem_rts.mpr ⟨x, hx, ?_, rfl⟩))
    rw [e]; congr 1; omega
  have km : k ∈ p.1 := by
    obtain ⟨h1, h2⟩ := I'.hd
    rw [hp] at h1 h2
    rw [← h1, List.getD_eq_getElem?_getD, List.getElem?_eq_getElem h2]
    exact List.getElem_mem h2
  have down : ∀ m x, x ≤ m → x < rs.length → x ∈ p.1 → 0 ∈ p.1 := fun m => by
    induction m with
    | zero => intro x h _ hx; have : x = 0 := by omega
              rw [this] at hx; exact hx
    | succ m ih =>
      intro x h xl hx
      rcases Nat.eq_zero_or_pos x with c | c
      · rw [c] at hx; exact hx
      · obtain ⟨u, e⟩ := all0 x c xl
        have := U x xl u e
        exact ih u.toNat (by omega) (by omega) (cl x hx _ (upT x u xl e))
  have z0 := down k k (Nat.le_refl _) hk km
  have upw : ∀ m x, x ≤ m → x < rs.length → x ∈ p.1 := fun m => by
    induction m with
    | zero => intro x h _; have : x = 0 := by omega
              rw [this]; exact z0
    | succ m ih =>
      intro x h xl
      rcases Nat.eq_zero_or_pos x with c | c
      · rw [c]; exact z0
      · obtain ⟨u, e⟩ := all0 x c xl
        have := U x xl u e
        exact cl _ (ih u.toNat (by omega) (by omega)) x (tieT_symm (upT x u xl e))
  have o1 := O.nd
  have o2 := O.lt
  have o3 := O.len
  rw [hp] at o1 o2 o3
  refine ⟨o1, o2, o3, ?_, fun x hx => upw x x (Nat.le_refl _) hx, ?_, fun j j0 jl => ?_⟩
  · have := I'.hd.1; rw [hp] at this; exact this
  · have := I'.top; rw [hp] at this; exact this
  · have := I'.up j j0 (by rw [hp]; exact jl)
    rw [hp] at this
    obtain ⟨i, a1, a2, _, a4⟩ := this
    exact ⟨i, a1, a2, a4⟩

theorem nodup_sub {α : Type} [DecidableEq α] : ∀ {l m : List α}, l.Nodup → (∀ x ∈ l, x ∈ m) → l.length ≤ m.length
  | [], _, _, _ => Nat.zero_le _
  | x :: r, m, h, s => by
    have h' := List.nodup_cons.mp h
    have hx := s x List.mem_cons_self
    have := List.length_erase_of_mem hx
    have p := List.length_pos_of_mem hx
    have ih := nodup_sub (l := r) (m := m.erase x) h'.2 fun y hy => (List.mem_erase_of_ne (fun (e : y = x) => h'.1 (e ▸ hy))).mpr (s y (List.mem_cons_of_mem _ hy))
    rw [List.length_cons]; omega
/-- a tree of bags, of any number of rows -/
structure TreeP (n : Nat) (rs : List Row) : Prop where
  pos : 0 < rs.length
  ok : ∀ k < rs.length, rowOk n rs k = true
  cov : ∀ v : Int, 0 ≤ v → v < (n : Int) → ∃ r ∈ rs, v ∈ r.2
  tops : ∀ v : Int, (topsF rs v).length ≤ 1
theorem two_tops {rs : List Row} {v : Int} (h : (topsF rs v).length ≤ 1) {a b : Nat} (al : a < rs.length) (bl : b < rs.length) (ha : isTop rs v a = true) (hb : isTop rs v b = true) : a = b := by
  have ma : a ∈ topsF rs v := List.mem_filter.mpr ⟨List.mem_range.mpr al, ha⟩
  have mb : b ∈ topsF rs v := List.mem_filter.mpr ⟨List.mem_range.mpr bl, hb⟩
  match e : topsF rs v, h with
  | [], _ => rw [e] at ma; exact absurd ma List.not_mem_nil
  | [x], _ =>
    rw [e] at ma mb
    rw [List.mem_singleton.mp ma, List.mem_singleton.mp mb]
theorem one_top {rs : List Row} {v : Int} (h : ∀ a b, a < b → b < rs.length → isTop rs v a = true → isTop rs v b = true → False) : (topsF rs v).length ≤ 1 := by
  match e : topsF rs v with
  | [] => exact Nat.zero_le _
  | [x] => exact Nat.le_refl _
  | x :: y :: r =>
    exfalso
    have pw : (topsF rs v).Pairwise (· < ·) := List.pairwise_lt_range.filter _
    rw [e] at pw
    have xy := (List.pairwise_cons.mp pw).1 y List.mem_cons_self
    have mx : x ∈ topsF rs v := by rw [e]; exact List.mem_cons_self
    have my : y ∈ topsF rs v := by rw [e]; exact List.mem_cons_of_mem _ List.mem_cons_self
    obtain ⟨_, tx⟩ := List.mem_filter.mp mx
    obtain ⟨ly, ty⟩ := List.mem_filter.mp my
    exact h x y xy (List.mem_range.mp ly) tx ty
/-- the rows that hold a place, each joined with the topmost -/
theorem to_top {rs : List Row} (U : UpsOk rs) {v : Int} {S : List Nat} (hS : ∀ x, x ∈ S ↔ x < rs.length ∧ v ∈ (rowAt rs x).2) : ∀ m x, x ≤ m → x ∈ S → ∃ t, t ∈ S ∧ isTop rs v t = true ∧ (x = t ∨ PathT (rts rs) S x t) := by
  intro m
  induction m with
  | zero =>
    intro x h hx
    obtain ⟨xl, xv⟩ := (hS x).mp hx
    refine ⟨x, hx, ?_, .inl rfl⟩
    unfold isTop has
    rw [decide_eq_true xv, Bool.true_and]
    have : (rowAt rs x).1 = none := by
      cases e : (rowAt rs x).1 with
      | none => rfl
      | some u => have := U x xl u e; omega
    rw [this]; rfl
  | succ m ih =>
    intro x h hx
    obtain ⟨xl, xv⟩ := (hS x).mp hx
    cases e : (rowAt rs x).1 with
    | none =>
      refine ⟨x, hx, ?_, .inl rfl⟩
      unfold isTop has
      rw [decide_eq_true xv, Bool.true_and, e]; rfl
    | some u =>
      have hu := U x xl u e
      by_cases c : v ∈ (rowAt rs u.toNat).2
      · have um : u.toNat ∈ S := (hS _).mpr ⟨by omega, c⟩
        obtain ⟨t, tm, tt, p⟩ := ih u.toNat (by omega) um
        have t1 : tieT (rts rs) x u.toNat = true := by
          unfold tieT
          rw [Bool.or_eq_true]
          refine .inr (decide_eq_true (mem_rts.mpr ⟨x, xl, ?_, rfl⟩))
          rw [e]; congr 1; omega
        refine ⟨t, tm, tt, .inr ?_⟩
        rcases p with p | p
        · rw [← p]; exact .one t1
        · exact PathT.glue um (.one t1) p
      · refine ⟨x, hx, ?_, .inl rfl⟩
        unfold isTop heldF has
        rw [decide_eq_true xv, e]
        dsimp only
        rw [decide_eq_false c]; rfl
theorem path_leaves {ts : List (Int × Int)} {S : List Nat} {D : Nat → Prop} {x y : Nat} (p : PathT ts S x y) : x ∈ S → y ∈ S → D x → ¬ D y → ∃ u w, u ∈ S ∧ w ∈ S ∧ D u ∧ ¬ D w ∧ tieT ts u w = true := by
  induction p with
  | one t => exact fun hx hy dx ny => ⟨x, _, hx, hy, dx, ny, t⟩
  | @step a u p m t ih =>
    intro hx hy dx ny
    by_cases c : D a
    · exact ⟨a, u, m, hy, c, ny, t⟩
    · exact ih hx m dx c
section
variable {rs : List Row} {k : Nat} {os : List Nat} {us : List (Option Int)}
theorem root_con (R : RootI rs k os us) {j : Nat} (jl : j ≤ os.length) (j0 : 0 < j) : ∀ m i, i ≤ m → i < j → os.getD i 0 = os.getD 0 0 ∨ PathT (rts rs) (os.take j) (os.getD i 0) (os.getD 0 0) := by
  have mem : ∀ i, i < j → os.getD i 0 ∈ os.take j := fun i hi => by
    rw [List.getD_eq_getElem?_getD, List.getElem?_eq_getElem (by omega)]
    exact List.mem_take_iff_getElem.mpr ⟨i, by omega, rfl⟩
  intro m
  induction m with
  | zero =>
    intro i h _
    have : i = 0 := by omega
    rw [this]; exact .inl rfl
  | succ m ih =>
    intro i h il
    rcases Nat.eq_zero_or_pos i with c | c
    · rw [c]; exact .inl rfl
    · obtain ⟨i', _, a2, a3⟩ := R.up i c (by omega)
      rcases ih i' (by omega) (by omega) with e | p
      · rw [← e]; exact .inr (.one (tieT_symm a3))
      · exact .inr (PathT.glue (mem i' (by omega)) (.one (tieT_symm a3)) p)
/-- what is tied is up and beneath in the new tree, too -/
theorem root_near (U : UpsOk rs) (R : RootI rs k os us) {i j : Nat} (ij : i < j) (jl : j < os.length) (t : tieT (rts rs) (os.getD i 0) (os.getD j 0) = true) : us.getD j none = some (i : Int) := by
  obtain ⟨i0, a1, a2, a3⟩ := R.up j (by omega) jl
  have mem : ∀ i, i < j → os.getD i 0 ∈ os.take j := fun i hi => by
    rw [List.getD_eq_getElem?_getD, List.getElem?_eq_getElem (by omega)]
    exact List.mem_take_iff_getElem.mpr ⟨i, by omega, rfl⟩
  have inj : ∀ {a b : Nat}, a < os.length → b < os.length → os.getD a 0 = os.getD b 0 → a = b := fun {a b} ha hb e => by
    rw [List.getD_eq_getElem?_getD, List.getElem?_eq_getElem ha, List.getD_eq_getElem?_getD, List.getElem?_eq_getElem hb] at e
    exact (List.getElem_inj R.nd).mp e
  have out : os.getD j 0 ∉ os.take j := fun z => by
    obtain ⟨i', h1, h2⟩ := List.mem_take_iff_getElem.mp z
    have : os.getD i' 0 = os.getD j 0 := by rw [List.getD_eq_getElem?_getD, List.getElem?_eq_getElem (by omega)]; exact h2
    have := inj (by omega) jl this
    omega
  have con : os.getD i0 0 = os.getD i 0 ∨ PathT (rts rs) (os.take j) (os.getD i0 0) (os.getD i 0) := by
    rcases root_con R (Nat.le_of_lt jl) (by omega) i0 i0 (Nat.le_refl _) a2 with e | p
    · rcases root_con R (Nat.le_of_lt jl) (by omega) i i (Nat.le_refl _) ij with e' | p'
      · exact .inl (e.trans e'.symm)
      · rw [e]; exact .inr p'.symm
    · rcases root_con R (Nat.le_of_lt jl) (by omega) i i (Nat.le_refl _) ij with e' | p'
      · rw [e']; exact .inr p
      · exact .inr (PathT.glue (mem 0 (by omega)) p p'.symm)
  have := one_in (rts_wooded U) out (mem i0 a2) (mem i ij) con (tieT_symm a3) (tieT_symm t)
  have := inj (by omega) (by omega) this
  rw [← this]; exact a1
/-- going up in the new tree one comes to b -/
inductive Bel (us : List (Option Int)) (b : Nat) : Nat → Prop
  | refl : Bel us b b
  | up {i j : Nat} (h : Bel us b i) (e : us.getD j none = some (i : Int)) : Bel us b j
theorem Bel.ge (R : RootI rs k os us) {b j : Nat} (h : Bel us b j) : j < os.length → b ≤ j := by
  induction h with
  | refl => exact fun _ => Nat.le_refl _
  | @up i j h e ih =>
    intro jl
    rcases Nat.eq_zero_or_pos j with c | c
    · rw [c, R.top] at e; cases e
    · obtain ⟨i0, a1, a2, _⟩ := R.up j c jl
      rw [e] at a1
      injection a1 with a1
      have := ih (by omega)
      omega
theorem root_tops (U : UpsOk rs) (R : RootI rs k os us) {v : Int} (T : (topsF rs v).length ≤ 1) {rs' : List Row} (len : rs'.length = os.length) (row : ∀ j, j < os.length → rowAt rs' j = (us.getD j none, (rowAt rs (os.getD j 0)).2)) : (topsF rs' v).length ≤ 1 := by
  refine one_top fun a b ab bl ta tb => ?_
  rw [len] at bl
  have om : ∀ {j : Nat}, j < os.length → os.getD j 0 ∈ os := fun {j} h => by
    rw [List.getD_eq_getElem?_getD, List.getElem?_eq_getElem h]; exact List.getElem_mem h
  have inj : ∀ {a b : Nat}, a < os.length → b < os.length → os.getD a 0 = os.getD b 0 → a = b := fun {a b} ha hb e => by
    rw [List.getD_eq_getElem?_getD, List.getElem?_eq_getElem ha, List.getD_eq_getElem?_getD, List.getElem?_eq_getElem hb] at e
    exact (List.getElem_inj R.nd).mp e
  have holds : ∀ {j : Nat}, j < os.length → isTop rs' v j = true → v ∈ (rowAt rs (os.getD j 0)).2 := fun {j} h t => by
    unfold isTop at t
    rw [Bool.and_eq_true, row j h] at t
    exact of_decide_eq_true t.1
  obtain ⟨S, hS⟩ : ∃ S : List Nat, ∀ x, x ∈ S ↔ x < rs.length ∧ v ∈ (rowAt rs x).2 := ⟨(List.range rs.length).filter fun x => decide (v ∈ (rowAt rs x).2), fun x => by rw [List.mem_filter, List.mem_range, decide_eq_true_iff]⟩
  have xm : os.getD a 0 ∈ S := (hS _).mpr ⟨R.lt _ (om (by omega)), holds (by omega) ta⟩
  have ym : os.getD b 0 ∈ S := (hS _).mpr ⟨R.lt _ (om bl), holds bl tb⟩
  obtain ⟨t1, m1, p1, w1⟩ := to_top U hS _ _ (Nat.le_refl _) xm
  obtain ⟨t2, m2, p2, w2⟩ := to_top U hS _ _ (Nat.le_refl _) ym
  have e12 := two_tops T ((hS t1).mp m1).1 ((hS t2).mp m2).1 p1 p2
  subst e12
  have way : PathT (rts rs) S (os.getD b 0) (os.getD a 0) := by
    have ne : os.getD b 0 ≠ os.getD a 0 := fun e => by have := inj bl (by omega) e; omega
    rcases w1 with e1 | q1
    · rcases w2 with e2 | q2
      · exact absurd (e2.trans e1.symm) ne
      · rw [e1]; exact q2
    · rcases w2 with e2 | q2
      · rw [e2]; exact q1.symm
      · exact PathT.glue m1 q2 q1.symm
  obtain ⟨u, w, um, wm, ⟨i, il, ei, bi⟩, nw, tuw⟩ := path_leaves (D := fun x => ∃ j, j < os.length ∧ os.getD j 0 = x ∧ Bel us b j) way ym xm ⟨b, bl, rfl, .refl⟩ fun ⟨j, jl, e, h⟩ => by
    have := inj jl (by omega) e
    subst this
    have := h.ge R jl
    omega
  obtain ⟨j, jl, ej⟩ : ∃ j, j < os.length ∧ os.getD j 0 = w := by
    obtain ⟨j, hj, e⟩ := List.getElem_of_mem (R.all w ((hS w).mp wm).1)
    exact ⟨j, hj, by rw [List.getD_eq_getElem?_getD, List.getElem?_eq_getElem hj]; exact e⟩
  rw [← ei, ← ej] at tuw
  rcases Nat.lt_trichotomy i j with c | c | c
  · exact nw ⟨j, jl, ej, .up bi (root_near U R c jl tuw)⟩
  · rw [c] at tuw
    rw [tie_ne U] at tuw; cases tuw
  · have e := root_near U R c il (tieT_symm tuw)
    cases bi with
    | refl =>
      unfold isTop at tb
      rw [Bool.and_eq_true, row b bl] at tb
      have h2 := tb.2
      unfold heldF has at h2
      rw [e] at h2
      dsimp only at h2
      rw [Int.toNat_natCast, row j jl, ej] at h2
      rw [decide_eq_true ((hS w).mp wm).2] at h2
      cases h2
    | up h e' =>
      rw [e] at e'
      injection e' with e'
      have : j = _ := Int.ofNat.inj e'
      subst this
      exact nw ⟨j, jl, ej, h⟩
end
theorem root_row {rs : List Row} {k j : Nat} (U : UpsOk rs) (hk : k < rs.length) (h : j < rootLen rs k) : rowAt (rootedF rs k) j = ((bst rs k (rootLen rs k)).2.getD j none, (rowAt rs ((bst rs k (rootLen rs k)).1.getD j 0)).2) := by
  unfold rowAt rootedF
  rw [List.getD_eq_getElem?_getD, List.getElem?_map, List.getElem?_range h]; rfl
theorem root_tree {n : Nat} {rs : List Row} {k : Nat} (T : TreeP n rs) (hk : k < rs.length) : TreeP n (rootedF rs k) ∧ (rootedF rs k).length = rs.length ∧ ∀ r, r ∈ rs → ∃ r' ∈ rootedF rs k, r'.2 = r.2 := by
  have U := ups_ok T.ok
  have all0 : ∀ x, 0 < x → x < rs.length → ∃ u, (rowAt rs x).1 = some u := fun x h0 hl => by
    obtain ⟨u, e, _⟩ := up_some T.ok hl h0
    exact ⟨_, e⟩
  have R := root_inv U all0 hk
  have E := end_at U hk
  have rw_ := fun {j} h => root_row (j := j) U hk h
  generalize hos : (bst rs k (rootLen rs k)).1 = os at *
  generalize hus : (bst rs k (rootLen rs k)).2 = us at *
  have ll : (rootedF rs k).length = os.length := by unfold rootedF; rw [List.length_map, List.length_range]; exact E
  have lo : os.length = rs.length := by
    refine Nat.le_antisymm (nodup_le R.nd R.lt) ?_
    have := nodup_sub (l := List.range rs.length) (m := os) List.nodup_range fun x hx => R.all x (List.mem_range.mp hx)
    rw [List.length_range] at this
    exact this
  have row : ∀ j, j < os.length → rowAt (rootedF rs k) j = (us.getD j none, (rowAt rs (os.getD j 0)).2) := fun j hj => rw_ (by rw [E]; exact hj)
  have om : ∀ {j : Nat}, j < os.length → os.getD j 0 < rs.length := fun {j} h => R.lt _ (by
    rw [List.getD_eq_getElem?_getD, List.getElem?_eq_getElem h]; exact List.getElem_mem h)
  have every : ∀ r, r ∈ rs → ∃ r' ∈ rootedF rs k, r'.2 = r.2 := fun r hr => by
    obtain ⟨x, hx, e⟩ := mem_rowAt hr
    obtain ⟨j, hj, ej⟩ := List.getElem_of_mem (R.all x hx)
    refine ⟨rowAt (rootedF rs k) j, List.mem_of_getElem? (rowAt_lt (by rw [ll]; exact hj)), ?_⟩
    rw [row j hj]
    show (rowAt rs (os.getD j 0)).2 = _
    rw [List.getD_eq_getElem?_getD, List.getElem?_eq_getElem hj]
    show (rowAt rs os[j]).2 = _
    rw [ej, e]
  refine ⟨⟨by rw [ll, lo]; exact T.pos, fun j hj => ?_, fun v v0 v1 => ?_, fun v => root_tops U R (T.tops v) ll row⟩, by rw [ll, lo], every⟩
  · rw [ll] at hj
    have o := T.ok _ (om hj)
    unfold rowOk at o ⊢
    rw [Bool.and_eq_true] at o
    rw [row j hj, Bool.and_eq_true]
    refine ⟨?_, o.2⟩
    unfold upOk
    by_cases c : j = 0
    · rw [if_pos c, c]
      show (us.getD 0 none).isNone = true
      rw [R.top]; rfl
    · rw [if_neg c]
      obtain ⟨i, a1, a2, _⟩ := R.up j (by omega) hj
      show belowF j (us.getD j none) = true
      rw [a1]
      unfold belowF
      exact decide_eq_true ⟨by omega, by omega⟩
  · obtain ⟨r, hr, hv⟩ := T.cov v v0 v1
    obtain ⟨r', h1, h2⟩ := every r hr
    exact ⟨r', h1, by rw [h2]; exact hv⟩

end K


namespace K
open PySem L2 Lw Bg
abbrev s_meeting : Stmt := top 10
theorem sc_meeting : FnScope ["tree", "sets", "k", "row"] ["tree", "sets"] (defScope s_meeting) := ⟨rfl, rfl, rfl, by decide +kernel, rfl, by decide +kernel, by decide +kernel⟩
abbrev s__law_meets : Stmt := top 20
theorem sc__law_meets : FnScope ["_law_row", "_law_parts_here", "_law_part"] ["_law_row", "_law_parts_here"] (defScope s__law_meets) := ⟨rfl, rfl, rfl, by decide +kernel, rfl, by decide +kernel, by decide +kernel⟩
/-- a list of sets -/
def SetsAt (K : PySem.W.Frag) (H : Hp) (l : Addr) (ss : List (List Int)) : Prop := ∃ vs, SqL K H l vs ∧ Paired (LstV K H) vs ss
theorem lstv_same {K : PySem.W.Frag} {H H' : Hp} {v : V} {ns : List Int} (e : Same H H') (h : LstV K H v ns) : LstV K H' v ns := by
  obtain ⟨p, rfl, h⟩ := h
  exact ⟨p, rfl, e.seq h⟩
theorem SetsAt.same {K : PySem.W.Frag} {H H' : Hp} {l : Addr} {ss : List (List Int)} (e : Same H H') (h : SetsAt K H l ss) : SetsAt K H' l ss := by
  obtain ⟨vs, h, p⟩ := h
  exact ⟨vs, e.seq h, Paired.mapP p fun _ _ q => lstv_same e q⟩
def condF (r : Row) (s : List Int) : Bool := !((commonF r.2 s).map V.int).isEmpty
def meetF (r : Row) (ss : List (List Int)) : Bool := ss.all (condF r)
def firstF (rs : List Row) (ss : List (List Int)) : Option Nat := (List.range rs.length).find? fun k => meetF (rowAt rs k) ss
def outV : Option Nat → V
  | some k => .int (k : Nat)
  | none => .non
theorem cond_iff (r : Row) (s : List Int) : condF r s = true ↔ ∃ v, v ∈ r.2 ∧ v ∈ s := by
  unfold condF commonF
  rw [Bool.not_eq_true', ← Bool.not_eq_true, List.isEmpty_iff, List.map_eq_nil_iff, List.filter_eq_nil_iff]
  constructor
  · intro h
    by_cases c : ∃ v, v ∈ r.2 ∧ v ∈ s
    · exact c
    · exact absurd (fun a ha e => c ⟨a, ha, of_decide_eq_true e⟩) h
  · rintro ⟨v, h1, h2⟩ h
    exact h v h1 (decide_eq_true h2)
theorem cond_len (r : Row) (s : List Int) : decide ((s.filter fun v => decide (v ∈ r.2)).length = 0) = !condF r s := by
  rw [Bool.eq_iff_iff, decide_eq_true_iff, Bool.not_eq_true', ← Bool.not_eq_true, cond_iff, List.length_eq_zero_iff, List.filter_eq_nil_iff]
  constructor
  · rintro h ⟨v, h1, h2⟩
    exact h v h2 (decide_eq_true h1)
  · exact fun h a ha e => h ⟨a, of_decide_eq_true e, ha⟩
theorem first_at {rs : List Row} {ss : List (List Int)} {i : Nat} (hi : i < rs.length) (no : ∀ j < i, meetF (rowAt rs j) ss = false) (h : meetF (rowAt rs i) ss = true) : firstF rs ss = some i := by
  unfold firstF
  exact List.find?_range_eq_some.mpr ⟨h, List.mem_range.mpr hi, fun j hj => by rw [no j hj]; rfl⟩
theorem first_no {rs : List Row} {ss : List (List Int)} (no : ∀ j < rs.length, meetF (rowAt rs j) ss = false) : firstF rs ss = none := by
  unfold firstF
  refine List.find?_eq_none.mpr fun j hj => ?_
  rw [no j (List.mem_range.mp hj)]; simp
def spMeeting (K : PySem.W.Frag) : Sp := fun vs H Q _ => ∃ (l m : Addr) (rs : List Row) (ss : List (List Int)), vs = [.ref l, .ref m] ∧ RowsAt K H l rs ∧ SetsAt K H m ss ∧ ss.length ≤ 1000 ∧ ∀ H', Same H H' → Q (outV (firstF rs ss)) H'
def spMeets (K : PySem.W.Frag) : Sp := fun vs H Q _ => ∃ (v : V) (m : Addr) (r : Row) (ss : List (List Int)), vs = [v, .ref m] ∧ RowV K H v r ∧ SetsAt K H m ss ∧ (∀ s ∈ ss, s.length ≤ 1000) ∧ ∀ H', Same H H' → Q (.bl (meetF r ss)) H'
def TruL (K : PySem.W.Frag) (H : Hp) (v : V) (b : Bool) : Prop := ∃ p xs, v = .ref p ∧ SqL K H p xs ∧ b = !xs.isEmpty
theorem TruL.same {K : PySem.W.Frag} {H H' : Hp} {v : V} {b : Bool} (e : Same H H') (h : TruL K H v b) : TruL K H' v b := by
  obtain ⟨p, xs, rfl, h, eb⟩ := h
  exact ⟨p, xs, rfl, e.seq h, eb⟩
section
variable {P : Program} {w : World} {K : PySem.W.Frag} {mg : Str → Option Value} {base : Heap}
set_option maxHeartbeats 4000000 in
theorem ok_meeting (B : Bl mg) (d_common : Dn K mg "common" s_common ["one", "other"]) (d_meeting : Dn K mg "meeting" s_meeting ["tree", "sets"]) : FnOk P w K mg base CX0 2 d_meeting.f d_meeting.fd ["tree", "sets"] (spMeeting K) := by
  have G_common : FnOk P w K mg base CX0 1 _ _ _ _ := ok_common B d_common
  refine d_meeting.F.ok sc_meeting (fun vs H Q E h => ?_) (fun cdv A outer s H vs Q E hr h => ?_)
  · obtain ⟨l, m, rs, ss, rfl, _⟩ := h
    rfl
  obtain ⟨l, m, rs, ss, rfl, hR, hM, hz, q⟩ := h
  refine ⟨_, (pss_cons (ps_for PassesOwn.never rfl (pi_enum (K := K) rfl rfl B.enumerate (pa_cons (pv 0) pa_nil)) (pg_tupK (K := K) (n := 2) rfl rfl (pgs_cons (pg_name (i := 2) sc_meeting.nd rfl (Or.inl rfl)) (pgs_cons (pg_name (i := 3) sc_meeting.nd rfl (Or.inr rfl)) pgs_nil)))
      (pss_one (ps_if (pt_truthK (K := K) rfl (pe_callB (call_allK (K := K) rfl rfl) rfl B.all (by decide +kernel) (pa_cons (pe_lc ["places", "row"] [none, some 3]  (by kernel_rfl) rfl (pi_listK (K := K) rfl (pv 1)) (fun _ _ _ _ _ => (pg_name (i := 0) (show (["places", "row"] : List Str).Nodup by decide +kernel) rfl (Or.inl rfl))) (fun _ _ _ _ _ => pts_nil) (fun _ _ _ _ _ => (pe_call G_common hr rfl d_common.m d_common.F.kp d_common.b .nil pass0 (pa_cons (pe_ix (ix_tupK (K := K) rfl) (pv 1) pe_int (fun _ _ => rfl)) (pa_cons (pv 0) pa_nil))))) pa_nil)) (fun _ => rfl))
      (pss_one (ps_ret (pv 2)))
      pss_nil)))
      (pss_one (ps_ret pe_non))), ?_⟩
  obtain ⟨xs, hx, hp, _⟩ := id hR
  obtain ⟨ms, hm, hpm⟩ := id hM
  have lx : xs.length = rs.length := Paired.length hp
  have lm : ms.length = ss.length := Paired.length hpm
  refine ⟨_, rfl, l, rfl, ⟨_, hx⟩, ?_⟩
  refine for_enum (xs := xs) (fun i σ H2 => ∃ (kk rr : Option V), σ = [some (.ref l), some (.ref m), kk, rr] ∧ Same H H2 ∧ (∀ j < i, meetF (rowAt rs j) ss = false)) ⟨none, none, rfl, Same.refl _, fun j hj => absurd hj (Nat.not_lt_zero _)⟩ (fun i σ H2 _ ⟨_, _, _, sm, _⟩ => sm.seq hx) ?_ ?_
  · rintro i x σ H2 p H3 hi ⟨kk, rr, rfl, sm, no⟩ nw
    obtain ⟨r, hr1, ⟨pr, b, rfl, hT, hb, hbl⟩⟩ := paired_get hp hi
    have s3 : Same H H3 := sm.trans nw.same
    have er : rowAt rs i = r := rowAt_get hr1
    have il : i < rs.length := (List.getElem?_eq_some_iff.mp hr1).1
    refine ⟨p, _, rfl, SqT.of nw.here, rfl, _, _, rfl, _, _, rfl, rfl, ?_⟩
    refine ⟨_, rfl, m, rfl, ⟨_, s3.seq hm⟩, ?_⟩
    refine lc_list (K := K) (a := m) (xs := ms) (fun i ys G => Same H3 G ∧ Paired (TruL K G) ys ((ss.take i).map (condF r))) ⟨Same.refl _, .nil⟩ (fun i ys G hi ⟨s, p⟩ => ⟨(s3.trans s).seq hm, ?_⟩) (fun i x ys G hi ⟨s, p⟩ => ?_) ?_
    · have := Paired.length p
      rw [this, List.length_map, List.length_take]
      exact Nat.le_of_lt (small1000 (by omega))
    · obtain ⟨t, ht, ⟨pt, rfl, hpt⟩⟩ := paired_get hpm hi
      have s4 := s3.trans s
      refine ⟨_, rfl, pr, _, _, _, rfl, rfl, s4.tupq hT, rfl, _, rfl, b, pt, r.2, t, rfl, s4.seq hb, s4.seq hpt, hbl, fun H4 p5 H5 s45 n5 => ?_⟩
      have s5 := s45.trans n5.same
      refine ⟨s.trans s5, ?_⟩
      obtain ⟨hil, hix⟩ := List.getElem?_eq_some_iff.mp ht
      rw [List.take_succ_eq_append_getElem hil, hix, List.map_append]
      exact paired_snoc (Paired.mapP p fun v t q => q.same s5) ⟨p5, _, rfl, SqL.of n5.here, rfl⟩
    intro ys G0 ⟨s0, p0⟩ hd hfree
    rw [lm, List.take_length] at p0
    obtain ⟨G, hnew⟩ : ∃ G, G = upd G0 hd (.lst ys) := ⟨_, rfl⟩
    have nG : New G0 hd (.lst ys) G := by rw [hnew]; exact New.mk0 hfree
    rw [← hnew]
    refine ⟨hd, ys, ss.map (condF r), rfl, SqL.of nG.here, Paired.mapP p0 fun v b q => ?_, _, rfl, ?_⟩
    · obtain ⟨pp, zs, rfl, hq, eb⟩ := q.same nG.same
      exact .inl ⟨zs, hq, eb⟩
    have e1 : ((ss.map (condF r)).all id) = meetF (rowAt rs i) ss := by
      rw [er, List.all_map]; rfl
    rw [e1]
    have sG := s3.trans (s0.trans nG.same)
    cases c : meetF (rowAt rs i) ss with
    | true =>
      refine iteT ⟨_, rfl, ?_⟩
      have := q G sG
      rw [first_at il no c] at this
      exact this
    | false =>
      refine iteF ⟨_, _, rfl, sG, fun j hj => ?_⟩
      by_cases hji : j = i
      · subst hji; exact c
      · exact no j (by omega)
  · rintro σ H2 ⟨kk, rr, rfl, sm, no⟩
    have := q H2 sm
    rw [first_no (by rw [← lx]; exact no)] at this
    exact this
set_option maxHeartbeats 4000000 in
theorem ok__law_meets (B : Bl mg) (d__law_meets : Dn K mg "_law_meets" s__law_meets ["_law_row", "_law_parts_here"]) : FnOk P w K mg base CX0 1 d__law_meets.f d__law_meets.fd ["_law_row", "_law_parts_here"] (spMeets K) := by
  refine d__law_meets.F.ok sc__law_meets (fun vs H Q E h => ?_) (fun cdv A outer s H vs Q E hr h => ?_)
  · obtain ⟨v, m, r, ss, rfl, _⟩ := h
    rfl
  obtain ⟨v, m, r, ss, rfl, ⟨pr, b, rfl, hT, hb, hbl⟩, hM, hz, q⟩ := h
  have hv : (A.deeper (PyProof.Rows.envOfC "_law_meets" (defScope s__law_meets) s.heap.objs.size d__law_meets.f cdv)).units + 65 < cLine := by have := hr.un; omega
  refine ⟨_, (pss_cons (ps_for PassesOwn.never rfl (pi_listK (K := K) rfl (pv 1)) (pg_name (i := 2) sc__law_meets.nd rfl (Or.inl rfl))
      (pss_one (ps_if (pt_cmpR op_eq (pe_callB (call_lenK (K := K) rfl) rfl B.len (by decide +kernel) (pa_cons (pe_lc ["_law_v", "_law_row"] [none, some 0]  (by kernel_rfl) rfl (pi_listK (K := K) rfl (pv 2)) (fun _ _ _ _ _ => (pg_name (i := 0) (show (["_law_v", "_law_row"] : List Str).Nodup by decide +kernel) rfl (Or.inl rfl))) (fun _ _ _ _ _ => (pts_one (pt_cmpR (op_inDK (K := K) rfl hv) (pv 0) (pe_ix (ix_tupK (K := K) rfl) (pv 1) pe_int (fun _ _ => rfl)) (by with_unfolding_all rfl)))) (fun _ _ _ _ _ => (pv 0))) pa_nil)) pe_int (nomark _))
      (pss_one (ps_ret pe_bl))
      pss_nil)))
      (pss_one (ps_ret pe_bl))), ?_⟩
  obtain ⟨ms, hm, hpm⟩ := id hM
  have lm : ms.length = ss.length := Paired.length hpm
  refine ⟨_, rfl, m, rfl, ⟨_, hm⟩, ?_⟩
  refine for_list (xs := ms) (fun i σ H' => Same H H' ∧ (∃ so : Option V, σ = [some (.ref pr), some (.ref m), so]) ∧ (ss.take i).all (condF r) = true) ⟨Same.refl _, ⟨none, rfl⟩, rfl⟩ (fun i σ H' _ ⟨s, _⟩ => s.seq hm) ?_ ?_
  · rintro i x σ H2 hi ⟨s2, ⟨so, rfl⟩, al⟩
    obtain ⟨t, ht, ⟨pt, rfl, hpt⟩⟩ := paired_get hpm hi
    obtain ⟨hil, hix⟩ := List.getElem?_eq_some_iff.mp ht
    have hzt := hz t (List.mem_of_getElem? ht)
    refine ⟨_, rfl, pt, rfl, ⟨_, s2.seq hpt⟩, ?_⟩
    refine lc_fmN (fun x => match x with | .int v => if decide (v ∈ r.2) then some (.int v) else none | _ => none) (s2.seq hpt) (by rw [List.length_map]; exact hzt) (fun x H3 N hx' s3 hN => ?_) (fun H3 pz H4 s3 n4 => ?_)
    · obtain ⟨v, hv', rfl⟩ := List.mem_map.mp hx'
      have hN' := hN H3 s3
      have s03 := s2.trans s3
      refine ⟨_, rfl, _, rfl, pr, _, _, _, rfl, rfl, s03.tupq hT, rfl, inInts (s03.seq hb) ⟨_, rfl, ?_⟩⟩
      dsimp only at hN'
      cases c : decide (v ∈ r.2) with
      | true => rw [c] at hN'; exact iteT ⟨_, rfl, hN'⟩
      | false => rw [c] at hN'; exact iteF hN'
    have e4 : (t.map V.int).filterMap (fun x => match x with | .int v => if decide (v ∈ r.2) then some (V.int v) else none | _ => none) = (t.filter fun v => decide (v ∈ r.2)).map V.int := fm_filter fun v _ => rfl
    rw [e4] at n4
    have s4 := s2.trans (s3.trans n4.same)
    refine ⟨pz, _, rfl, .inl (SqL.of n4.here), rfl, _, rfl, ?_⟩
    have e0 : decide (V.int ((((t.filter fun v => decide (v ∈ r.2)).map V.int).length : Nat) : Int) = V.int 0) = !condF r t := by
      rw [← cond_len, List.length_map, decide_eq_decide]
      constructor
      · intro z
        injection z with z
        omega
      · intro z
        rw [z]; rfl
    rw [e0]
    have al2 : (ss.take (i + 1)).all (condF r) = condF r t := by
      rw [List.take_succ_eq_append_getElem hil, hix, List.all_append, al]
      simp
    cases c : condF r t with
    | true => exact iteF ⟨s4, ⟨_, rfl⟩, by rw [al2, c]⟩
    | false =>
      refine iteT ?_
      have e2 : meetF r ss = false := by
        unfold meetF
        rw [List.all_eq_false]
        exact ⟨t, List.mem_of_getElem? ht, by rw [c]; exact Bool.false_ne_true⟩
      have := q H4 s4
      rw [e2] at this
      exact this
  · rintro σ H2 ⟨s2, ⟨so, rfl⟩, al⟩
    rw [lm, List.take_length] at al
    have := q H2 s2
    unfold meetF at this
    rw [al] at this
    exact this
end

end K

namespace K
open PySem L2 Lw Bg
/-- a set of rows with one top, whose other rows have their ups in the set -/
structure SubR (rs : List Row) (R : Nat → Prop) (t : Nat) : Prop where
  lt : t < rs.length
  top : R t
  up : ∀ j, j < rs.length → R j → t ≤ j ∧ (j ≠ t → ∃ u : Int, (rowAt rs j).1 = some u ∧ R u.toNat)
theorem SubR.congr {rs : List Row} {R R' : Nat → Prop} {t : Nat} (h : ∀ j, R j ↔ R' j) (A : SubR rs R t) : SubR rs R' t :=
  ⟨A.lt, (h t).mp A.top, fun j hj r => ⟨(A.up j hj ((h j).mpr r)).1, fun ne => by
    obtain ⟨u, e, r'⟩ := (A.up j hj ((h j).mpr r)).2 ne
    exact ⟨u, e, (h _).mp r'⟩⟩⟩
theorem sub_in {rs : List Row} {R R' : Nat → Prop} {t t' : Nat} (U : UpsOk rs) (A : SubR rs R t) (B : SubR rs R' t') (h : t ≤ t') : ∀ m c, c ≤ m → c < rs.length → R c → R' c → R t'
  | 0, c, hm, hc, r, r' => by
    have := (B.up c hc r').1
    have e : c = t' := by omega
    exact e ▸ r
  | m + 1, c, hm, hc, r, r' => by
    obtain ⟨b1, b2⟩ := B.up c hc r'
    by_cases e : c = t'
    · exact e ▸ r
    · obtain ⟨u, eu, ru⟩ := b2 e
      obtain ⟨u', eu', ru'⟩ := (A.up c hc r).2 (by omega)
      have uu : u' = u := by rw [eu] at eu'; exact (Option.some.inj eu').symm
      rw [uu] at ru'
      have ul := (U c hc u eu).2
      exact sub_in U A B h m u.toNat (by omega) (by omega) ru' ru
theorem sub_or' {rs : List Row} {R R' : Nat → Prop} {t t' c : Nat} (U : UpsOk rs) (A : SubR rs R t) (B : SubR rs R' t') (h : t ≤ t') (hc : c < rs.length) (r : R c) (r' : R' c) : SubR rs (fun j => R j ∨ R' j) t where
  lt := A.lt
  top := .inl A.top
  up := fun j hj q => by
    rcases q with q | q
    · refine ⟨(A.up j hj q).1, fun ne => ?_⟩
      obtain ⟨u, e, x⟩ := (A.up j hj q).2 ne
      exact ⟨u, e, .inl x⟩
    · refine ⟨Nat.le_trans h (B.up j hj q).1, fun ne => ?_⟩
      by_cases e : j = t'
      · have x := sub_in U A B h c c (Nat.le_refl _) hc r r'
        rw [← e] at x
        obtain ⟨u, e', y⟩ := (A.up j hj x).2 ne
        exact ⟨u, e', .inl y⟩
      · obtain ⟨u, e', y⟩ := (B.up j hj q).2 e
        exact ⟨u, e', .inr y⟩
theorem sub_or {rs : List Row} {R R' : Nat → Prop} {t t' c : Nat} (U : UpsOk rs) (A : SubR rs R t) (B : SubR rs R' t') (hc : c < rs.length) (r : R c) (r' : R' c) : ∃ s, SubR rs (fun j => R j ∨ R' j) s := by
  rcases Nat.le_total t t' with h | h
  · exact ⟨t, sub_or' U A B h hc r r'⟩
  · exact ⟨t', (sub_or' U B A h hc r' r).congr fun j => Or.comm⟩
theorem least_at {R : Nat → Prop} : ∀ m j, j ≤ m → R j → ∃ t, t ≤ j ∧ R t ∧ ∀ i, i < t → ¬ R i
  | 0, j, h, r => ⟨j, Nat.le_refl _, r, fun i hi => by omega⟩
  | m + 1, j, h, r => by
    by_cases c : ∃ i, i < j ∧ R i
    · obtain ⟨i, hi, ri⟩ := c
      obtain ⟨t, a, b, d⟩ := least_at m i (by omega) ri
      exact ⟨t, by omega, b, d⟩
    · exact ⟨j, Nat.le_refl _, r, fun i hi ri => c ⟨i, hi, ri⟩⟩
theorem sub_place {n : Nat} {rs : List Row} (T : TreeP n rs) {v : Int} (ex : ∃ r ∈ rs, v ∈ r.2) : ∃ t, SubR rs (fun j => v ∈ (rowAt rs j).2) t := by
  have U := ups_ok T.ok
  obtain ⟨r, hr, hv⟩ := ex
  obtain ⟨k, hk, e⟩ := mem_rowAt hr
  obtain ⟨t, tk, rt, tm⟩ := least_at (R := fun j => v ∈ (rowAt rs j).2) k k (Nat.le_refl _) (by show v ∈ (rowAt rs k).2; rw [e]; exact hv)
  have tl : t < rs.length := by omega
  have isT : ∀ j, j < rs.length → v ∈ (rowAt rs j).2 → (∀ u, (rowAt rs j).1 = some u → v ∉ (rowAt rs u.toNat).2) → isTop rs v j = true := fun j hj hv no => by
    unfold isTop has heldF
    rw [decide_eq_true hv]
    cases c : (rowAt rs j).1 with
    | none => rfl
    | some u =>
      dsimp only
      unfold has
      rw [decide_eq_false (no u c)]; rfl
  have tT := isT t tl rt fun u e h => tm u.toNat (U t tl u e).2 h
  refine ⟨t, tl, rt, fun j hj r => ⟨Nat.le_of_not_lt fun h => tm j h r, fun ne => ?_⟩⟩
  cases c : (rowAt rs j).1 with
  | none =>
    exact absurd (two_tops (T.tops v) hj tl (isT j hj r fun u e => by rw [c] at e; cases e) tT) ne
  | some u =>
    refine ⟨u, rfl, ?_⟩
    by_cases d : v ∈ (rowAt rs u.toNat).2
    · exact d
    · exact absurd (two_tops (T.tops v) hj tl (isT j hj r fun u' e => by rw [c] at e; rw [← Option.some.inj e]; exact d) tT) ne
def RowsOf (rs : List Row) (S : List Nat) (j : Nat) : Prop := ∃ v ∈ S, ((v : Nat) : Int) ∈ (rowAt rs j).2
inductive GPart (rs : List Row) : List Nat → Prop
  | one (v : Nat) : (∃ r ∈ rs, (v : Int) ∈ r.2) → GPart rs [v]
  | more (S : List Nat) (u w : Nat) : GPart rs S → u ∈ S → (∃ r ∈ rs, (u : Int) ∈ r.2 ∧ (w : Int) ∈ r.2) → GPart rs (S ++ [w])
theorem GPart.kept {rs rs' : List Row} (h : ∀ r, r ∈ rs → ∃ r' ∈ rs', r'.2 = r.2) {S : List Nat} (g : GPart rs S) : GPart rs' S := by
  induction g with
  | one v e =>
    obtain ⟨r, hr, hv⟩ := e
    obtain ⟨r', hr', e⟩ := h r hr
    exact .one v ⟨r', hr', by rw [e]; exact hv⟩
  | more S u w _ hu e ih =>
    obtain ⟨r, hr, h1, h2⟩ := e
    obtain ⟨r', hr', e⟩ := h r hr
    exact .more S u w ih hu ⟨r', hr', by rw [e]; exact h1, by rw [e]; exact h2⟩
theorem sub_part {n : Nat} {rs : List Row} (T : TreeP n rs) {S : List Nat} (g : GPart rs S) : ∃ t, SubR rs (RowsOf rs S) t := by
  induction g with
  | one v e =>
    obtain ⟨t, A⟩ := sub_place T e
    exact ⟨t, A.congr fun j => ⟨fun h => ⟨v, List.mem_singleton.mpr rfl, h⟩, fun ⟨w, hw, h⟩ => by rw [List.mem_singleton.mp hw] at h; exact h⟩⟩
  | more S u w _ hu e ih =>
    obtain ⟨t, A⟩ := ih
    obtain ⟨r, hr, h1, h2⟩ := e
    obtain ⟨t', B⟩ := sub_place T (v := (w : Int)) ⟨r, hr, h2⟩
    obtain ⟨k, hk, e⟩ := mem_rowAt hr
    obtain ⟨s, C⟩ := sub_or (ups_ok T.ok) A B hk ⟨u, hu, by rw [e]; exact h1⟩ (by show _ ∈ (rowAt rs k).2; rw [e]; exact h2)
    refine ⟨s, C.congr fun j => ?_⟩
    unfold RowsOf
    constructor
    · rintro (⟨v, hv, h⟩ | h)
      · exact ⟨v, List.mem_append_left _ hv, h⟩
      · exact ⟨w, List.mem_append_right _ (List.mem_singleton.mpr rfl), h⟩
    · rintro ⟨v, hv, h⟩
      rcases List.mem_append.mp hv with hv | hv
      · exact .inl ⟨v, hv, h⟩
      · rw [List.mem_singleton.mp hv] at h
        exact .inr h
theorem top_most {rs : List Row} : ∀ {ps : List (List Nat)}, ps ≠ [] → (∀ S ∈ ps, ∃ t, SubR rs (RowsOf rs S) t) → ∃ S0 ∈ ps, ∃ t0, SubR rs (RowsOf rs S0) t0 ∧ ∀ S ∈ ps, ∃ t, t ≤ t0 ∧ SubR rs (RowsOf rs S) t
  | [], h, _ => absurd rfl h
  | [S], _, f => by
    obtain ⟨t, A⟩ := f S List.mem_cons_self
    exact ⟨S, List.mem_cons_self, t, A, fun S' h => by rw [List.mem_singleton.mp h]; exact ⟨t, Nat.le_refl _, A⟩⟩
  | S :: S' :: r, _, f => by
    obtain ⟨t, A⟩ := f S List.mem_cons_self
    obtain ⟨S0, h0, t0, B, all⟩ := top_most (ps := S' :: r) (by simp) fun S h => f S (List.mem_cons_of_mem _ h)
    by_cases c : t ≤ t0
    · refine ⟨S0, List.mem_cons_of_mem _ h0, t0, B, fun S2 h => ?_⟩
      rcases List.mem_cons.mp h with h | h
      · rw [h]; exact ⟨t, c, A⟩
      · exact all S2 h
    · refine ⟨S, List.mem_cons_self, t, A, fun S2 h => ?_⟩
      rcases List.mem_cons.mp h with h | h
      · rw [h]; exact ⟨t, Nat.le_refl _, A⟩
      · obtain ⟨t2, l2, C⟩ := all S2 h
        exact ⟨t2, by omega, C⟩
/-- sets that hang together and meet two by two in some bag, all meet one bag -/
theorem helly {n : Nat} {rs : List Row} (T : TreeP n rs) {ps : List (List Nat)} (each : ∀ S ∈ ps, ∃ S', S.Perm S' ∧ GPart rs S') (touch : ∀ S ∈ ps, ∀ S' ∈ ps, ∃ r ∈ rs, (∃ v ∈ S, ((v : Nat) : Int) ∈ r.2) ∧ ∃ v ∈ S', ((v : Nat) : Int) ∈ r.2) :
    ∃ j, j < rs.length ∧ ∀ S ∈ ps, RowsOf rs S j := by
  by_cases e : ps = []
  · subst e
    exact ⟨0, T.pos, fun S h => absurd h List.not_mem_nil⟩
  · obtain ⟨S0, h0, t0, A, all⟩ := top_most (rs := rs) e fun S h => by
      obtain ⟨S', p, g⟩ := each S h
      obtain ⟨t, A⟩ := sub_part T g
      exact ⟨t, A.congr fun j => ⟨fun ⟨v, hv, x⟩ => ⟨v, p.mem_iff.mpr hv, x⟩, fun ⟨v, hv, x⟩ => ⟨v, p.mem_iff.mp hv, x⟩⟩⟩
    refine ⟨t0, A.lt, fun S h => ?_⟩
    obtain ⟨t, l, B⟩ := all S h
    obtain ⟨r, hr, h1, h2⟩ := touch S h S0 h0
    obtain ⟨k, hk, e⟩ := mem_rowAt hr
    exact sub_in (ups_ok T.ok) B A l k k (Nat.le_refl _) hk (by unfold RowsOf; rw [e]; exact h1) (by unfold RowsOf; rw [e]; exact h2)

end K


namespace K
open PySem L2 Lw Bg
abbrev s__law_mixed : Stmt := top 13
theorem sc__law_mixed : FnScope ["_law_script", "_law_k"] ["_law_script", "_law_k"] (defScope s__law_mixed) := ⟨rfl, rfl, rfl, by decide +kernel, rfl, by decide +kernel, by decide +kernel⟩
abbrev s__law_near : Stmt := top 17
theorem sc__law_near : FnScope ["_law_script", "_law_rows", "_law_n", "_law_near_here", "_law_full", "_law_a", "_law_b", "_law_low", "_law_both", "_law_tied"] ["_law_script", "_law_rows", "_law_n"] (defScope s__law_near) := ⟨rfl, rfl, rfl, by decide +kernel, rfl, by decide +kernel, by decide +kernel⟩
abbrev s__law_rim : Stmt := top 18
theorem sc__law_rim : FnScope ["_law_near_here", "_law_part", "_law_found", "_law_v"] ["_law_near_here", "_law_part"] (defScope s__law_rim) := ⟨rfl, rfl, rfl, by decide +kernel, rfl, by decide +kernel, by decide +kernel⟩
abbrev s__law_parts : Stmt := top 19
theorem sc__law_parts : FnScope ["_law_script", "_law_near_here", "_law_parts_here", "_law_k", "_law_part", "_law_j", "_law_edge", "_law_reach"] ["_law_script", "_law_near_here"] (defScope s__law_parts) := ⟨rfl, rfl, rfl, by decide +kernel, rfl, by decide +kernel, by decide +kernel⟩
def spMixA (K : PySem.W.Frag) : Sp := fun vs H Q _ => ∃ (a : Addr) (ns : List Int) (k : Int), vs = [.ref a, .int k] ∧ Scr K H a ns ∧ ns.length ≤ 63 ∧ 0 ≤ k ∧ k ≤ 1000 ∧ ∀ z : Nat, Q (.int (z : Int)) H
def NbOk (rs : List Row) (n : Nat) (f : Nat → List Nat) : Prop := ∀ a b, b ∈ f a → b < n ∧ ∃ r ∈ rs, (a : Int) ∈ r.2 ∧ (b : Int) ∈ r.2
def spNear17 (K : PySem.W.Frag) : Sp := fun vs H Q _ => ∃ (a l : Addr) (ns : List Int) (rs : List Row) (n : Nat), vs = [.ref a, .ref l, .int n] ∧ Scr K H a ns ∧ ns.length ≤ 63 ∧ RowsAt K H l rs ∧ n ≤ 10 ∧
  ∀ p qs f H', Same H H' → H p = none → H' p = some (.lst (qs.map V.ref)) → qs.length = n → NearL H' qs f → NbOk rs n f → (∀ j, (f j).length ≤ 10) → Q (.ref p) H'
section
variable {P : Program} {w : World} {K : PySem.W.Frag} {mg : Str → Option Value} {base : Heap}
set_option maxHeartbeats 4000000 in
theorem ok__law_mixed (B : Bl mg) (d__law_cell : Dn K mg "_law_cell" s__law_cell ["_law_script", "_law_k"]) (d__law_mixed : Dn K mg "_law_mixed" s__law_mixed ["_law_script", "_law_k"]) : FnOk P w K mg base CX0 2 d__law_mixed.f d__law_mixed.fd ["_law_script", "_law_k"] (spMixA K) := by
  have G__law_cell : FnOk P w K mg base CX0 1 _ _ _ _ := ok__law_cell B d__law_cell
  refine d__law_mixed.F.ok sc__law_mixed (fun vs H Q E h => ?_) (fun cdv A outer s H vs Q E hr h => ?_)
  · obtain ⟨a, ns, k, rfl, _⟩ := h
    rfl
  obtain ⟨a, ns, k, rfl, hS, h63, k0, k1, q⟩ := h
  refine ⟨_, (pss_one (ps_ret (pe_op op_mod (pe_op op_mul (pe_op op_mod (pe_call G__law_cell hr rfl d__law_cell.m d__law_cell.F.kp d__law_cell.b .nil pass0 (pa_cons (pv 0) (pa_cons (pv 1) pa_nil))) pe_int) pe_int) pe_int))), ?_⟩
  refine ⟨_, rfl, _, rfl, a, ns, k, rfl, hS, h63, k0, k1, fun z => ?_⟩
  refine ⟨_, _, rfl, rfl, (show (0 : Int) < _ by decide), _, _, rfl, rfl, .inr ⟨by decide, by decide⟩, _, _, rfl, rfl, (show (0 : Int) < _ by decide), ?_⟩
  dsimp only
  have y0 := Int.emod_nonneg (z % 2147483629 * 69621) (show (2147483647 : Int) ≠ 0 by decide)
  obtain ⟨m, em⟩ : ∃ m : Nat, z % 2147483629 * 69621 % 2147483647 = (m : Int) := ⟨(z % 2147483629 * 69621 % 2147483647).toNat, by omega⟩
  rw [em]
  exact q m
set_option maxHeartbeats 8000000 in
theorem ok__law_near (B : Bl mg) (d__law_cell : Dn K mg "_law_cell" s__law_cell ["_law_script", "_law_k"]) (d__law_near : Dn K mg "_law_near" s__law_near ["_law_script", "_law_rows", "_law_n"]) : FnOk P w K mg base CX0 2 d__law_near.f d__law_near.fd ["_law_script", "_law_rows", "_law_n"] (spNear17 K) := by
  have G__law_cell : FnOk P w K mg base CX0 1 _ _ _ _ := ok__law_cell B d__law_cell
  refine d__law_near.F.ok sc__law_near (fun vs H Q E h => ?_) (fun cdv A outer s H vs Q E hr h => ?_)
  · obtain ⟨a, l, ns, rs, n, rfl, _⟩ := h
    rfl
  obtain ⟨a, l, ns, rs, n, rfl, hS, h63, hR, n10, q⟩ := h
  have hv : (A.deeper (PyProof.Rows.envOfC "_law_near" (defScope s__law_near) s.heap.objs.size d__law_near.f cdv)).units + 65 < cLine := by have := hr.un; omega
  obtain ⟨ys, hy, hpr, hz⟩ := id hR
  have ly : ys.length = rs.length := Paired.length hpr
  refine ⟨_, (pss_cons (ps_set (i := 3) sc__law_near.nd rfl (Or.inl rfl) (pe_lstN pa_nil))
      (pss_cons (ps_set (i := 4) sc__law_near.nd rfl (Or.inl rfl) (pe_cmpR op_eq (pe_op op_mod (pe_op op_fdiv (pe_call G__law_cell hr rfl d__law_cell.m d__law_cell.F.kp d__law_cell.b .nil pass0 (pa_cons (pv 0) (pa_cons pe_int pa_nil))) pe_int) pe_int) pe_int (nomark _)))
      (pss_cons (ps_for PassesOwn.never rfl (pi_range1 rfl B.range (pa_cons (pv 2) pa_nil)) (pg_name (i := 5) sc__law_near.nd rfl (Or.inr rfl))
      (pss_cons (ps_expr (pe_bmK (K := K) rfl PySem.F.plainAttrs_list PySem.F.slot_list_append PySem.F.type_list_append mt_appendN (pv 3) (pa_cons (pe_lstN pa_nil) pa_nil)))
      (pss_one (ps_for PassesOwn.never rfl (pi_range1 rfl B.range (pa_cons (pv 2) pa_nil)) (pg_name (i := 6) sc__law_near.nd rfl (Or.inr rfl))
      (pss_cons (ps_set (i := 7) sc__law_near.nd rfl (Or.inl rfl) (pe_callB (call_min2 rfl) rfl B.min (by decide +kernel) (pa_cons (pv 5) (pa_cons (pv 6) pa_nil))))
      (pss_cons (ps_setLC (i := 8) ["_law_row", "_law_a", "_law_b"] [none, some 5, some 6] sc__law_near.nd rfl rfl (by kernel_rfl) rfl (pi_listK (K := K) rfl (pv 1)) (fun _ _ _ _ _ => (pg_name (i := 0) (show (["_law_row", "_law_a", "_law_b"] : List Str).Nodup by decide +kernel) rfl (Or.inl rfl))) (fun _ _ _ _ _ => (pts_one (PW.pt (pw_and (pt_cmpR (op_inDK (K := K) rfl hv) (pv 1) (pe_ix (ix_tupK (K := K) rfl) (pv 0) pe_int (fun _ _ => rfl)) (by with_unfolding_all rfl)) (pw_and1 (pt_cmpR (op_inDK (K := K) rfl hv) (pv 2) (pe_ix (ix_tupK (K := K) rfl) (pv 0) pe_int (fun _ _ => rfl)) (by with_unfolding_all rfl))))))) (fun _ _ _ _ _ => (pv 0)) (by rfl))
      (pss_cons (ps_set (i := 9) sc__law_near.nd rfl (Or.inl rfl) (pe_or (pv 4) (pe_one (pe_cmpR op_gt (pe_op op_mod (pe_op op_fdiv (pe_call G__law_cell hr rfl d__law_cell.m d__law_cell.F.kp d__law_cell.b .nil pass0 (pa_cons (pv 0) (pa_cons (pe_op op_add pe_int (pe_op op_mod (pe_op op_add (pe_op op_add (pv 7) (pv 5)) (pv 6)) pe_int)) pa_nil))) (pe_op op_add pe_int (pe_op op_mul (pv 5) (pv 6)))) pe_int) pe_int (nomark _)))))
      (pss_one (ps_if (PW.pt (pw_and (pt_cmpR op_ne (pv 5) (pv 6) (nomark _)) (pw_and (pt_cmpR op_gt (pe_callB (call_lenK (K := K) rfl) rfl B.len (by decide +kernel) (pa_cons (pv 8) pa_nil)) pe_int (nomark _)) (pw_and1 (pt_truthK (K := K) rfl (pv 9) (fun _ => rfl))))))
      (pss_one (ps_expr (pe_bmK (K := K) rfl PySem.F.plainAttrs_list PySem.F.slot_list_append PySem.F.type_list_append mt_appendN (pe_ix (ix_listK (K := K) rfl) (pv 3) (pv 5) (fun _ _ => rfl)) (pa_cons (pv 6) pa_nil))))
      pss_nil)))))))))
      (pss_one (ps_ret (pv 3)))))), ?_⟩
  refine ⟨(by show 0 ≤ 1000; decide), fun pn H1 n1 => ?_⟩
  refine ⟨_, rfl, a, ns, 1, rfl, hS.same n1.same, h63, by decide, by decide, fun z1 => ?_⟩
  refine ⟨_, _, rfl, rfl, ⟨by decide, by decide⟩, _, _, rfl, rfl, (show (0 : Int) < _ by decide), rfl, ?_⟩
  obtain ⟨full, efull⟩ : ∃ full : Bool, decide (V.int (z1 / 7 % 3) = V.int 0) = full := ⟨_, rfl⟩
  rw [efull]
  refine ⟨_, rfl, _, rfl, by omega, by omega, ?_⟩
  rw [Int.toNat_natCast]
  refine for_range (n := n) (fun i σ H' => ∃ (qs : List Addr) (f : Nat → List Nat) (aa bb lo bo ti : Option V), σ = [some (.ref a), some (.ref l), some (.int n), some (.ref pn), some (.bl full), aa, bb, lo, bo, ti] ∧ Same H H' ∧ H' pn = some (.lst (qs.map V.ref)) ∧ qs.length = i ∧ (∀ q ∈ qs, H q = none ∧ q ≠ pn) ∧ NearL H' qs f ∧ NbOk rs n f ∧ (∀ j, (f j).length ≤ 10) ∧ ∀ j, i ≤ j → f j = []) ⟨[], fun _ => [], none, none, none, none, none, rfl, n1.same, n1.here, rfl, fun q h => absurd h List.not_mem_nil, ⟨.nil, fun j q e => by simp at e⟩, fun a b h => absurd h List.not_mem_nil, fun j => Nat.zero_le _, fun j _ => rfl⟩ ?_ ?_
  · rintro i σ H2 hi ⟨qs, f, aa, bb, lo, bo, ti, rfl, s2, h2, lq, fq, nl, nb, fl, f0⟩
    have ei : (0 : Int) + (i : Int) = (i : Int) := by omega
    rw [ei]
    refine ⟨_, rfl, .inl ⟨rfl, _, SqL.of h2⟩, (by show 0 ≤ 1000; decide), fun p3 H3 n3 => ?_⟩
    have h3 := n3.same _ _ h2
    refine ⟨pn, _, _, rfl, rfl, h3, by rw [List.length_map]; omega, fun H4 c4 => ?_⟩
    have p3n : p3 ≠ pn := fun e => by have := n3.fresh; rw [e, h2] at this; cases this
    have s4 : Same H H4 := (s2.trans n3.same).chg n1.fresh c4
    have h4 : H4 pn = some (.lst ((qs ++ [p3]).map V.ref)) := by rw [c4.here, List.map_append]; rfl
    have fq4 : ∀ q ∈ qs ++ [p3], H q = none ∧ q ≠ pn := fun q hq => by
      rcases List.mem_append.mp hq with hq | hq
      · exact fq q hq
      · rw [List.mem_singleton.mp hq]; exact ⟨s2.free n3.fresh, p3n⟩
    have nl4 : NearL H4 (qs ++ [p3]) f := by
      refine ⟨List.nodup_append.mpr ⟨nl.nd, List.nodup_cons.mpr ⟨List.not_mem_nil, .nil⟩, fun x hx y hy z => ?_⟩, fun j q ej => ?_⟩
      · rw [List.mem_singleton.mp hy] at z
        obtain ⟨j, hj, ej⟩ := List.getElem_of_mem hx
        have := nl.at_ j x (by rw [← ej]; exact List.getElem?_eq_getElem hj)
        rw [z, n3.fresh] at this; cases this
      · have qn : q ≠ pn := (fq4 q (List.mem_of_getElem? ej)).2
        by_cases c : j < qs.length
        · rw [List.getElem?_append_left c] at ej
          exact (c4.rest q qn).trans (n3.same _ _ (nl.at_ j q ej))
        · rw [List.getElem?_append_right (by omega)] at ej
          cases z : j - qs.length with
          | zero =>
            rw [z] at ej; simp at ej
            rw [f0 j (by omega), ← ej]
            exact (c4.rest p3 p3n).trans n3.here
          | succ k => rw [z] at ej; simp at ej
    have lq4 : (qs ++ [p3]).length = i + 1 := by rw [List.length_append, lq]; rfl
    have qi4 : (qs ++ [p3])[i]? = some p3 := by rw [List.getElem?_append_right (by omega), lq, Nat.sub_self]; rfl
    generalize qs ++ [p3] = qs4 at *
    refine ⟨_, rfl, _, rfl, by omega, by omega, ?_⟩
    rw [Int.toNat_natCast]
    refine for_range (n := n) (fun k σ H' => ∃ (f : Nat → List Nat) (bb lo bo ti : Option V), σ = [some (.ref a), some (.ref l), some (.int n), some (.ref pn), some (.bl full), some (.int (i : Int)), bb, lo, bo, ti] ∧ Same H H' ∧ H' pn = some (.lst (qs4.map V.ref)) ∧ NearL H' qs4 f ∧ NbOk rs n f ∧ (∀ j, (f j).length ≤ 10) ∧ (f i).length ≤ k ∧ ∀ j, i < j → f j = []) ⟨f, bb, lo, bo, ti, rfl, s4, h4, nl4, nb, fl, by rw [f0 i (Nat.le_refl _)]; exact Nat.zero_le _, fun j h => f0 j (by omega)⟩ ?_ ?_
    · clear nl4 nb fl f0 nl s4 h4 c4 h3 s2 h2 H4
      rintro k σ H5 hk ⟨f, bb, lo, bo, ti, rfl, s5, h5, nl5, nb, fl, fi, f0⟩
      have ek : (0 : Int) + (k : Int) = (k : Int) := by omega
      rw [ek]
      refine ⟨_, rfl, _, rfl, _, _, rfl, ?_⟩
      obtain ⟨low, elow, lowb⟩ : ∃ low : Nat, (if (k : Int) < (i : Int) then (k : Int) else (i : Int)) = (low : Int) ∧ low ≤ 10 := by
        split
        · exact ⟨k, rfl, by omega⟩
        · exact ⟨i, rfl, by omega⟩
      rw [elow]
      refine ⟨_, rfl, l, rfl, ⟨_, s5.seq hy⟩, ?_⟩
      refine lc_list (K := K) (a := l) (xs := ys) (fun m zs G => Same H5 G ∧ zs.length ≤ m ∧ (zs ≠ [] → ∃ r ∈ rs, (i : Int) ∈ r.2 ∧ (k : Int) ∈ r.2)) ⟨Same.refl _, Nat.le_refl _, fun h => absurd rfl h⟩ (fun m zs G hm ⟨s, z1, _⟩ => ⟨(s5.trans s).seq hy, ?_⟩) (fun m x zs G hm ⟨s, z1, z2⟩ => ?_) ?_
      · exact Nat.le_of_lt (small1000 (by omega))
      · obtain ⟨r, hr1, ⟨pp, b, rfl, hT, hb, hbz⟩⟩ := paired_get hpr hm
        have sG := s5.trans s
        refine ⟨_, rfl, _, rfl, pp, _, _, _, rfl, rfl, sG.tupq hT, rfl, inInts (sG.seq hb) ⟨_, rfl, ?_⟩⟩
        cases c1 : decide ((i : Int) ∈ r.2) with
        | false => exact iteF (iteF ⟨s, by omega, z2⟩)
        | true =>
          refine iteT ⟨_, rfl, _, rfl, pp, _, _, _, rfl, rfl, sG.tupq hT, rfl, inInts (sG.seq hb) ⟨_, rfl, ?_⟩⟩
          cases c2 : decide ((k : Int) ∈ r.2) with
          | false => exact iteF ⟨s, by omega, z2⟩
          | true =>
            refine iteT ⟨_, rfl, s, by rw [List.length_append]; show zs.length + 1 ≤ _; omega, fun _ => ⟨r, List.mem_of_getElem? hr1, of_decide_eq_true c1, of_decide_eq_true c2⟩⟩
      rintro zs G0 ⟨s0, z1, z2⟩ pz hfree
      obtain ⟨G, hnew⟩ : ∃ G, G = upd G0 pz (.lst zs) := ⟨_, rfl⟩
      have nG : New G0 pz (.lst zs) G := by rw [hnew]; exact New.mk0 hfree
      rw [← hnew]
      have sG : Same H5 G := s0.trans nG.same
      have s6 := s5.trans sG
      have h6 := sG _ _ h5
      have nl6 := nl5.same sG
      have ik : (0 : Int) < 1 + (i : Int) * (k : Int) ∧ 1 + (i : Int) * (k : Int) < 1073741824 := by
        have h := Nat.mul_le_mul (show i ≤ 10 by omega) (show k ≤ 10 by omega)
        rw [← Int.natCast_mul]
        omega
      refine ⟨_, rfl, _, rfl, ite2 (fun c => ?t1) (fun c => ?t2)⟩
      case' t2 =>
        refine ⟨_, rfl, _, rfl, _, rfl, _, _, rfl, rfl, _, rfl, _, _, rfl, rfl, _, _, rfl, rfl, (show (0 : Int) < _ by decide), _, _, rfl, rfl, a, ns, _, rfl, hS.same s6, h63, (by omega), (by omega), fun z3 => ?_⟩
        refine ⟨_, rfl, _, rfl, _, _, rfl, rfl, .inl ⟨by omega, by omega⟩, _, _, rfl, rfl, _, _, rfl, rfl, ⟨ik.1, ik.2⟩, _, _, rfl, rfl, (show (0 : Int) < _ by decide), _, _, rfl, rfl, ?_⟩
      all_goals
        refine ⟨_, rfl, _, rfl, rfl, _, rfl, ?_⟩
        refine ite2 (fun c1 => ?_) (fun c1 => iteF ⟨f, _, _, _, _, rfl, s6, h6, nl6, nb, fl, by omega, f0⟩)
        refine ⟨_, rfl, pz, _, rfl, .inl (SqL.of nG.here), _, _, rfl, rfl, _, rfl, ?_⟩
        refine ite2 (fun c2 => ?_) (fun c2 => iteF ⟨f, _, _, _, _, rfl, s6, h6, nl6, nb, fl, by omega, f0⟩)
        refine ⟨_, rfl, _, rfl, ite2 (fun c3 => ?_) (fun c3 => ⟨f, _, _, _, _, rfl, s6, h6, nl6, nb, fl, by omega, f0⟩)⟩
        have c2' : (0 : Int) < ((zs.length : Nat) : Int) := of_decide_eq_true c2
        obtain ⟨r, hr1, ra, rb⟩ := z2 (fun e => by rw [e] at c2'; exact absurd c2' (by decide))
        have hp3 := nl6.at_ i p3 qi4
        have at3 : atI (qs4.map V.ref) (i : Int) = some (V.ref p3) := atI_nat (by rw [List.getElem?_map, qi4]; rfl)
        refine ⟨_, rfl, _, rfl, pn, _, _, _, rfl, rfl, SqL.of h6, at3, .inl ⟨rfl, _, SqL.of hp3⟩, _, rfl, p3, _, _, rfl, rfl, hp3, (by rw [List.length_map]; have := fl i; omega), fun H7 c7 => ?_⟩
        have m3 := List.mem_of_getElem? qi4
        refine ⟨_, _, _, _, _, rfl, s6.chg (fq4 p3 m3).1 c7, (c7.rest pn (fq4 p3 m3).2.symm).trans h6, nl6.chg qi4 c7, fun x y hy' => ?_, fun j => ?_, ?_, fun j hj => ?_⟩
        · dsimp only at hy'
          split at hy'
          · rename_i e
            rcases List.mem_append.mp hy' with h | h
            · exact e ▸ nb i y h
            · rw [List.mem_singleton.mp h, e]
              exact ⟨hk, r, hr1, ra, rb⟩
          · exact nb x y hy'
        · split
          · rw [List.length_append]; show (f i).length + 1 ≤ 10; omega
          · exact fl j
        · rw [if_pos rfl, List.length_append]; show (f i).length + 1 ≤ _; omega
        · rw [if_neg (by omega)]; exact f0 j hj
    · rintro σ H5 ⟨f, bb, lo, bo, ti, rfl, s5, h5, nl5, nb, fl, fi, f0⟩
      exact ⟨qs4, f, _, bb, lo, bo, ti, rfl, s5, h5, lq4, fq4, nl5, nb, fl, fun j hj => f0 j (by omega)⟩
  · rintro σ H2 ⟨qs, f, aa, bb, lo, bo, ti, rfl, s2, h2, lq, fq, nl, nb, fl, f0⟩
    exact ⟨_, rfl, q pn qs f H2 s2 n1.fresh h2 lq nl nb fl⟩
end

end K


namespace K
open PySem L2 Lw Bg
def spRim17 (K : PySem.W.Frag) : Sp := fun vs H Q _ => ∃ (p b : Addr) (qs : List Addr) (f : Nat → List Nat) (n : Nat) (S : List Nat), vs = [.ref p, .ref b] ∧ SqL K H p (qs.map V.ref) ∧ qs.length = n ∧ NearL H qs f ∧ n ≤ 10 ∧ (∀ a x, x ∈ f a → x < n) ∧ (∀ j, (f j).length ≤ 10) ∧ SqL K H b (natV S) ∧ (∀ v ∈ S, v < n) ∧ S.length ≤ 40 ∧
  ∀ r L H', Same H H' → H r = none → H' r = some (.lst (natV L)) → (∀ x ∈ L, x < n ∧ ∃ v ∈ S, x ∈ f v) → L.length ≤ 16 → Q (.ref r) H'
section
variable {P : Program} {w : World} {K : PySem.W.Frag} {mg : Str → Option Value} {base : Heap}
set_option maxHeartbeats 8000000 in
theorem ok__law_rim (B : Bl mg) (d__law_rim : Dn K mg "_law_rim" s__law_rim ["_law_near_here", "_law_part"]) : FnOk P w K mg base CX0 2 d__law_rim.f d__law_rim.fd ["_law_near_here", "_law_part"] (spRim17 K) := by
  refine d__law_rim.F.ok sc__law_rim (fun vs H Q E h => ?_) (fun cdv A outer s H vs Q E hr h => ?_)
  · obtain ⟨p, b, qs, f, n, S, rfl, _⟩ := h
    rfl
  obtain ⟨p, b, qs, f, n, S, rfl, hp, lq, nl, n10, fn, fl, hb, sn, s40, q⟩ := h
  have hv : (A.deeper (PyProof.Rows.envOfC "_law_rim" (defScope s__law_rim) s.heap.objs.size d__law_rim.f cdv)).units + 65 < cLine := by have := hr.un; omega
  refine ⟨_, (pss_cons (ps_set (i := 2) sc__law_rim.nd rfl (Or.inl rfl) (pe_lstN pa_nil))
      (pss_cons (ps_for PassesOwn.never rfl (pi_listK (K := K) rfl (pv 1)) (pg_name (i := 3) sc__law_rim.nd rfl (Or.inl rfl))
      (pss_one (ps_set (i := 2) sc__law_rim.nd rfl (Or.inl rfl) (pe_op op_catN (pv 2) (pe_lc ["_law_u", "_law_part"] [none, some 1]  (by kernel_rfl) rfl (pi_listK (K := K) rfl (pe_ix (ix_listK (K := K) rfl) (pv 0) (pv 3) (fun _ _ => rfl))) (fun _ _ _ _ _ => (pg_name (i := 0) (show (["_law_u", "_law_part"] : List Str).Nodup by decide +kernel) rfl (Or.inl rfl))) (fun _ _ _ _ _ => (pts_one (pt_cmpR (op_notInDK (K := K) rfl hv) (pv 0) (pv 1) (by with_unfolding_all rfl)))) (fun _ _ _ _ _ => (pv 0)))))))
      (pss_one (ps_ret (pe_callB (call_sortedS (w := w) rfl rfl) rfl B.sorted (by decide +kernel) (pa_cons (pe_callTy (call_setS (K := K) (w := w) rfl rfl rfl) rfl B.set (by decide +kernel) (pa_cons (pv 2) pa_nil)) pa_nil)))))), ?_⟩
  refine ⟨(by show 0 ≤ 1000; decide), fun p1 H1 n1 => ?_⟩
  refine ⟨_, rfl, b, rfl, ⟨_, n1.same.seq hb⟩, ?_⟩
  refine for_list (xs := natV S) (fun i σ H' => ∃ (pf : Addr) (F : List Nat) (vv : Option V), σ = [some (.ref p), some (.ref b), some (.ref pf), vv] ∧ Same H H' ∧ H' pf = some (.lst (natV F)) ∧ F.length ≤ 10 * i ∧ ∀ x ∈ F, x < n ∧ ∃ v ∈ S, x ∈ f v) ⟨p1, [], none, rfl, n1.same, n1.here, Nat.zero_le _, fun x hx => absurd hx List.not_mem_nil⟩ (fun i σ H' _ ⟨_, _, _, _, s, _⟩ => s.seq hb) ?_ ?_
  · rintro i x σ H2 hx ⟨pf, F, vv, rfl, s2, h2, lF, okF⟩
    rw [List.getElem?_map] at hx
    obtain ⟨v, hv', rfl⟩ := Option.map_eq_some_iff.mp hx
    have vS := List.mem_of_getElem? hv'
    have vn := sn v vS
    have il : i < S.length := (List.getElem?_eq_some_iff.mp hv').1
    have hqv : qs[v]? = some (qs[v]'(by omega)) := List.getElem?_eq_getElem (by omega)
    have g2 := s2 _ _ (nl.at_ v _ hqv)
    have flv := fl v
    have atv : atI (qs.map V.ref) (v : Int) = some (V.ref (qs[v]'(by omega))) := atI_nat (by rw [List.getElem?_map, hqv]; rfl)
    refine ⟨_, rfl, _, rfl, _, rfl, p, _, _, _, rfl, rfl, s2.seq hp, atv, _, rfl, ⟨_, SqL.of g2⟩, ?_⟩
    refine lc_fmN (fun v => match v with | .int x => if decide (x.toNat ∈ S) = true then none else some (.int x) | _ => none) (SqL.of g2) (by rw [List.length_map]; omega) (fun v H3 N hv3 s3 hN => ?_) (fun H3 pg H4 s3 n4 => ?_)
    · obtain ⟨x, hx3, rfl⟩ := List.mem_map.mp hv3
      have hN' := hN H3 s3
      refine ⟨_, rfl, _, rfl, notInNats ((s2.trans s3).seq hb) ⟨_, rfl, ?_⟩⟩
      dsimp only at hN'
      rw [Int.toNat_natCast] at hN'
      by_cases d : x ∈ S
      · rw [if_pos (decide_eq_true d)] at hN'
        rw [decide_eq_true d]
        exact iteF hN'
      · rw [if_neg (by rw [decide_eq_false d]; exact Bool.false_ne_true)] at hN'
        rw [decide_eq_false d]
        exact iteT ⟨_, rfl, hN'⟩
    have e4 : (natV (f v)).filterMap (fun v => match v with | .int x => if decide (x.toNat ∈ S) = true then none else some (V.int x) | _ => none) = natV ((f v).filter fun x => !decide (x ∈ S)) := fm_nats fun x _ => by
      dsimp only
      rw [Int.toNat_natCast]
      by_cases d : x ∈ S
      · rw [decide_eq_true d]; rfl
      · rw [decide_eq_false d]; rfl
    rw [e4] at n4
    have lf := List.length_filter_le (fun x => !decide (x ∈ S)) (f v)
    refine ⟨pf, pg, _, _, rfl, rfl, n4.same _ _ (s3 _ _ h2), n4.here, by rw [List.length_map, List.length_map]; omega, fun p5 H5 n5 => ?_⟩
    refine ⟨p5, F ++ (f v).filter fun x => !decide (x ∈ S), _, rfl, s2.trans (s3.trans (n4.same.trans n5.same)), ?_, by rw [List.length_append]; omega, fun x hx => ?_⟩
    · rw [n5.here]
      unfold natV
      rw [List.map_append]
    · rcases List.mem_append.mp hx with h | h
      · exact okF x h
      · have hx' := (List.mem_filter.mp h).1
        exact ⟨fn v x hx', v, vS, hx'⟩
  · rintro σ H2 ⟨pf, F, vv, rfl, s2, h2, lF, okF⟩
    have h2' := h2
    rw [natV_ints] at h2'
    refine ⟨_, rfl, pf, _, rfl, SqL.of h2', fun u hu => ?_, fun p4 L H4 n4 mem => ?_⟩
    · obtain ⟨x, hx, rfl⟩ := List.mem_map.mp hu
      have := (okF x hx).1
      omega
    refine ⟨p4, _, L, rfl, n4.here, fun p5 H5 n5 => ?_⟩
    have e5 : (upF fun v => decide (v.toNat ∈ L)).map V.int = natV ((List.range 16).filter fun i => decide (i ∈ L)) := by
      unfold upF natV
      rw [List.filter_map, List.map_map]
      rfl
    rw [e5] at n5
    refine q p5 _ H5 (s2.trans (n4.same.trans n5.same)) (s2.free (n4.same.free n5.fresh)) n5.here (fun x hx => ?_) (Nat.le_trans (List.length_filter_le _ _) (by rw [List.length_range]; exact Nat.le_refl _))
    have hx' := of_decide_eq_true (List.mem_filter.mp hx).2
    obtain ⟨y, hy, e⟩ := List.mem_map.mp ((mem x).mp hx')
    have : y = x := by omega
    exact this ▸ okF y hy
end

end K


namespace K
open PySem L2 Lw Bg
theorem int_mem {p : List Nat} {x : Nat} : ((x : Int) ∈ p.map fun (y : Nat) => (y : Int)) ↔ x ∈ p := by
  rw [List.mem_map]
  constructor
  · rintro ⟨y, hy, e⟩
    have : y = x := by omega
    rw [← this]; exact hy
  · exact fun h => ⟨x, h, rfl⟩
theorem inNatsP {K : PySem.W.Frag} {H : Hp} {b : Addr} {l : List Nat} {x : Nat} {Q : VK} (hS : SqL K H b (natV l)) (q : Q (.bl (decide (x ∈ l))) H) : rInD K false (.int (x : Int)) (.ref b) H Q := by
  rw [natV_ints] at hS
  refine inInts hS ?_
  rw [show decide ((x : Int) ∈ l.map fun (x : Nat) => (x : Int)) = decide (x ∈ l) from decide_eq_decide.mpr int_mem]
  exact q

/-- parts that hang together and touch two by two -/
structure PartsOk (rs : List Row) (n : Nat) (ss : List (List Nat)) : Prop where
  each : ∀ S ∈ ss, ∃ S', S.Perm S' ∧ GPart rs S'
  touch : ∀ S ∈ ss, ∀ S' ∈ ss, ∃ r ∈ rs, (∃ v ∈ S, ((v : Nat) : Int) ∈ r.2) ∧ ∃ v ∈ S', ((v : Nat) : Int) ∈ r.2
  lt : ∀ S ∈ ss, ∀ v ∈ S, v < n
  len : ∀ S ∈ ss, S.length ≤ 6
theorem gpart_row {rs : List Row} {S : List Nat} (g : GPart rs S) : ∀ v ∈ S, ∃ r ∈ rs, ((v : Nat) : Int) ∈ r.2 := by
  induction g with
  | one v e => exact fun u hu => by rw [List.mem_singleton.mp hu]; exact e
  | more S u w _ hu e ih =>
    intro v hv
    rcases List.mem_append.mp hv with h | h
    · exact ih v h
    · rw [List.mem_singleton.mp h]
      obtain ⟨r, hr, _, h2⟩ := e
      exact ⟨r, hr, h2⟩
theorem gpart_ne {rs : List Row} {S : List Nat} (g : GPart rs S) : ∃ v, v ∈ S := by
  induction g with
  | one v e => exact ⟨v, List.mem_singleton.mpr rfl⟩
  | more S u w _ hu e ih => exact ⟨u, List.mem_append_left _ hu⟩
theorem parts_more {rs : List Row} {n : Nat} {ss : List (List Nat)} {S Z : List Nat} {f : Nat → List Nat} (P : PartsOk rs n ss) (nb : NbOk rs n f) (g : GPart rs S) (pz : Z.Perm S) (lt : ∀ v ∈ S, v < n) (l6 : S.length ≤ 6) (tc : ∀ O ∈ ss, ∃ v ∈ O, v ∈ S ∨ ∃ u ∈ S, v ∈ f u) : PartsOk rs n (ss ++ [Z]) where
  each := fun S' h => by
    rcases List.mem_append.mp h with h | h
    · exact P.each S' h
    · rw [List.mem_singleton.mp h]; exact ⟨S, pz, g⟩
  touch := fun A hA C hC => by
    have one : ∀ O ∈ ss, ∃ r ∈ rs, (∃ v ∈ O, ((v : Nat) : Int) ∈ r.2) ∧ ∃ v ∈ Z, ((v : Nat) : Int) ∈ r.2 := fun O hO => by
      obtain ⟨v, hv, h⟩ := tc O hO
      rcases h with h | ⟨u, hu, h⟩
      · obtain ⟨r, hr, e⟩ := gpart_row g v h
        exact ⟨r, hr, ⟨v, hv, e⟩, v, pz.mem_iff.mpr h, e⟩
      · obtain ⟨_, r, hr, e1, e2⟩ := nb u v h
        exact ⟨r, hr, ⟨v, hv, e2⟩, u, pz.mem_iff.mpr hu, e1⟩
    rcases List.mem_append.mp hA with hA | hA
    · rcases List.mem_append.mp hC with hC | hC
      · exact P.touch A hA C hC
      · rw [List.mem_singleton.mp hC]; exact one A hA
    · rw [List.mem_singleton.mp hA]
      rcases List.mem_append.mp hC with hC | hC
      · obtain ⟨r, hr, h1, h2⟩ := one C hC
        exact ⟨r, hr, h2, h1⟩
      · rw [List.mem_singleton.mp hC]
        obtain ⟨v, hv⟩ := gpart_ne g
        obtain ⟨r, hr, e⟩ := gpart_row g v hv
        exact ⟨r, hr, ⟨v, pz.mem_iff.mpr hv, e⟩, v, pz.mem_iff.mpr hv, e⟩
  lt := fun A hA => by
    rcases List.mem_append.mp hA with hA | hA
    · exact P.lt A hA
    · rw [List.mem_singleton.mp hA]; exact fun v hv => lt v (pz.mem_iff.mp hv)
  len := fun A hA => by
    rcases List.mem_append.mp hA with hA | hA
    · exact P.len A hA
    · rw [List.mem_singleton.mp hA, pz.length_eq]; exact l6
theorem paired_inQ {α β : Type} {F G : α → β → Prop} : ∀ {xs : List α} {ys : List β}, Paired F xs ys → (∀ x y, x ∈ xs → F x y → G x y) → Paired G xs ys
  | _, _, .nil, _ => .nil
  | _, _, .cons h r, f => .cons (f _ _ List.mem_cons_self h) (paired_inQ r fun x y hx => f x y (List.mem_cons_of_mem _ hx))
def spParts17 (K : PySem.W.Frag) : Sp := fun vs H Q _ => ∃ (a p : Addr) (ns : List Int) (rs : List Row) (qs : List Addr) (f : Nat → List Nat) (n : Nat), vs = [.ref a, .ref p] ∧ Scr K H a ns ∧ ns.length ≤ 63 ∧ SqL K H p (qs.map V.ref) ∧ qs.length = n ∧ NearL H qs f ∧ 0 < n ∧ n ≤ 10 ∧ NbOk rs n f ∧ (∀ j, (f j).length ≤ 10) ∧ (∀ v : Nat, v < n → ∃ r ∈ rs, (v : Int) ∈ r.2) ∧
  ∀ m ds ss H', Same H H' → H m = none → H' m = some (.lst (ds.map V.ref)) → Paired (fun q S => H' q = some (.lst (natV S))) ds ss → PartsOk rs n ss → ss.length ≤ 9 → Q (.ref m) H'
section
variable {P : Program} {w : World} {K : PySem.W.Frag} {mg : Str → Option Value} {base : Heap}
set_option maxHeartbeats 8000000 in
theorem ok__law_parts (B : Bl mg) (d__law_cell : Dn K mg "_law_cell" s__law_cell ["_law_script", "_law_k"]) (d__law_mixed : Dn K mg "_law_mixed" s__law_mixed ["_law_script", "_law_k"]) (d__law_rim : Dn K mg "_law_rim" s__law_rim ["_law_near_here", "_law_part"]) (d__law_parts : Dn K mg "_law_parts" s__law_parts ["_law_script", "_law_near_here"]) : FnOk P w K mg base CX0 3 d__law_parts.f d__law_parts.fd ["_law_script", "_law_near_here"] (spParts17 K) := by
  have G__law_mixed : FnOk P w K mg base CX0 2 _ _ _ _ := ok__law_mixed B d__law_cell d__law_mixed
  have G__law_rim : FnOk P w K mg base CX0 2 _ _ _ _ := ok__law_rim B d__law_rim
  refine d__law_parts.F.ok sc__law_parts (fun vs H Q E h => ?_) (fun cdv A outer s H vs Q E hr h => ?_)
  · obtain ⟨a, p, ns, rs, qs, f, n, rfl, _⟩ := h
    rfl
  obtain ⟨a, p, ns, rs, qs, f, n, rfl, hS, h63, hp, lq, nl, n0, n10, nb, fl, cov, q⟩ := h
  have hv : (A.deeper (PyProof.Rows.envOfC "_law_parts" (defScope s__law_parts) s.heap.objs.size d__law_parts.f cdv)).units + 65 < cLine := by have := hr.un; omega
  refine ⟨_, (pss_cons (ps_set (i := 2) sc__law_parts.nd rfl (Or.inl rfl) (pe_lstN pa_nil))
      (pss_cons (ps_for PassesOwn.never rfl (pi_range1 rfl B.range (pa_cons pe_int pa_nil)) (pg_name (i := 3) sc__law_parts.nd rfl (Or.inl rfl))
      (pss_cons (ps_set (i := 4) sc__law_parts.nd rfl (Or.inl rfl) (pe_lstN (pa_cons (pe_op op_mod (pe_call G__law_mixed hr rfl d__law_mixed.m d__law_mixed.F.kp d__law_mixed.b .nil pass0 (pa_cons (pv 0) (pa_cons (pe_op op_add pe_int (pv 3)) pa_nil))) (pe_callB (call_lenK (K := K) rfl) rfl B.len (by decide +kernel) (pa_cons (pv 1) pa_nil))) pa_nil)))
      (pss_cons (ps_for PassesOwn.never rfl (pi_range1 rfl B.range (pa_cons (pe_op op_mod (pe_call G__law_mixed hr rfl d__law_mixed.m d__law_mixed.F.kp d__law_mixed.b .nil pass0 (pa_cons (pv 0) (pa_cons (pe_op op_add pe_int (pv 3)) pa_nil))) pe_int) pa_nil)) (pg_name (i := 5) sc__law_parts.nd rfl (Or.inl rfl))
      (pss_cons (ps_set (i := 6) sc__law_parts.nd rfl (Or.inl rfl) (pe_call G__law_rim hr rfl d__law_rim.m d__law_rim.F.kp d__law_rim.b .nil pass0 (pa_cons (pv 1) (pa_cons (pv 4) pa_nil))))
      (pss_one (ps_if (pt_cmpR op_gt (pe_callB (call_lenK (K := K) rfl) rfl B.len (by decide +kernel) (pa_cons (pv 6) pa_nil)) pe_int (nomark _))
      (pss_one (ps_expr (pe_bmK (K := K) rfl PySem.F.plainAttrs_list PySem.F.slot_list_append PySem.F.type_list_append mt_appendN (pv 4) (pa_cons (pe_ix (ix_listK (K := K) rfl) (pv 6) (pe_op op_mod (pe_op op_fdiv (pe_call G__law_mixed hr rfl d__law_mixed.m d__law_mixed.F.kp d__law_mixed.b .nil pass0 (pa_cons (pv 0) (pa_cons (pe_op op_add pe_int (pv 3)) pa_nil))) (pe_op op_add (pv 5) pe_int)) (pe_callB (call_lenK (K := K) rfl) rfl B.len (by decide +kernel) (pa_cons (pv 6) pa_nil))) (fun _ _ => rfl)) pa_nil))))
      pss_nil))))
      (pss_cons (ps_set (i := 7) sc__law_parts.nd rfl (Or.inr rfl) (pe_op op_catN (pv 4) (pe_call G__law_rim hr rfl d__law_rim.m d__law_rim.F.kp d__law_rim.b .nil pass0 (pa_cons (pv 1) (pa_cons (pv 4) pa_nil)))))
      (pss_one (ps_if (pt_truthK (K := K) rfl (pe_callB (call_allK (K := K) rfl rfl) rfl B.all (by decide +kernel) (pa_cons (pe_lc ["_law_other", "_law_reach"] [none, some 7]  (by kernel_rfl) rfl (pi_listK (K := K) rfl (pv 2)) (fun _ _ _ _ _ => (pg_name (i := 0) (show (["_law_other", "_law_reach"] : List Str).Nodup by decide +kernel) rfl (Or.inl rfl))) (fun _ _ _ _ _ => pts_nil) (fun _ _ _ _ _ => (pe_cmpR op_gt (pe_callB (call_lenK (K := K) rfl) rfl B.len (by decide +kernel) (pa_cons (pe_lc ["_law_v", "_law_reach"] [none, some 1]  (by kernel_rfl) rfl (pi_listK (K := K) rfl (pv 0)) (fun _ _ _ _ _ => (pg_name (i := 0) (show (["_law_v", "_law_reach"] : List Str).Nodup by decide +kernel) rfl (Or.inl rfl))) (fun _ _ _ _ _ => (pts_one (pt_cmpR (op_inDK (K := K) rfl hv) (pv 0) (pv 1) (by with_unfolding_all rfl)))) (fun _ _ _ _ _ => (pv 0))) pa_nil)) pe_int (nomark _)))) pa_nil)) (fun _ => rfl))
      (pss_one (ps_expr (pe_bmK (K := K) rfl PySem.F.plainAttrs_list PySem.F.slot_list_append PySem.F.type_list_append mt_appendN (pv 2) (pa_cons (pe_callB (call_sortedI (K := K) rfl) rfl B.sorted (by decide +kernel) (pa_cons (pv 4) pa_nil)) pa_nil))))
      pss_nil))))))
      (pss_one (ps_ret (pv 2))))), ?_⟩
  refine ⟨(by show 0 ≤ 1000; decide), fun pm H1 n1 => ?_⟩
  refine ⟨_, rfl, by decide, by decide, ?_⟩
  refine for_range (n := 9) (fun i σ H' => ∃ (ds : List Addr) (ss : List (List Nat)) (kk pp jj ee re : Option V), σ = [some (.ref a), some (.ref p), some (.ref pm), kk, pp, jj, ee, re] ∧ Same H H' ∧ H' pm = some (.lst (ds.map V.ref)) ∧ (∀ q ∈ ds, q ≠ pm) ∧ Paired (fun q S => H' q = some (.lst (natV S))) ds ss ∧ PartsOk rs n ss ∧ ss.length ≤ i) ⟨[], [], none, none, none, none, none, rfl, n1.same, n1.here, fun q h => absurd h List.not_mem_nil, .nil, ⟨fun S h => absurd h List.not_mem_nil, fun S h => absurd h List.not_mem_nil, fun S h => absurd h List.not_mem_nil, fun S h => absurd h List.not_mem_nil⟩, Nat.le_refl _⟩ ?_ ?_
  · rintro i σ H2 hi ⟨ds, ss, kk, pp, jj, ee, re, rfl, s2, h2, dm, pd, P, li⟩
    have ei : (0 : Int) + (i : Int) = (i : Int) := by omega
    rw [ei]
    have lqs : (qs.map V.ref).length = n := by rw [List.length_map]; exact lq
    refine ⟨_, rfl, _, rfl, _, _, rfl, rfl, a, ns, _, rfl, hS.same s2, h63, by omega, by omega, fun z1 => ?_⟩
    refine ⟨_, rfl, p, _, rfl, .inl (s2.seq hp), _, _, rfl, rfl, (by rw [lqs]; omega), ?_⟩
    dsimp only
    rw [lqs]
    obtain ⟨v0, e0, v0n⟩ : ∃ v0 : Nat, (z1 : Int) % (n : Int) = (v0 : Int) ∧ v0 < n := ⟨z1 % n, (Int.natCast_emod z1 n).symm, Nat.mod_lt _ n0⟩
    rw [e0]
    refine ⟨(by show 1 ≤ 1000; decide), fun pt H3 n3 => ?_⟩
    have s3 := s2.trans n3.same
    have ptm : pt ≠ pm := fun e => by have := n3.fresh; rw [e, h2] at this; cases this
    have fpt : H pt = none := s2.free n3.fresh
    refine ⟨_, rfl, _, rfl, _, _, rfl, rfl, a, ns, _, rfl, hS.same s3, h63, by omega, by omega, fun z2 => ?_⟩
    refine ⟨_, _, rfl, rfl, (show (0 : Int) < _ by decide), ?_⟩
    dsimp only
    obtain ⟨m6, e6, m6l⟩ : ∃ m6 : Nat, (z2 : Int) % 6 = (m6 : Int) ∧ m6 < 6 := ⟨z2 % 6, (Int.natCast_emod z2 6).symm, Nat.mod_lt _ (by decide)⟩
    rw [e6]
    refine ⟨_, rfl, by omega, by omega, ?_⟩
    rw [Int.toNat_natCast]
    have pd3 : Paired (fun q S => H3 q = some (.lst (natV S))) ds ss := Paired.mapP pd fun q S h => n3.same _ _ h
    have h3 := n3.same _ _ h2
    have dpt : ∀ q ∈ ds, q ≠ pt := fun q hq e => by
      obtain ⟨k, hk, ek⟩ := List.getElem_of_mem hq
      obtain ⟨S, _, hS'⟩ := paired_get pd (List.getElem?_eq_getElem hk)
      rw [ek, e, n3.fresh] at hS'; cases hS'
    refine for_range (D := { nx := _, rt := _ }) (n := m6) (fun j σ H' => ∃ (S : List Nat) (jj ee : Option V), σ = [some (.ref a), some (.ref p), some (.ref pm), some (.int (i : Int)), some (.ref pt), jj, ee, re] ∧ Same H H' ∧ H' pt = some (.lst (natV S)) ∧ GPart rs S ∧ (∀ v ∈ S, v < n) ∧ S.length ≤ j + 1 ∧ H' pm = some (.lst (ds.map V.ref)) ∧ Paired (fun q S => H' q = some (.lst (natV S))) ds ss) ⟨[v0], jj, ee, rfl, s3, n3.here, .one v0 (cov v0 v0n), fun v hv => by rw [List.mem_singleton.mp hv]; exact v0n, Nat.le_refl _, h3, pd3⟩ ?_ ?_
    · rintro j σ H4 hj ⟨S, jj, ee, rfl, s4, h4, gS, Sn, Sl, hm4, pd4⟩
      have ej : (0 : Int) + (j : Int) = (j : Int) := by omega
      rw [ej]
      refine ⟨_, rfl, _, rfl, p, pt, qs, f, n, S, rfl, s4.seq hp, lq, nl.same s4, n10, fun a x h => (nb a x h).1, fl, SqL.of h4, Sn, by omega, fun pe L H5 s5 f5 h5 okL lL => ?_⟩
      have hpt5 := s5 _ _ h4
      have hm5 := s5 _ _ hm4
      have pd5 : Paired (fun q S => H5 q = some (.lst (natV S))) ds ss := Paired.mapP pd4 fun q S h => s5 _ _ h
      refine ⟨_, rfl, pe, _, rfl, .inl (SqL.of h5), _, _, rfl, rfl, _, rfl, ?_⟩
      rw [List.length_map]
      refine ite2 (fun c => ?_) (fun c => ⟨S, _, _, rfl, s4.trans s5, hpt5, gS, Sn, by omega, hm5, pd5⟩)
      have c' : (0 : Int) < ((L.length : Nat) : Int) := of_decide_eq_true c
      refine ⟨_, rfl, .inl ⟨rfl, _, SqL.of hpt5⟩, _, rfl, _, rfl, _, rfl, _, _, rfl, rfl, a, ns, _, rfl, hS.same (s4.trans s5), h63, by omega, by omega, fun z3 => ?_⟩
      refine ⟨_, rfl, _, _, rfl, rfl, _, _, rfl, rfl, ⟨by omega, by omega⟩, _, rfl, pe, _, rfl, .inl (SqL.of h5), _, _, rfl, rfl, (by rw [List.length_map]; exact c'), ?_⟩
      rw [List.length_map]
      obtain ⟨x, ex, xl⟩ : ∃ x : Nat, (z3 : Int) / ((j : Int) + 3) % (L.length : Int) = (x : Int) ∧ x < L.length := ⟨z3 / (j + 3) % L.length, by rw [Int.natCast_emod, Int.natCast_ediv]; rfl, Nat.mod_lt _ (by omega)⟩
      dsimp only
      rw [ex]
      obtain ⟨y, ey⟩ : ∃ y, y = L.getD x 0 := ⟨_, rfl⟩
      have yL : y ∈ L := by rw [ey, List.getD_eq_getElem?_getD, List.getElem?_eq_getElem xl]; exact List.getElem_mem xl
      obtain ⟨yn, u, uS, uy⟩ := okL y yL
      obtain ⟨_, r, hr1, e1, e2⟩ := nb u y uy
      refine ⟨pe, _, _, _, rfl, rfl, SqL.of h5, natV_at xl, ?_⟩
      rw [← ey]
      refine ⟨pt, _, _, rfl, rfl, hpt5, by rw [List.length_map]; omega, fun H6 c6 => ?_⟩
      refine ⟨S ++ [y], _, _, rfl, (s4.trans s5).chg fpt c6, ?_, .more S u y gS uS ⟨r, hr1, e1, e2⟩, fun v hv => ?_, by rw [List.length_append]; show S.length + 1 ≤ _; omega, (c6.rest pm (Ne.symm ptm)).trans hm5, paired_inQ pd5 fun q S hq h => (c6.rest q (dpt q hq)).trans h⟩
      · rw [c6.here]
        unfold natV
        rw [List.map_append]; rfl
      · rcases List.mem_append.mp hv with h | h
        · exact Sn v h
        · rw [List.mem_singleton.mp h]; exact yn
    · rintro σ H4 ⟨S, jj, ee, rfl, s4, h4, gS, Sn, Sl, hm4, pd4⟩
      refine ⟨_, rfl, _, rfl, _, rfl, p, pt, qs, f, n, S, rfl, s4.seq hp, lq, nl.same s4, n10, fun a x h => (nb a x h).1, fl, SqL.of h4, Sn, by omega, fun pe L H5 s5 f5 h5 okL lL => ?_⟩
      refine ⟨pt, pe, _, _, rfl, rfl, s5 _ _ h4, h5, by rw [List.length_map, List.length_map]; omega, fun pr H6 n6 => ?_⟩
      have hr6 : H6 pr = some (.lst (natV (S ++ L))) := by
        rw [n6.here]
        unfold natV
        rw [List.map_append]
      have s46 := s5.trans n6.same
      have s6 := s4.trans s46
      have pd6 : Paired (fun q S => H6 q = some (.lst (natV S))) ds ss := Paired.mapP pd4 fun q S h => s46 _ _ h
      have hm6 := s46 _ _ hm4
      have ld := Paired.length pd6
      refine ⟨_, rfl, pm, rfl, ⟨_, SqL.of hm6⟩, ?_⟩
      refine lc_list (K := K) (a := pm) (xs := ds.map V.ref) (fun m ys G => Same H6 G ∧ ys = ((ss.take m).map fun O => O.any fun v => decide (v ∈ S ++ L)).map V.bl) ⟨Same.refl _, rfl⟩ (fun m ys G hm ⟨s, e⟩ => ⟨SqL.of (s _ _ hm6), ?_⟩) (fun m x ys G hm ⟨s, e⟩ => ?_) ?_
      · rw [e, List.length_map, List.length_map, List.length_take]
        exact Nat.le_of_lt (small1000 (by omega))
      · rw [List.getElem?_map] at hm
        obtain ⟨qm, hqm, rfl⟩ := Option.map_eq_some_iff.mp hm
        obtain ⟨O, hO, hqO⟩ := paired_get pd6 hqm
        have lO := P.len O (List.mem_of_getElem? hO)
        have gO := s _ _ hqO
        refine ⟨_, rfl, qm, rfl, ⟨_, SqL.of gO⟩, ?_⟩
        refine lc_fmN (fun v => match v with | .int x => if decide (x.toNat ∈ S ++ L) = true then some (.int x) else none | _ => none) (SqL.of gO) (by rw [List.length_map]; omega) (fun v H7 N hv7 s7 hN => ?_) (fun H7 pk H8 s7 n8 => ?_)
        · obtain ⟨x, hx7, rfl⟩ := List.mem_map.mp hv7
          have hN' := hN H7 s7
          refine ⟨_, rfl, _, rfl, inNatsP (SqL.of ((s.trans s7) _ _ hr6)) ⟨_, rfl, ?_⟩⟩
          dsimp only at hN'
          rw [Int.toNat_natCast] at hN'
          by_cases d : x ∈ S ++ L
          · rw [if_pos (decide_eq_true d)] at hN'
            rw [decide_eq_true d]
            exact iteT ⟨_, rfl, hN'⟩
          · rw [if_neg (by rw [decide_eq_false d]; exact Bool.false_ne_true)] at hN'
            rw [decide_eq_false d]
            exact iteF hN'
        have e8 : (natV O).filterMap (fun v => match v with | .int x => if decide (x.toNat ∈ S ++ L) = true then some (V.int x) else none | _ => none) = natV (O.filter fun x => decide (x ∈ S ++ L)) := fm_nats fun x _ => by
          dsimp only
          rw [Int.toNat_natCast]
        rw [e8] at n8
        refine ⟨pk, _, rfl, .inl (SqL.of n8.here), _, _, rfl, rfl, s.trans (s7.trans n8.same), ?_⟩
        obtain ⟨hml, hmx⟩ := List.getElem?_eq_some_iff.mp hO
        rw [e, List.take_succ_eq_append_getElem hml, hmx, List.map_append, List.map_append]
        congr 1
        show [V.bl (decide ((0 : Int) < (((natV (O.filter fun x => decide (x ∈ S ++ L))).length : Nat) : Int)))] = [V.bl (O.any fun v => decide (v ∈ S ++ L))]
        rw [List.length_map]
        congr 2
        rw [Bool.eq_iff_iff, decide_eq_true_iff, List.any_eq_true]
        constructor
        · intro h
          have h' : 0 < (O.filter fun x => decide (x ∈ S ++ L)).length := by omega
          obtain ⟨x, hx⟩ := List.exists_mem_of_length_pos h'
          exact ⟨x, (List.mem_filter.mp hx).1, (List.mem_filter.mp hx).2⟩
        · rintro ⟨x, h1, h2⟩
          have h3 : x ∈ O.filter fun x => decide (x ∈ S ++ L) := List.mem_filter.mpr ⟨h1, h2⟩
          have := List.length_pos_of_mem h3
          omega
      rintro ys G0 ⟨s0, e⟩ pk hfree
      obtain ⟨G, hnew⟩ : ∃ G, G = upd G0 pk (.lst ys) := ⟨_, rfl⟩
      have nG : New G0 pk (.lst ys) G := by rw [hnew]; exact New.mk0 hfree
      rw [← hnew]
      rw [List.length_map, ld, List.take_length] at e
      have sG : Same H6 G := s0.trans nG.same
      have hk := nG.here
      rw [e] at hk
      refine ⟨pk, _, _, rfl, SqL.of hk, Truths.bls _, _, rfl, ?_⟩
      have s7 := s6.trans sG
      have hm7 := sG _ _ hm6
      have pd7 : Paired (fun q S => G q = some (.lst (natV S))) ds ss := Paired.mapP pd6 fun q S h => sG _ _ h
      refine ite2 (fun c => ?_) (fun c => ⟨ds, ss, _, _, _, _, _, rfl, s7, hm7, dm, pd7, P, by omega⟩)
      rw [List.all_map, List.all_eq_true] at c
      have hpt7 := sG _ _ (s46 _ _ h4)
      rw [natV_ints] at hpt7
      refine ⟨_, rfl, .inl ⟨rfl, _, SqL.of hm7⟩, _, rfl, pt, _, rfl, SqL.of hpt7, by rw [List.length_map]; omega, fun p8 H8 zs n8 pz le => ?_⟩
      obtain ⟨Z, eZ, pZ⟩ : ∃ Z : List Nat, zs = Z.map (fun x : Nat => (x : Int)) ∧ Z.Perm S := by
        refine ⟨zs.map Int.toNat, ?_, ?_⟩
        · rw [List.map_map]
          refine (List.map_id zs).symm.trans (List.map_congr_left fun x hx => ?_)
          obtain ⟨y, _, rfl⟩ := List.mem_map.mp (pz.mem_iff.mp hx)
          rfl
        · have := pz.map Int.toNat
          rw [List.map_map] at this
          have e : S.map (Int.toNat ∘ fun x : Nat => (x : Int)) = S := by
            refine (List.map_congr_left fun x _ => ?_).trans (List.map_id S)
            rfl
          rw [e] at this
          exact this
      rw [eZ, ← natV_ints] at n8
      have hm8 := n8.same _ _ hm7
      refine ⟨pm, _, _, rfl, rfl, hm8, by rw [List.length_map]; omega, fun H9 c9 => ?_⟩
      have p8m : p8 ≠ pm := fun e => by have := n8.fresh; rw [e, hm7] at this; cases this
      refine ⟨ds ++ [p8], ss ++ [Z], _, _, _, _, _, rfl, (s7.trans n8.same).chg n1.fresh c9, by rw [c9.here, List.map_append]; rfl, fun q hq => ?_, paired_snoc (paired_inQ pd7 fun q S hq h => (c9.rest q (dm q hq)).trans (n8.same _ _ h)) ((c9.rest p8 p8m).trans n8.here), parts_more P nb gS pZ Sn (by omega) fun O hO => ?_, by rw [List.length_append]; show ss.length + 1 ≤ _; omega⟩
      · rcases List.mem_append.mp hq with h | h
        · exact dm q h
        · rw [List.mem_singleton.mp h]; exact p8m
      · have := c O hO
        obtain ⟨v, hv', hm'⟩ := List.any_eq_true.mp this
        refine ⟨v, hv', ?_⟩
        rcases List.mem_append.mp (of_decide_eq_true hm') with h | h
        · exact .inl h
        · obtain ⟨_, u, hu, hx⟩ := okL v h
          exact .inr ⟨u, hu, hx⟩
  · rintro σ H2 ⟨ds, ss, kk, pp, jj, ee, re, rfl, s2, h2, dm, pd, P, li⟩
    exact ⟨_, rfl, q pm ds ss H2 s2 n1.fresh h2 pd P li⟩
end

end K


namespace K
open PySem L2 Lw Bg
abbrev s_law : Stmt := top 21
theorem sc_law : FnScope ["_law_script", "_law_n", "_law_rows", "_law_near_here", "_law_parts_here", "_law_k", "_law_handed", "_law_found", "_law_at"] ["_law_script"] (defScope s_law) := ⟨rfl, rfl, rfl, by decide +kernel, rfl, by decide +kernel, by decide +kernel⟩
theorem first_ex {rs : List Row} {ss : List (List Int)} (h : ∃ j, j < rs.length ∧ meetF (rowAt rs j) ss = true) : ∃ k, firstF rs ss = some k ∧ k < rs.length ∧ meetF (rowAt rs k) ss = true ∧ ∀ j, j < k → meetF (rowAt rs j) ss = false := by
  obtain ⟨j, hj, m⟩ := h
  obtain ⟨k, kj, mk, no⟩ := least_at (R := fun j => meetF (rowAt rs j) ss = true) j j (Nat.le_refl _) m
  have no' : ∀ i, i < k → meetF (rowAt rs i) ss = false := fun i hi => Bool.eq_false_iff.mpr (no i hi)
  exact ⟨k, first_at (by omega) no' mk, by omega, mk, no'⟩
theorem meet_of {rs : List Row} {ss : List (List Nat)} {j : Nat} (h : ∀ S ∈ ss, RowsOf rs S j) : meetF (rowAt rs j) (ss.map fun S => S.map fun (x : Nat) => (x : Int)) = true := by
  unfold meetF
  rw [List.all_map, List.all_eq_true]
  intro S hS
  show condF (rowAt rs j) (S.map fun (x : Nat) => (x : Int)) = true
  rw [cond_iff]
  obtain ⟨v, hv, e⟩ := h S hS
  exact ⟨_, e, List.mem_map.mpr ⟨v, hv, rfl⟩⟩
theorem sets_nat {K : PySem.W.Frag} {H : Hp} : ∀ {ds : List Addr} {ss : List (List Nat)}, Paired (fun q S => H q = some (.lst (natV S))) ds ss → Paired (LstV K H) (ds.map V.ref) (ss.map fun S => S.map fun (x : Nat) => (x : Int))
  | _, _, .nil => .nil
  | _, _, .cons h r => .cons ⟨_, rfl, SqL.of (by rw [h, natV_ints])⟩ (sets_nat r)
section
variable {P : Program} {w : World} {K : PySem.W.Frag} {mg : Str → Option Value} {base : Heap}
set_option maxHeartbeats 8000000 in
theorem ok_law (B : Bl mg) (d_is_whole : Dn K mg "is_whole" s_is_whole ["thing"]) (d_is_below : Dn K mg "is_below" s_is_below ["n", "thing"]) (d_common : Dn K mg "common" s_common ["one", "other"]) (d_rooted : Dn K mg "rooted" s_rooted ["tree", "k"]) (d_neighbours : Dn K mg "neighbours" s_neighbours ["tree"]) (d_meeting : Dn K mg "meeting" s_meeting ["tree", "sets"]) (d__law_cell : Dn K mg "_law_cell" s__law_cell ["_law_script", "_law_k"]) (d__law_mixed : Dn K mg "_law_mixed" s__law_mixed ["_law_script", "_law_k"]) (d__law_turned : Dn K mg "_law_turned" s__law_turned ["_law_script", "_law_n"]) (d__law_kept : Dn K mg "_law_kept" s__law_kept ["_law_old", "_law_cell_here"]) (d__law_tree : Dn K mg "_law_tree" s__law_tree ["_law_script", "_law_turned_here", "_law_many"]) (d__law_near : Dn K mg "_law_near" s__law_near ["_law_script", "_law_rows", "_law_n"]) (d__law_rim : Dn K mg "_law_rim" s__law_rim ["_law_near_here", "_law_part"]) (d__law_parts : Dn K mg "_law_parts" s__law_parts ["_law_script", "_law_near_here"]) (d__law_meets : Dn K mg "_law_meets" s__law_meets ["_law_row", "_law_parts_here"]) (d_law : Dn K mg "law" s_law ["_law_script"]) : FnOk P w K mg base CX0 9 d_law.f d_law.fd ["_law_script"] (spLaw K) := by
  have G__law_cell : FnOk P w K mg base CX0 8 _ _ _ _ := (ok__law_cell B d__law_cell).mono (by decide)
  have G__law_turned : FnOk P w K mg base CX0 8 _ _ _ _ := (ok__law_turned B d__law_cell d__law_turned).mono (by decide)
  have G__law_tree : FnOk P w K mg base CX0 8 _ _ _ _ := (ok__law_tree B d__law_cell d__law_kept d__law_tree).mono (by decide)
  have G__law_near : FnOk P w K mg base CX0 8 _ _ _ _ := (ok__law_near B d__law_cell d__law_near).mono (by decide)
  have G__law_parts : FnOk P w K mg base CX0 8 _ _ _ _ := (ok__law_parts B d__law_cell d__law_mixed d__law_rim d__law_parts).mono (by decide)
  have G__law_meets : FnOk P w K mg base CX0 8 _ _ _ _ := (ok__law_meets B d__law_meets).mono (by decide)
  have G_rooted : FnOk P w K mg base CX0 8 _ _ _ _ := (ok_rooted B d_is_whole d_is_below d_neighbours d_rooted).mono (by decide)
  have G_meeting : FnOk P w K mg base CX0 8 _ _ _ _ := (ok_meeting B d_common d_meeting).mono (by decide)
  refine d_law.F.ok sc_law (fun vs H Q E h => ?_) (fun cdv A outer s H vs Q E hr h => ?_)
  · obtain ⟨a, ns, rfl, _⟩ := h
    rfl
  obtain ⟨a, ns, rfl, hS, h63, q⟩ := h
  have hu : (A.deeper (PyProof.Rows.envOfC "law" (defScope s_law) s.heap.objs.size d_law.f cdv)).units + 64 < cLine := hr.units
  refine ⟨_, (pss_cons (ps_set (i := 1) sc_law.nd rfl (Or.inl rfl) (pe_op op_add pe_int (pe_op op_mod (pe_call G__law_cell hr rfl d__law_cell.m d__law_cell.F.kp d__law_cell.b .nil pass0 (pa_cons (pv 0) (pa_cons pe_int pa_nil))) pe_int)))
      (pss_cons (ps_set (i := 2) sc_law.nd rfl (Or.inl rfl) (pe_call G__law_tree hr rfl d__law_tree.m d__law_tree.F.kp d__law_tree.b .nil pass0 (pa_cons (pv 0) (pa_cons (pe_call G__law_turned hr rfl d__law_turned.m d__law_turned.F.kp d__law_turned.b .nil pass0 (pa_cons (pv 0) (pa_cons (pv 1) pa_nil))) (pa_cons (pe_op op_add pe_int (pe_op op_mod (pe_call G__law_cell hr rfl d__law_cell.m d__law_cell.F.kp d__law_cell.b .nil pass0 (pa_cons (pv 0) (pa_cons pe_int pa_nil))) pe_int)) pa_nil)))))
      (pss_cons (ps_set (i := 3) sc_law.nd rfl (Or.inl rfl) (pe_call G__law_near hr rfl d__law_near.m d__law_near.F.kp d__law_near.b .nil pass0 (pa_cons (pv 0) (pa_cons (pv 2) (pa_cons (pv 1) pa_nil)))))
      (pss_cons (ps_set (i := 4) sc_law.nd rfl (Or.inl rfl) (pe_call G__law_parts hr rfl d__law_parts.m d__law_parts.F.kp d__law_parts.b .nil pass0 (pa_cons (pv 0) (pa_cons (pv 3) pa_nil))))
      (pss_cons (ps_for PassesOwn.never rfl (pi_range1 rfl B.range (pa_cons pe_int pa_nil)) (pg_name (i := 5) sc_law.nd rfl (Or.inl rfl))
      (pss_cons (ps_setLC (i := 6) ["_law_row"] [none] sc_law.nd rfl rfl (by kernel_rfl) rfl (pi_listK (K := K) rfl (pv 2)) (fun _ _ _ _ _ => (pg_name (i := 0) (show (["_law_row"] : List Str).Nodup by decide +kernel) rfl (Or.inl rfl))) (fun _ _ _ _ _ => pts_nil) (fun _ _ _ _ _ => (pe_tupN (pa_cons (pe_ix (ix_tupK (K := K) rfl) (pv 0) pe_int (fun _ _ => rfl)) (pa_cons (pe_callTy (call_listN (K := K) rfl) rfl B.list (by decide +kernel) (pa_cons (pe_ix (ix_tupK (K := K) rfl) (pv 0) pe_int (fun _ _ => rfl)) pa_nil)) pa_nil)))) (by rfl))
      (pss_cut (ps_if (pt_cmpR op_eq (pv 5) pe_int (nomark _))
      (pss_one (ps_set (i := 6) sc_law.nd rfl (Or.inl rfl) (pe_call G_rooted hr rfl d_rooted.m d_rooted.F.kp d_rooted.b .nil pass0 (pa_cons (pv 6) (pa_cons (pe_op op_mod (pe_op op_fdiv (pe_call G__law_cell hr rfl d__law_cell.m d__law_cell.F.kp d__law_cell.b .nil pass0 (pa_cons (pv 0) (pa_cons pe_int pa_nil))) pe_int) (pe_callB (call_lenK (K := K) rfl) rfl B.len (by decide +kernel) (pa_cons (pv 2) pa_nil))) pa_nil)))))
      pss_nil)
      (pss_cons (ps_set (i := 7) sc_law.nd rfl (Or.inl rfl) (pe_call G_meeting hr rfl d_meeting.m d_meeting.F.kp d_meeting.b .nil pass0 (pa_cons (pv 6) (pa_cons (pe_lc ["_law_part"] [none]  (by kernel_rfl) rfl (pi_listK (K := K) rfl (pv 4)) (fun _ _ _ _ _ => (pg_name (i := 0) (show (["_law_part"] : List Str).Nodup by decide +kernel) rfl (Or.inl rfl))) (fun _ _ _ _ _ => pts_nil) (fun _ _ _ _ _ => (pe_callTy (call_listN (K := K) rfl) rfl B.list (by decide +kernel) (pa_cons (pv 0) pa_nil)))) pa_nil))))
      (pss_cons (ps_if (PW.pt (pw_or (pt_not (pt_truthK (K := K) rfl (pe_callB (call_isinstK (K := K) rfl) rfl B.isinstance (by decide +kernel) (pa_cons (pv 7) (pa_cons (pe_bltn (v := .ty "int") (u := .type "int") rfl B.int (by decide +kernel) rfl) pa_nil))) (fun _ => rfl))) (pw_or (pt_truthK (K := K) rfl (pe_callB (call_isinstK (K := K) rfl) rfl B.isinstance (by decide +kernel) (pa_cons (pv 7) (pa_cons (pe_bltn (v := .ty "bool") (u := .type "bool") rfl B.bool (by decide +kernel) rfl) pa_nil))) (fun _ => rfl)) (pw_or (pt_cmpR op_lt (pv 7) pe_int (nomark _)) (pw_or1 (pt_cmpR op_ge (pv 7) (pe_callB (call_lenK (K := K) rfl) rfl B.len (by decide +kernel) (pa_cons (pv 2) pa_nil)) (nomark _)))))))
      (pss_one (ps_ret pe_bl))
      pss_nil)
      (pss_one (ps_for PassesOwn.never rfl (pi_range1 rfl B.range (pa_cons (pe_op op_add (pv 7) pe_int) pa_nil)) (pg_name (i := 8) sc_law.nd rfl (Or.inl rfl))
      (pss_one (ps_if (pt_cmpR op_ne (pe_call G__law_meets hr rfl d__law_meets.m d__law_meets.F.kp d__law_meets.b .nil pass0 (pa_cons (pe_ix (ix_listK (K := K) rfl) (pv 6) (pv 8) (fun _ _ => rfl)) (pa_cons (pv 4) pa_nil))) (pe_cmpR op_eq (pv 8) (pv 7) (nomark _)) (nomark _))
      (pss_one (ps_ret pe_bl))
      pss_nil)))))))))
      (pss_one (ps_ret pe_bl))))))), ?_⟩
  refine ⟨_, rfl, a, ns, 0, rfl, hS, h63, by decide, by decide, fun z0 => ?_⟩
  refine ⟨_, _, rfl, rfl, (show (0 : Int) < _ by decide), _, _, rfl, rfl, ?_⟩
  dsimp only
  have y0 := Int.emod_nonneg z0 (show (10 : Int) ≠ 0 by decide)
  have y1 := Int.emod_lt_of_pos z0 (show (0 : Int) < 10 by decide)
  obtain ⟨n, en⟩ : ∃ n : Nat, 1 + z0 % 10 = (n : Int) := ⟨(1 + z0 % 10).toNat, by omega⟩
  have n10 : n ≤ 10 := by omega
  have n0 : 0 < n := by omega
  rw [en]
  refine ⟨_, rfl, _, rfl, _, rfl, a, ns, n, rfl, hS, h63, n10, fun pu us H1 n1 pm => ?_⟩
  refine ⟨_, rfl, a, ns, 1, rfl, hS.same n1.same, h63, by decide, by decide, fun z1 => ?_⟩
  refine ⟨_, _, rfl, rfl, (show (0 : Int) < _ by decide), _, _, rfl, rfl, ?_⟩
  have w0 := Int.emod_nonneg z1 (show (7 : Int) ≠ 0 by decide)
  have w1 := Int.emod_lt_of_pos z1 (show (0 : Int) < 7 by decide)
  dsimp only [tNil, List.append_nil]
  obtain ⟨many, em⟩ : ∃ many : Nat, 1 + z1 % 7 = (many : Int) := ⟨(1 + z1 % 7).toNat, by omega⟩
  rw [em]
  refine ⟨a, pu, ns, us, n, many, rfl, hS.same n1.same, h63, n1.here, pm, n10, by omega, by omega, fun l xs rs H2 s2 f2 hl hp T0 _ => ?_⟩
  have hS2 := (hS.same n1.same).same s2
  have lx : xs.length = rs.length := Paired.length hp
  have r20 := T0.len
  have rpos := T0.pos
  have T : TreeP n rs := ⟨T0.pos, T0.ok, T0.cov, T0.tops⟩
  have U := ups_ok T.ok
  have hR : RowsAt K H2 l rs := ⟨xs, SqL.of hl, Paired.mapP hp fun _ _ q => q.v, by omega⟩
  refine ⟨_, rfl, _, rfl, _, rfl, a, l, ns, rs, n, rfl, hS2, h63, hR, n10, fun pn qs f H3 s3 f3 h3 lq nl nb fl => ?_⟩
  refine ⟨_, rfl, _, rfl, a, pn, ns, rs, qs, f, n, rfl, hS2.same s3, h63, SqL.of h3, lq, nl, n0, n10, nb, fl, fun v vn => T.cov (v : Int) (by omega) (by omega), fun mp ds ss H4 s4 f4 h4 pd PO l9 => ?_⟩
  have s24 := s3.trans s4
  have ld := Paired.length pd
  refine ⟨2, rfl, by decide, by decide, ?_⟩
  refine for_range (n := 2) (fun i σ H' => (∃ kk hd fo aa : Option V, σ = [some (.ref a), some (.int n), some (.ref l), some (.ref pn), some (.ref mp), kk, hd, fo, aa]) ∧ Same H4 H') ⟨⟨_, _, _, _, rfl⟩, Same.refl _⟩ ?_ ?_
  · rintro i σ H5 hi ⟨⟨kk, hd0, fo0, aa, rfl⟩, s5⟩
    have s25 := s24.trans s5
    have ei : (0 : Int) + (i : Int) = (i : Int) := by omega
    rw [ei]
    have jl : H5 l = some (.lst xs) := s25 _ _ hl
    have jp := Paired.mapP hp fun v t q => RowL.same s25 q
    refine ⟨_, rfl, l, rfl, ⟨_, SqL.of jl⟩, ?_⟩
    refine lc_list (K := K) (a := l) (xs := xs) (fun i ys G => Same H5 G ∧ Paired (RowV K G) ys (rs.take i)) ⟨Same.refl _, .nil⟩ (fun i ys G hi ⟨s, p⟩ => ⟨s.seq (SqL.of jl), ?_⟩) (fun i x ys G hi ⟨s, p⟩ => ?_) ?_
    · have := Paired.length p
      rw [this, List.length_take]
      exact Nat.le_of_lt (small1000 (by omega))
    · obtain ⟨r, hr1, ⟨pp, b, rfl, hT, hb, hbl, hbz⟩⟩ := paired_get jp hi
      refine ⟨_, rfl, pp, _, _, _, rfl, rfl, SqT.of (s _ _ hT), rfl, _, rfl, pp, _, _, _, rfl, rfl, SqT.of (s _ _ hT), rfl, b, _, rfl, .inl (SqL.of (s _ _ hb)), fun p8 H8 n8 => ?_⟩
      refine ⟨(by show 2 ≤ 1000; decide), fun p9 H9 n9 => ?_⟩
      have s9 := n8.same.trans n9.same
      refine ⟨s.trans s9, ?_⟩
      obtain ⟨hil, hix⟩ := List.getElem?_eq_some_iff.mp hr1
      rw [List.take_succ_eq_append_getElem hil, hix]
      exact paired_snoc (Paired.mapP p fun v t q => q.same s9) ⟨p9, p8, rfl, SqT.of n9.here, SqL.of (n9.same _ _ n8.here), hbz⟩
    intro ys G0 ⟨s0, p0⟩ hd hfree
    rw [lx, List.take_length] at p0
    obtain ⟨G, hnew⟩ : ∃ G, G = upd G0 hd (.lst ys) := ⟨_, rfl⟩
    have nG : New G0 hd (.lst ys) G := by rw [hnew]; exact New.mk0 hfree
    rw [← hnew]
    have sG : Same H5 G := s0.trans nG.same
    have hH : RowsAt K G hd rs := ⟨ys, SqL.of nG.here, Paired.mapP p0 fun v t q => q.same nG.same, by omega⟩
    refine ⟨fun σ' H' => ∃ (hd : Addr) (rs' : List Row), σ' = [some (.ref a), some (.int n), some (.ref l), some (.ref pn), some (.ref mp), some (.int (i : Int)), some (.ref hd), fo0, aa] ∧ Same H5 H' ∧ RowsAt K H' hd rs' ∧ TreeP n rs' ∧ rs'.length = rs.length ∧ ∀ r, r ∈ rs → ∃ r' ∈ rs', r'.2 = r.2, ?_, ?_⟩
    · refine ⟨_, rfl, rfl, _, rfl, ?_⟩
      refine ite2 (fun c => ?_) (fun c => ⟨hd, rs, rfl, sG, hH, T, rfl, fun r hr => ⟨r, hr, rfl⟩⟩)
      refine ⟨_, rfl, _, rfl, a, ns, 62, rfl, (hS2.same s25).same sG, h63, by decide, by decide, fun z5 => ?_⟩
      refine ⟨_, _, rfl, rfl, ⟨by decide, by decide⟩, _, rfl, l, _, rfl, .inl (SqL.of (sG _ _ jl)), _, _, rfl, rfl, (show (0 : Int) < _ by omega), ?_⟩
      dsimp only
      have t0 := Int.emod_nonneg (z5 / 7) (show ((xs.length : Nat) : Int) ≠ 0 by omega)
      have t1 := Int.emod_lt_of_pos (z5 / 7) (show (0 : Int) < ((xs.length : Nat) : Int) by omega)
      obtain ⟨g, eg⟩ : ∃ g : Nat, z5 / 7 % ((xs.length : Nat) : Int) = (g : Int) := ⟨(z5 / 7 % ((xs.length : Nat) : Int)).toNat, by omega⟩
      rw [eg]
      have gl : g < rs.length := by omega
      obtain ⟨T', lT, every⟩ := root_tree T gl
      refine ⟨hd, rs, g, rfl, hH, U, by omega, gl, fun pf ws H8 s8 f8 h8 p8 => ?_⟩
      have lw := Paired.length p8
      exact ⟨pf, rootedF rs g, rfl, sG.trans s8, ⟨ws, SqL.of h8, Paired.mapP p8 fun v t ⟨q, b, e, g1, g2, _, _, z⟩ => ⟨q, b, e, SqT.of g1, SqL.of g2, z⟩, by omega⟩, T', lT, every⟩
    clear hH nG hnew hfree
    rintro σ6 H6 ⟨hd, rs', rfl, s6, hH, T', lT, every⟩
    have s46 := s5.trans s6
    have pd6 : Paired (fun q S => H6 q = some (.lst (natV S))) ds ss := Paired.mapP pd fun q S h => s46 _ _ h
    have hm6 := s46 _ _ h4
    refine ⟨_, rfl, _, rfl, mp, rfl, ⟨_, SqL.of hm6⟩, ?_⟩
    refine lc_list (K := K) (a := mp) (xs := ds.map V.ref) (fun i ys G => Same H6 G ∧ Paired (LstV K G) ys ((ss.map fun S => S.map fun (x : Nat) => (x : Int)).take i)) ⟨Same.refl _, .nil⟩ (fun i ys G hi ⟨s, p⟩ => ⟨s.seq (SqL.of hm6), ?_⟩) (fun i x ys G hi ⟨s, p⟩ => ?_) ?_
    · have := Paired.length p
      rw [this, List.length_take, List.length_map]
      exact Nat.le_of_lt (small1000 (by omega))
    · obtain ⟨t, ht, ⟨pt, rfl, hpt⟩⟩ := paired_get (sets_nat (K := K) pd6) hi
      refine ⟨_, rfl, pt, _, rfl, .inl (s.seq hpt), fun p8 H8 n8 => ?_⟩
      refine ⟨s.trans n8.same, ?_⟩
      obtain ⟨hil, hix⟩ := List.getElem?_eq_some_iff.mp ht
      rw [List.take_succ_eq_append_getElem hil, hix]
      exact paired_snoc (Paired.mapP p fun v t q => lstv_same n8.same q) ⟨p8, rfl, SqL.of n8.here⟩
    intro zs J0 ⟨t0, q0⟩ pk pfree
    rw [List.length_map, ld, show ss.length = (ss.map fun S => S.map fun (x : Nat) => (x : Int)).length from (List.length_map _).symm, List.take_length] at q0
    obtain ⟨J, jnew⟩ : ∃ J, J = upd J0 pk (.lst zs) := ⟨_, rfl⟩
    have nJ : New J0 pk (.lst zs) J := by rw [jnew]; exact New.mk0 pfree
    rw [← jnew]
    have sJ : Same H6 J := t0.trans nJ.same
    refine ⟨hd, pk, rs', _, rfl, hH.same sJ, ⟨zs, SqL.of nJ.here, Paired.mapP q0 fun v t q => lstv_same nJ.same q⟩, by rw [List.length_map]; omega, fun H7 s7 => ?_⟩
    obtain ⟨j, hj, mj⟩ := helly T' (fun S hS => by
      obtain ⟨S', p, g⟩ := PO.each S hS
      exact ⟨S', p, g.kept every⟩) (fun S hS S' hS' => by
      obtain ⟨r, hr, h1, h2⟩ := PO.touch S hS S' hS'
      obtain ⟨r', hr', e⟩ := every r hr
      exact ⟨r', hr', by rw [e]; exact h1, by rw [e]; exact h2⟩)
    obtain ⟨k, ek, kl, mk, no⟩ := first_ex ⟨j, hj, meet_of mj⟩
    rw [ek]
    have s67 := sJ.trans s7
    have hl7 : H7 l = some (.lst xs) := s67 _ _ (s6 _ _ jl)
    refine ⟨_, rfl, _, _, _, _, _, rfl, rfl, TyOf.int _, kit_int_int, _, rfl, iteF ?_⟩
    refine ⟨_, rfl, _, _, _, _, _, rfl, rfl, TyOf.int _, kit_int_bool, _, rfl, iteF ?_⟩
    refine ⟨_, rfl, _, _, rfl, rfl, _, rfl, ?_⟩
    rw [decide_eq_false (show ¬ ((k : Nat) : Int) < 0 by omega)]
    refine iteF ?_
    refine ⟨_, rfl, _, rfl, l, _, rfl, .inl (SqL.of hl7), _, _, rfl, rfl, _, rfl, ?_⟩
    rw [decide_eq_false (show ¬ ((xs.length : Nat) : Int) ≤ ((k : Nat) : Int) by omega)]
    refine iteF ?_
    refine ⟨_, rfl, _, _, rfl, rfl, _, rfl, by omega, by omega, ?_⟩
    rw [show ((k : Nat) : Int) + 1 = ((k + 1 : Nat) : Int) from rfl, Int.toNat_natCast]
    have hH7 := hH.same s67
    have hM7 : SetsAt K H7 mp (ss.map fun S => S.map fun (x : Nat) => (x : Int)) := ⟨_, SqL.of (s67 _ _ hm6), sets_nat (Paired.mapP pd6 fun q S h => s67 _ _ h)⟩
    obtain ⟨rx, hrx, hrp, _⟩ := id hH7
    refine for_range (n := k + 1) (fun m σ H' => (∃ aa : Option V, σ = [some (.ref a), some (.int n), some (.ref l), some (.ref pn), some (.ref mp), some (.int (i : Int)), some (.ref hd), some (.int (k : Int)), aa]) ∧ Same H7 H') ⟨⟨_, rfl⟩, Same.refl _⟩ ?_ ?_
    · rintro m σ H8 hm ⟨⟨aa, rfl⟩, s8⟩
      have em : (0 : Int) + (m : Int) = (m : Int) := by omega
      rw [em]
      obtain ⟨v, hv', hV⟩ := paired_getr hrp (rowAt_lt (show m < rs'.length by omega))
      refine ⟨_, rfl, _, rfl, hd, _, _, _, rfl, rfl, s8.seq hrx, atI_nat hv', _, rfl, v, mp, rowAt rs' m, _, rfl, hV.same s8, hM7.same s8, fun s hs => ?_, fun H9 s9 => ?_⟩
      · obtain ⟨S, hS', rfl⟩ := List.mem_map.mp hs
        rw [List.length_map]
        have := PO.len S hS'
        omega
      refine ⟨_, rfl, _, rfl, rfl, rfl, _, rfl, ?_⟩
      have e : (!decide (V.bl (meetF (rowAt rs' m) (ss.map fun S => S.map fun (x : Nat) => (x : Int))) = V.bl (decide (V.int (m : Int) = V.int (k : Int))))) = false := by
        by_cases c : m = k
        · subst c
          rw [mk, decide_eq_true rfl]; rfl
        · have d : decide (V.int (m : Int) = V.int (k : Int)) = false := decide_eq_false (fun z => by injection z with z; omega)
          rw [no m (by omega), d]; rfl
      rw [e]
      exact iteF ⟨⟨_, rfl⟩, s8.trans s9⟩
    · rintro σ H8 ⟨⟨aa, rfl⟩, s8⟩
      exact ⟨⟨_, _, _, _, rfl⟩, s46.trans (s67.trans s8)⟩
  · rintro σ H5 ⟨_, s5⟩
    exact q _
end

end K

open PySem PySem.W PyProof.Rows
set_option maxRecDepth 100000 in
set_option maxHeartbeats 0 in
theorem PySem.Challenge.cw_bagwood_k17_whole_touching_sets_meet_holds : PySem.Challenge.rw_bagwood_k17_whole_touching_sets_meet.Holds := by
  w_on; o_law; k_head; (case hw => w_witness2)
  k_fill
  refine L2.walk_ofK (l := PySem.Challenge.rw_bagwood_k17_whole_touching_sets_meet) (n := 63) (k := 9) (x := "_law_script") (CX := L2.CX0) (sp := Lw.spLaw) rfl (by decide) rfl ⟨rfl, by decide, by decide⟩ (fun w h Y => PySem.W.kIn_of Y) ?F ?S ?C
  case F =>
    intro w mg fa h KX G hmg
    have B : L2.Bl mg := by
      refine' L2.bl_mk KX G ?z1 ?z2 ?z3 ?z4 ?z5 ?z6 ?z7 ?z8 ?z9 ?z10 ?z11 ?z12 ?z13 ?z14 ?z15 ?z16 ?z17
      all_goals k_is
    have d_is_whole : Nonempty (L2.Dn (L2.KOf KX) mg "is_whole" K.s_is_whole ["thing"]) := by
      dsimp only [L2.KOf]
      refine' L2.dn_mk1 KX G ?a ?l ?c ?k rfl (fun _ _ _ _ _ _ _ => rfl)
      (case a => k_is); (case l => k_is); (case c => k_is); (case k => k_is)
    obtain ⟨d_is_whole⟩ := d_is_whole
    have d_is_below : Nonempty (L2.Dn (L2.KOf KX) mg "is_below" K.s_is_below ["n", "thing"]) := by
      dsimp only [L2.KOf]
      refine' L2.dn_mk2 KX G ?a ?l ?c ?k rfl (fun _ _ _ _ _ _ _ _ => rfl)
      (case a => k_is); (case l => k_is); (case c => k_is); (case k => k_is)
    obtain ⟨d_is_below⟩ := d_is_below
    have d_common : Nonempty (L2.Dn (L2.KOf KX) mg "common" K.s_common ["one", "other"]) := by
      dsimp only [L2.KOf]
      refine' L2.dn_mk2 KX G ?a ?l ?c ?k rfl (fun _ _ _ _ _ _ _ _ => rfl)
      (case a => k_is); (case l => k_is); (case c => k_is); (case k => k_is)
    obtain ⟨d_common⟩ := d_common
    have d_rooted : Nonempty (L2.Dn (L2.KOf KX) mg "rooted" K.s_rooted ["tree", "k"]) := by
      dsimp only [L2.KOf]
      refine' L2.dn_mk2 KX G ?a ?l ?c ?k rfl (fun _ _ _ _ _ _ _ _ => rfl)
      (case a => k_is); (case l => k_is); (case c => k_is); (case k => k_is)
    obtain ⟨d_rooted⟩ := d_rooted
    have d_neighbours : Nonempty (L2.Dn (L2.KOf KX) mg "neighbours" K.s_neighbours ["tree"]) := by
      dsimp only [L2.KOf]
      refine' L2.dn_mk1 KX G ?a ?l ?c ?k rfl (fun _ _ _ _ _ _ _ => rfl)
      (case a => k_is); (case l => k_is); (case c => k_is); (case k => k_is)
    obtain ⟨d_neighbours⟩ := d_neighbours
    have d_meeting : Nonempty (L2.Dn (L2.KOf KX) mg "meeting" K.s_meeting ["tree", "sets"]) := by
      dsimp only [L2.KOf]
      refine' L2.dn_mk2 KX G ?a ?l ?c ?k rfl (fun _ _ _ _ _ _ _ _ => rfl)
      (case a => k_is); (case l => k_is); (case c => k_is); (case k => k_is)
    obtain ⟨d_meeting⟩ := d_meeting
    have d__law_cell : Nonempty (L2.Dn (L2.KOf KX) mg "_law_cell" K.s__law_cell ["_law_script", "_law_k"]) := by
      dsimp only [L2.KOf]
      refine' L2.dn_mk2 KX G ?a ?l ?c ?k rfl (fun _ _ _ _ _ _ _ _ => rfl)
      (case a => k_is); (case l => k_is); (case c => k_is); (case k => k_is)
    obtain ⟨d__law_cell⟩ := d__law_cell
    have d__law_mixed : Nonempty (L2.Dn (L2.KOf KX) mg "_law_mixed" K.s__law_mixed ["_law_script", "_law_k"]) := by
      dsimp only [L2.KOf]
      refine' L2.dn_mk2 KX G ?a ?l ?c ?k rfl (fun _ _ _ _ _ _ _ _ => rfl)
      (case a => k_is); (case l => k_is); (case c => k_is); (case k => k_is)
    obtain ⟨d__law_mixed⟩ := d__law_mixed
    have d__law_turned : Nonempty (L2.Dn (L2.KOf KX) mg "_law_turned" K.s__law_turned ["_law_script", "_law_n"]) := by
      dsimp only [L2.KOf]
      refine' L2.dn_mk2 KX G ?a ?l ?c ?k rfl (fun _ _ _ _ _ _ _ _ => rfl)
      (case a => k_is); (case l => k_is); (case c => k_is); (case k => k_is)
    obtain ⟨d__law_turned⟩ := d__law_turned
    have d__law_kept : Nonempty (L2.Dn (L2.KOf KX) mg "_law_kept" K.s__law_kept ["_law_old", "_law_cell_here"]) := by
      dsimp only [L2.KOf]
      refine' L2.dn_mk2 KX G ?a ?l ?c ?k rfl (fun _ _ _ _ _ _ _ _ => rfl)
      (case a => k_is); (case l => k_is); (case c => k_is); (case k => k_is)
    obtain ⟨d__law_kept⟩ := d__law_kept
    have d__law_tree : Nonempty (L2.Dn (L2.KOf KX) mg "_law_tree" K.s__law_tree ["_law_script", "_law_turned_here", "_law_many"]) := by
      dsimp only [L2.KOf]
      refine' L2.dn_mk3 KX G ?a ?l ?c ?k rfl (fun _ _ _ _ _ _ _ _ _ => rfl)
      (case a => k_is); (case l => k_is); (case c => k_is); (case k => k_is)
    obtain ⟨d__law_tree⟩ := d__law_tree
    have d__law_near : Nonempty (L2.Dn (L2.KOf KX) mg "_law_near" K.s__law_near ["_law_script", "_law_rows", "_law_n"]) := by
      dsimp only [L2.KOf]
      refine' L2.dn_mk3 KX G ?a ?l ?c ?k rfl (fun _ _ _ _ _ _ _ _ _ => rfl)
      (case a => k_is); (case l => k_is); (case c => k_is); (case k => k_is)
    obtain ⟨d__law_near⟩ := d__law_near
    have d__law_rim : Nonempty (L2.Dn (L2.KOf KX) mg "_law_rim" K.s__law_rim ["_law_near_here", "_law_part"]) := by
      dsimp only [L2.KOf]
      refine' L2.dn_mk2 KX G ?a ?l ?c ?k rfl (fun _ _ _ _ _ _ _ _ => rfl)
      (case a => k_is); (case l => k_is); (case c => k_is); (case k => k_is)
    obtain ⟨d__law_rim⟩ := d__law_rim
    have d__law_parts : Nonempty (L2.Dn (L2.KOf KX) mg "_law_parts" K.s__law_parts ["_law_script", "_law_near_here"]) := by
      dsimp only [L2.KOf]
      refine' L2.dn_mk2 KX G ?a ?l ?c ?k rfl (fun _ _ _ _ _ _ _ _ => rfl)
      (case a => k_is); (case l => k_is); (case c => k_is); (case k => k_is)
    obtain ⟨d__law_parts⟩ := d__law_parts
    have d__law_meets : Nonempty (L2.Dn (L2.KOf KX) mg "_law_meets" K.s__law_meets ["_law_row", "_law_parts_here"]) := by
      dsimp only [L2.KOf]
      refine' L2.dn_mk2 KX G ?a ?l ?c ?k rfl (fun _ _ _ _ _ _ _ _ => rfl)
      (case a => k_is); (case l => k_is); (case c => k_is); (case k => k_is)
    obtain ⟨d__law_meets⟩ := d__law_meets
    have d_law : Nonempty (L2.Dn (L2.KOf KX) mg "law" K.s_law ["_law_script"]) := by
      dsimp only [L2.KOf]
      refine' L2.dn_mk1 KX G ?a ?l ?c ?k rfl (fun _ _ _ _ _ _ _ => rfl)
      (case a => k_is); (case l => k_is); (case c => k_is); (case k => k_is)
    obtain ⟨d_law⟩ := d_law
    exact L2.law_at hmg d_law fun base => K.ok_law B d_is_whole d_is_below d_common d_rooted d_neighbours d_meeting d__law_cell d__law_mixed d__law_turned d__law_kept d__law_tree d__law_near d__law_rim d__law_parts d__law_meets d_law
  case S => exact fun K H a ns hl hO hS => ⟨a, ns, rfl, Lw.Scr.of hO hS, hl, fun _ => rfl⟩
  case C => exact fun _ _ _ _ z => z

