import PyProof.Rows.All
import Wide.All
import OpenK.AllK
import Wide.FinOn
import Lean
import PyProof.EqAt
import PyProof.EqKinds
import PyProof.TupleCall
import PyProof.SetScanFacts
import PyProof.SetKind
import PyProof.DictKinds
import PyProof.FactsAll.set_0
import PyProof.FactsAll.set_1
import PyProof.FactsAll.set_2
import PyProof.FactsAll.set_3
import PyProof.FactsSeq
import PyProof.CollectWalk
import PyProof.ListRange
import PyProof.ZipIter
import PyProof.MeetsSeq
import PyProof.IsRules
import PyProof.Rows.ZipGen
import PyProof.SumWalkG
import PyProof.DictWalks
import PyProof.Rows.SortShell
import PyProof.Rows.SetFrom
import PyProof.SetRoads
import KE.KIntText
import KE.IntTextLaws
import PyProof.StrWalks
import PyProof.StrOps2
import PyProof.SliceStr2
import PyProof.PureStr
import PyProof.StrCalls3
import PyProof.Rows.StrMadeLen
import PyProof.StrLawsIn
import PySem.Challenge.RW_bagwood_k42_whole_grown_or_ordered
set_option Elab.async false
set_option linter.all false
set_option maxRecDepth 100000
local macro_rules | `(tactic| omega) => `(tactic| first | lia | omega (config := {}))
abbrev Φρ := PySem.W.Frag
abbrev ζζ := Int × Int
theorem τα {α : Type} {l : List α} {i : Nat} {a : α} : l.getD i a = l[i]?.getD a := List.getD_eq_getElem?_getD ..
namespace L2
open PySem PySem.Spec PyProof.Rows
abbrev Key := Sum Int Str
def c5S : Key -> Value -> Bool
 | .inl k, v => Value.isInt k v
 | .inr x, v => Value.isStrOf x v
def keyH (w : World) : Key -> Int
 | .inl k => hashInt k
 | .inr x => hashStr w x
theorem a1N : ∀ {k : Key} {v : Value}, c5S k v = true -> (∃ i t, k = Sum.inl i /\ v = Value.int i t) \/ (∃ x t, k = Sum.inr x /\ v = Value.str x t)
 | .inl i, v, h => by
  obtain ⟨t, e⟩ := Value.isInt_shape (k := i) (v := v) h
  exact .inl ⟨i, t, rfl, e⟩
 | .inr x, v, h => by
  obtain ⟨t, e⟩ := Value.isStrOf_shape (x := x) (v := v) h
  exact .inr ⟨x, t, rfl, e⟩
theorem c5T (a b : Int) : decide ((Sum.inl a : Key) = Sum.inl b) = (a == b) := by
 by_cases e : a = b
 ·subst e; simp
 ·have h : ¬ (Sum.inl a : Key) = Sum.inl b := fun q => e (Sum.inl.inj q)
  rw [decide_eq_false h]
  exact (beq_eq_false_iff_ne.mpr e).symm
theorem c5U (a b : Str) : decide ((Sum.inr a : Key) = Sum.inr b) = decide (a = b) := by
 by_cases e : a = b
 ·subst e; simp
 ·have h : ¬ (Sum.inr a : Key) = Sum.inr b := fun q => e (Sum.inr.inj q)
  rw [decide_eq_false h, decide_eq_false e]
theorem c5V (a : Int) (b : Str) : decide ((Sum.inl a : Key) = Sum.inr b) = false := decide_eq_false (fun q => nomatch q)
theorem c5W (a : Str) (b : Int) : decide ((Sum.inr a : Key) = Sum.inl b) = false := decide_eq_false (fun q => nomatch q)
def b2K (prog : Program) (w : World) : PySem.KeyKind prog w Key where
 is := c5S
 hash := keyH w
 inj := fun v a b ha hb => by
  rcases a1N ha with ⟨i, t, rfl, rfl⟩ | ⟨x, t, rfl, rfl⟩
  ·rcases a1N hb with ⟨j, u, rfl, e⟩ | ⟨y, u, rfl, e⟩
   ·injection e with e1 _; rw [e1]
   ·exact nomatch e
  ·rcases a1N hb with ⟨j, u, rfl, e⟩ | ⟨y, u, rfl, e⟩
   ·exact nomatch e
   ·injection e with e1 _; rw [e1]
 byValue := fun k v h => by
  rcases a1N h with ⟨i, t, rfl, rfl⟩ | ⟨x, t, rfl, rfl⟩ <;> rfl
 pyHash := fun hv h => by
  rcases a1N hv with ⟨i, t, rfl, rfl⟩ | ⟨x, t, rfl, rfl⟩
  ·exact wpAny_pyHash_int h
  ·exact wpAny_pyHash_str h
 eqBool := fun hu hv h => by
  rcases a1N hu with ⟨i, t, rfl, rfl⟩ | ⟨x, t, rfl, rfl⟩
  ·rcases a1N hv with ⟨j, u, rfl, rfl⟩ | ⟨y, u, rfl, rfl⟩
   ·rw [c5T] at h; exact wpAny_eqBool_int h
   ·rw [c5V] at h; exact SeqAt.EqAt.int_str i t y u _ _ _ _ h
  ·rcases a1N hv with ⟨j, u, rfl, rfl⟩ | ⟨y, u, rfl, rfl⟩
   ·rw [c5W] at h; exact SeqAt.EqAt.str_int x t j u _ _ _ _ h
   ·rw [c5U] at h; exact wpAny_eqBool_str h
 «strs» := fun k x t v h => by
  rcases a1N h with ⟨i, u, rfl, e⟩ | ⟨y, u, rfl, e⟩
  ·exact nomatch e
  ·injection e with e1 _
   subst e1
   cases v <;> rfl
end L2
namespace L2
open PySem PySem.Spec PyProof.Rows
inductive V where
 | non | bl (b : Bool) | int (i : Int) | str (x : Str) | byt (b : Array UInt8) | flt (b : UInt64) | ref (a : Addr) | ty (n : String)
 deriving DecidableEq
def RelV : V -> Value -> Prop
 | .non, u => u = Value.none
 | .bl b, u => u = Value.bool b
 | .int i, u => ∃ t, u = Value.int i t
 | .str x, u => ∃ t, u = Value.str x t
 | .byt b, u => ∃ t, u = Value.bytes b t
 | .flt b, u => ∃ t, u = Value.float b t
 | .ref a, u => u = Value.ref a
 | .ty n, u => u = Value.type n
abbrev Vals : List V -> List Value -> Prop := Paired RelV
theorem Vals.length {xs : List V} {us : List Value} (r : Vals xs us) : xs.length = us.length := Paired.length r
theorem Vals.get : ∀ {xs : List V} {us : List Value} {i : Nat} {x : V}, Vals xs us -> xs[i]? = some x -> ∃ u, us[i]? = some u /\ RelV x u
 | _, _, _, _, .nil, e => by simp at e
 | _, _, 0, _, .cons r _, e => by simp at e; subst e; exact ⟨_, rfl, r⟩
 | _, _, i + 1, x, .cons _ t, e => by
  obtain ⟨u, h1, h2⟩ := Vals.get (i := i) (x := x) t (by simpa using e)
  exact ⟨u, by simpa using h1, h2⟩
theorem Vals.set {x : V} {u : Value} (r : RelV x u) : ∀ {xs : List V} {us : List Value} (i : Nat), Vals xs us -> Vals (xs.set i x) (us.set i u)
 | _, _, _, .nil => .nil
 | _, _, 0, .cons _ t => .cons r t
 | _, _, i + 1, .cons q t => .cons q (Vals.set r i t)
theorem Vals.append : ∀ {xs ys : List V} {us ws : List Value}, Vals xs us -> Vals ys ws -> Vals (xs ++ ys) (us ++ ws)
 | _, _, _, _, .nil, s => s
 | _, _, _, _, .cons r t, s => .cons r (Vals.append t s)
theorem Vals.take : ∀ {xs : List V} {us : List Value} (n : Nat), Vals xs us -> Vals (xs.take n) (us.take n)
 | _, _, 0, _ => .nil
 | _, _, _ + 1, .nil => .nil
 | _, _, n + 1, .cons r t => .cons r (Vals.take n t)
theorem Vals.drop : ∀ {xs : List V} {us : List Value} (n : Nat), Vals xs us -> Vals (xs.drop n) (us.drop n)
 | _, _, 0, r => r
 | _, _, _ + 1, .nil => .nil
 | _, _, n + 1, .cons _ t => Vals.drop n t
def RelO : Option V -> Option Value -> Prop
 | some v, some u => RelV v u
 | none, none => True
 | _, _ => False
def KV {κ : Type} : List (κ × V) -> List (κ × Value) -> Prop := Paired fun (p : κ × V) (q : κ × Value) => p.1 = q.1 /\ RelV p.2 q.2
def kV : Key -> V
 | .inl i => .int i
 | .inr x => .str x
inductive HO where
  | lst (xs : List V)
  | tup (xs : List V)
  | dK (kvs : List (Key × V)) | dT (kvs : List (List Key × V))
  | set (S : Int -> Bool) (n : Nat)
  | ins (C dx : Addr) (fs : List (Str × V))
  | own (x : Addr)
  | xd (fs : List (Str × V))
  | met (f x : Addr)
  | rng (lo hi : Int)
  | frz (o : Obj) (u : HO)
  | tbl (ps : Array Value)
  | ext (φ : Heap -> Prop)
abbrev Hp := Addr -> Option HO
def upd (H : Hp) (a : Addr) (o : HO) : Hp := fun b => if b = a then some o else H b
theorem a4U {H : Hp} {a : Addr} {o : HO} : upd H a o a = some o := by unfold upd; rw [if_pos rfl]
theorem a1M {H : Hp} {a b : Addr} {o : HO} (h : b ≠ a) : upd H a o b = H b := by unfold upd; rw [if_neg h]
theorem c8C {H : Hp} {a b : Addr} {o u : HO} (h : H a = some o) (h' : H b = some u) (d : o ≠ u) : a ≠ b := by
 intro e; subst e; rw [h] at h'; exact d (Option.some.inj h')
theorem a1F {H : Hp} {a b : Addr} {o : HO} (h : H a = some o) (h' : H b = none) : a ≠ b := by
 intro e; subst e; rw [h] at h'; cases h'
section
variable (P : Program) (w : World)
def ObjOk (H : Hp) (h : Heap) (a : Addr) : HO -> Prop
 | .lst xs => xs.length <= sizeLine /\ ∃ (its : List Value) (n : Nat), Vals xs its /\ h.get? a = some { cls := .type "list", data := .seq its.toArray n }
 | .tup xs => xs.length <= sizeLine /\ ∃ its : List Value, Vals xs its /\ IsTup h a its.toArray
 | .dK kvs => kvs.length <= sizeLine /\ (a == sysModules) = false /\ ∃ vs, KV kvs vs /\ h.DictOf (b2K P w) a vs
 | .dT kvs => kvs.length <= sizeLine /\ (a == sysModules) = false /\ ∃ xs : List (List Key × Addr × Value),
   Paired (fun (p : List Key × V) (q : List Key × Addr × Value) => p.1 = q.1 /\ H q.2.1 = some (.tup (p.1.map kV)) /\ RelV p.2 q.2.2) kvs xs /\
   ∃ o es ep, h.get? a = some o /\ o.ExactDict /\ o.data = .dict es ep /\ es.toList = xs.map (entryOfKey (tupleKind (b2K P w))) /\ (xs.map (·.1)).Nodup
 | .set S n => h.SetOf (intKind P w) a S n
 | .ins C dx fs => H dx = some (.own a) /\ fs.length <= 1000 /\ dx ≠ a /\ h.get? a = some (PySem.W.instObj C dx) /\
   ∃ mA, h.Ns1 dx mA /\ (∀ f, RelO (fs.lookup f) (mA f)) /\ PySem.Within mA (fs.map (·.1))
 | .own _ => ∃ o, h.get? a = some o
 | .xd fs => ∃ mA, h.Ns1 a mA /\ ∀ f, RelO (fs.lookup f) (mA f)
 | .rng lo hi => ∃ t u v, h.get? a = some { cls := .type "range", data := .fields #[.int lo t, .int hi u, .int 1 v] }
 | .frz o u => h.get? a = some o /\ ObjOk H h a u
 | .tbl ps => h.get? a = some { cls := .none, data := .fields ps }
 | .met f x => h.get? a = some (PySem.W.methodObj (.ref f) (.ref x))
 | .ext φ => φ h /\ (∃ o, h.get? a = some o) /\ ∀ h1 h2 : Heap, φ h1 -> (∀ o, h1.get? a = some o -> h2.get? a = some o) -> φ h2
def HOk (H : Hp) (h : Heap) : Prop := ∀ a o, H a = some o -> ObjOk P w H h a o
end
section
variable {P : Program} {w : World} {H H' : Hp} {h h' : Heap} {a : Addr} {o : HO}
theorem ObjOk.lt (x : ObjOk P w H h a o) : a < h.objs.size := by
 cases o with
 | lst xs => obtain ⟨_, _, _, _, e⟩ := x; exact Heap.lt_size e
 | tup xs => obtain ⟨_, _, _, p⟩ := x; exact p.lt
 | dK kvs => obtain ⟨_, _, _, _, o, _, _, e, _⟩ := x; exact Heap.lt_size e
 | dT kvs => obtain ⟨_, _, _, _, o, _, _, e, _⟩ := x; exact Heap.lt_size e
 | set S n => obtain ⟨o, _, _, _, e, _⟩ := x; exact Heap.lt_size e
 | ins C dx fs => obtain ⟨_, _, _, e, _⟩ := x; exact Heap.lt_size e
 | own y => obtain ⟨_, e⟩ := x; exact Heap.lt_size e
 | xd fs => obtain ⟨_, ⟨_, _, _, e, _⟩, _⟩ := x; exact Heap.lt_size e
 | rng lo hi => obtain ⟨_, _, _, e⟩ := x; exact Heap.lt_size e
 | frz ob u => obtain ⟨e, _⟩ := x; exact Heap.lt_size e
 | tbl ps => exact Heap.lt_size (show h.get? a = some _ from x)
 | met f y => exact Heap.lt_size (show h.get? a = some _ from x)
 | ext φ => obtain ⟨_, ⟨_, e⟩, _⟩ := x; exact Heap.lt_size e
theorem Paired.mapP {α β : Type} {F G : α -> β -> Prop} : ∀ {l₁ : List α} {l₂ : List β}, Paired F l₁ l₂ -> (∀ a b, F a b -> G a b) -> Paired G l₁ l₂
 | _, _, .nil, _ => .nil
 | _, _, .cons r t, f => .cons (f _ _ r) (Paired.mapP t f)
theorem ObjOk.stay (x : ObjOk P w H h a o) (k : ∀ b u, (b = a \/ H b = some (.own a)) -> h.get? b = some u -> h'.get? b = some u)
  (ho : ∀ b, H b = some (.own a) -> H' b = some (.own a)) (ht : ∀ b xs, H b = some (.tup xs) -> H' b = some (.tup xs)) : ObjOk P w H' h' a o := by
 induction o with
 | lst xs => obtain ⟨z, its, n, r, e⟩ := x; exact ⟨z, its, n, r, k _ _ (.inl rfl) e⟩
 | tup xs => obtain ⟨z, its, r, ob, e, c⟩ := x; exact ⟨z, its, r, ob, k _ _ (.inl rfl) e, c⟩
 | dK kvs => obtain ⟨z, y, vs, r, ob, es, ep, e, c⟩ := x; exact ⟨z, y, vs, r, ob, es, ep, k _ _ (.inl rfl) e, c⟩
 | dT kvs =>
  obtain ⟨z, y, xs, r, ob, es, ep, e, c⟩ := x
  exact ⟨z, y, xs, Paired.mapP r fun p q z => ⟨z.1, ht _ _ z.2.1, z.2.2⟩, ob, es, ep, k _ _ (.inl rfl) e, c⟩
 | set S n => obtain ⟨ob, es, ep, t, e, c⟩ := x; exact ⟨ob, es, ep, t, k _ _ (.inl rfl) e, c⟩
 | ins C dx fs =>
  obtain ⟨d, z, ne, e, mA, ⟨od, es, ep, e2, c⟩, r⟩ := x
  exact ⟨ho _ d, z, ne, k _ _ (.inl rfl) e, mA, ⟨od, es, ep, k _ _ (.inr d) e2, c⟩, r⟩
 | own y => obtain ⟨ob, e⟩ := x; exact ⟨ob, k _ _ (.inl rfl) e⟩
 | xd fs => obtain ⟨mA, ⟨od, es, ep, e, c⟩, r⟩ := x; exact ⟨mA, ⟨od, es, ep, k _ _ (.inl rfl) e, c⟩, r⟩
 | rng lo hi => obtain ⟨t, u, v, e⟩ := x; exact ⟨t, u, v, k _ _ (.inl rfl) e⟩
 | frz ob u ih => obtain ⟨e, q⟩ := x; exact ⟨k _ _ (.inl rfl) e, ih q⟩
 | tbl ps =>
  have e : h.get? a = some { cls := .none, data := .fields ps } := x
  show h'.get? a = some { cls := .none, data := .fields ps }
  exact k a _ (.inl rfl) e
 | met f y =>
  have e : h.get? a = some (PySem.W.methodObj (.ref f) (.ref y)) := x
  show h'.get? a = some (PySem.W.methodObj (.ref f) (.ref y))
  exact k a _ (.inl rfl) e
 | ext φ => obtain ⟨p, ⟨o, e⟩, st⟩ := x; exact ⟨st _ _ p fun o q => k _ _ (.inl rfl) q, ⟨o, k _ _ (.inl rfl) e⟩, st⟩
theorem HOk.lt (x : HOk P w H h) (e : H a = some o) : a < h.objs.size := (x a o e).lt
theorem HOk.fresh (x : HOk P w H h) (e : h.objs.size <= a) : H a = none := by
 cases q : H a with
 | none => rfl
 | some u => exact absurd (Nat.lt_of_lt_of_le (x.lt q) e) (Nat.lt_irrefl _)
theorem HOk.kept (x : HOk P w H h) (k : ∀ b u, h.get? b = some u -> h'.get? b = some u) : HOk P w H h' := fun a o e =>
 (x a o e).stay (fun b u _ q => k b u q) (fun _ q => q) fun _ _ q => q
theorem HOk.laid (x : HOk P w H h) (k : ∀ b u, h.get? b = some u -> h'.get? b = some u) (hp : h.objs.size <= a) (new : ObjOk P w (upd H a o) h' a o) : HOk P w (upd H a o) h' := fun b u e => by
 have hn := x.fresh hp
 by_cases hb : b = a
 ·subst hb; rw [a4U] at e; cases e; exact new
 ·rw [a1M hb] at e
  exact (x b u e).stay (fun c v _ q => k c v q) (fun c q => by rw [a1M (a1F q hn)]; exact q) fun c xs q => by rw [a1M (a1F q hn)]; exact q
end
def Rd (H : Hp) (a : Addr) (u : HO) : Prop := H a = some u \/ ∃ o, H a = some (.frz o u)
theorem Rd.ok {P : Program} {w : World} {H : Hp} {h : Heap} {a : Addr} {u : HO} (r : Rd H a u) (x : HOk P w H h) : ObjOk P w H h a u := by
 rcases r with r | ⟨o, r⟩
 ·exact x a u r
 ·obtain ⟨_, q⟩ := x a _ r
  exact q
def Mut : Option HO -> Prop
 | some (.lst _) => True
 | some (.dK _) => True
 | some (.dT _) => True
 | some (.set _ _) => True
 | some (.ins _ _ _) => True
 | some (.ext _) => True
 | _ => False
section
variable {P : Program} {w : World} {H : Hp} {h h' : Heap} {x e : Addr} {o' : HO}
theorem HOk.write (ok : HOk P w H h) (mu : Mut (H x)) (he : e = x \/ H e = some (.own x)) (k : ∀ b u, b ≠ e -> h.get? b = some u -> h'.get? b = some u) (heo : ∃ u, h'.get? e = some u)
  (new : ObjOk P w (upd H x o') h' x o') : HOk P w (upd H x o') h' := fun b u q => by
 have nown : ∀ c y, H c = some (.own y) -> c ≠ x := fun c y r z => by subst z; rw [r] at mu; exact mu
 have ntup : ∀ c xs, H c = some (.tup xs) -> c ≠ x := fun c xs r z => by subst z; rw [r] at mu; exact mu
 by_cases hb : b = x
 ·subst hb; rw [a4U] at q; cases q; exact new
 ·rw [a1M hb] at q
  by_cases hbe : b = e
  ·have q' : H b = some (.own x) := by
    rcases he with z | z
    ·exact absurd (hbe.trans z) hb
    ·rw [hbe]; exact z
   rw [q] at q'; cases q'
   obtain ⟨v, hv⟩ := heo
   exact ⟨v, by rw [hbe]; exact hv⟩
  ·refine (ok b u q).stay (fun c v hc r => k c v ?_ r) (fun c r => by rw [a1M (nown c b r)]; exact r) fun c xs r => by rw [a1M (ntup c xs r)]; exact r
   rcases hc with rfl | hc
   ·exact hbe
   ·rintro rfl
    rcases he with z | z
    ·exact nown c b hc z
    ·rw [hc] at z; cases z; exact hb rfl
end
structure Un (fs ex : List Addr) (H H' : Hp) (h h' : Heap) : Prop where
 keep : ∀ b o, h.get? b = some o -> H b = none -> b ∉ fs -> b ∉ ex -> h'.get? b = some o
 slot : ∀ b o, h.get? b = some o -> H b = none -> b ∈ fs -> b ∉ ex -> ∃ sl, h'.get? b = some { o with slots := sl }
 free : ∀ b o, h.get? b = some o -> H b = none -> b ∉ ex -> H' b = none
 there : ∀ b o, h.get? b = some o -> b ∉ ex -> ∃ o', h'.get? b = some o'
 tups : ∀ b xs, H b = some (.tup xs) -> H' b = some (.tup xs)
 frzs : ∀ b o u, H b = some (.frz o u) -> H' b = some (.frz o u)
 tbls : ∀ b ps, H b = some (.tbl ps) -> ∃ more, H' b = some (.tbl (ps ++ more))
section
variable {fs fs' ex ex' : List Addr} {H H1 H2 : Hp} {h h1 h2 h' : Heap} {a x e : Addr} {o : HO}
theorem Un.any (u : Un fs ex H H1 h h1) {b : Addr} {ob : Obj} (q : h.get? b = some ob) (n : H b = none) (hx : b ∉ ex) : ∃ sl, h1.get? b = some { ob with slots := sl } := by
 by_cases hb : b ∈ fs
 ·exact u.slot b ob q n hb hx
 ·exact ⟨ob.slots, u.keep b ob q n hb hx⟩
theorem Un.kept (k : ∀ b u, h.get? b = some u -> h'.get? b = some u) : Un fs ex H H h h' :=
 ⟨fun b ob q _ _ _ => k b ob q, fun b ob q _ _ _ => ⟨ob.slots, k b ob q⟩, fun _ _ _ n _ => n, fun b ob q _ => ⟨ob, k b ob q⟩, fun _ _ q => q, fun _ _ _ q => q, fun _ ps q => ⟨#[], by rw [q]; simp⟩⟩
theorem Un.refl : Un fs ex H H h h := Un.kept fun _ _ q => q
theorem Un.laid (k : ∀ b u, h.get? b = some u -> h'.get? b = some u) (hp : h.objs.size <= a) (hn : H a = none) : Un fs ex H (upd H a o) h h' where
 keep := fun b u q _ _ _ => k b u q
 slot := fun b u q _ _ _ => ⟨u.slots, k b u q⟩
 free := fun b u q n _ => by rw [a1M (Nat.ne_of_lt (Nat.lt_of_lt_of_le (Heap.lt_size q) hp))]; exact n
 there := fun b u q _ => ⟨u, k b u q⟩
 tups := fun b xs q => by rw [a1M (a1F q hn)]; exact q
 frzs := fun b u xs q => by rw [a1M (a1F q hn)]; exact q
 tbls := fun b ps q => ⟨#[], by rw [a1M (a1F q hn), q]; simp⟩
theorem Un.write (mu : Mut (H x)) (he : e = x \/ H e = some (.own x)) (k : ∀ b u, b ≠ e -> h.get? b = some u -> h'.get? b = some u) (heo : ∃ u, h'.get? e = some u) : Un fs ex H (upd H x o) h h' := by
 have hx : ∀ b, H b = none -> b ≠ x := fun b n z => by subst z; rw [n] at mu; exact mu
 have hb : ∀ b, H b = none -> b ≠ e := fun b n z => by
  subst z
  rcases he with r | r
  ·exact hx b n r
  ·rw [n] at r; cases r
 have hm : ∀ b u, H b = some u -> ¬ Mut (some u) -> b ≠ x := fun b u q nm z => by subst z; rw [q] at mu; exact nm mu
 refine ⟨fun b u q n _ _ => k b u (hb b n) q, fun b u q n _ _ => ⟨u.slots, k b u (hb b n) q⟩, fun b u q n _ => by rw [a1M (hx b n)]; exact n, fun b u q _ => ?_,
  fun b xs q => by rw [a1M (hm b _ q fun z => z)]; exact q, fun b u xs q => by rw [a1M (hm b _ q fun z => z)]; exact q, fun b ps q => ⟨#[], by rw [a1M (hm b _ q fun z => z), q]; simp⟩⟩
 by_cases hbe : b = e
 ·subst hbe; exact heo
 ·exact ⟨u, k b u hbe q⟩
end
def trk (h : Heap) (H : Hp) : List Addr := (List.range h.objs.size).filter fun a => (H a).isSome
def hidT (h : Heap) (H : Hp) : Heap := PySem.W.hideAll h (trk h H)
theorem b6F (h : Heap) (H : Hp) : (hidT h H).objs.size = h.objs.size := PySem.W.hideAll_size _ _
theorem c0B {h : Heap} {H : Hp} {b : Addr} {o : Obj} (e : h.get? b = some o) (n : H b = none) : (hidT h H).get? b = some o :=
 PySem.W.hideAll_get _ e fun hm => by
  have q : (H b).isSome = true := (List.mem_filter.mp hm).2
  rw [n] at q; simp at q
theorem c2Z {h : Heap} {H : Hp} {b : Addr} {o : Obj} (e : (hidT h H).get? b = some o) : h.get? b = some o /\ H b = none := by
 have e' : h.get? b = some o := PySem.W.of_hideAll (trk h H) e
 refine ⟨e', ?_⟩
 cases q : H b with
 | none => rfl
 | some x =>
  have hm : b ∈ trk h H := List.mem_filter.mpr ⟨List.mem_range.mpr (Heap.lt_size e'), by simp [q]⟩
  have z : (hidT h H).get? b = none := PySem.W.hideAll_none (trk h H) hm
  rw [z] at e; cases e
end L2
namespace L2
open PySem PySem.Spec PyProof.Rows
structure Mod (K : Φρ) (mg : Str -> Option Value) (base : Heap) : Prop where
 kin : K.In base
 glob : base.Ns mainGlobals mg
 blt : ∃ mb, base.Ns builtinsNs mb /\ ∀ x : Str, x ≠ "__name__" -> mb x = bootBuiltins x
 nolimit : base.NoLimit
structure Cx where
 prog : Program
 w : World
 K : Φρ
 mg : Str -> Option Value
 base : Heap
 A : Around
 N : List Str
 s₀ : Shared
 H₀ : Hp
 env : Env
 outer : List Env
 stack : List Env
 ex : List Addr
 fn : Str -> Bool
 calm : Bool
 pn : List (Addr × Obj)
 xe : Value -> Shared -> Prop
def frs (l : List Env) : List Addr := l.filterMap (·.frame)
abbrev Cx.fs (X : Cx) : List Addr := frs X.outer
def Vis (sc : Scope) (x : Str) : Prop := sc.names.lookup x = some .local \/ sc.names.lookup x = some .cell \/ sc.names.lookup x = some .free
def Loc (sc : Scope) (x : Str) : Prop := sc.names.lookup x = some .local \/ sc.names.lookup x = some .cell
def Look (env : Env) (h : Heap) (m : Str -> Option Value) (x : Str) (u : Value) : Prop :=
 (env.kindOf x = some .local /\ m x = some u) \/ ((env.kindOf x = some .cell \/ env.kindOf x = some .free) /\ ∃ c, env.cells.lookup x = some c /\ h.IsCell c (some u))
structure Cx.Ok (X : Cx) : Prop where
 mod : Mod X.K X.mg X.base
 kind : X.env.scope.kind = .function
 glob : X.env.globals = mainGlobals
 blt : X.env.builtins = builtinsNs
 above : X.s₀.heap.objs.size <= X.env.locals
 inj : ∀ x y c, X.env.cells.lookup x = some c -> X.env.cells.lookup y = some c -> x = y
 has : ∀ x, (X.env.kindOf x = some .cell \/ X.env.kindOf x = some .free) -> ∃ c, X.env.cells.lookup x = some c
 cab : ∀ x c, X.fn x = true -> X.env.cells.lookup x = some c -> X.s₀.heap.objs.size <= c
 hd : X.calm = true -> X.A.handled = none
 frames : X.A.frames = some X.stack
 stk : X.stack = X.outer \/ (X.stack = X.env :: X.outer /\ X.env.frame = some X.env.locals)
 exf : ∀ b ∈ X.ex, b ≠ X.env.locals /\ ∀ x c, X.env.cells.lookup x = some c -> c ≠ b
 bs : ∀ b o, X.base.get? b = some o -> X.s₀.heap.get? b = some o /\ X.H₀ b = none
 bsz : X.base.objs.size <= X.s₀.heap.objs.size
 noex : ∀ b o, X.base.get? b = some o -> b ∉ X.ex
 exfs : ∀ b ∈ X.ex, b ∉ X.fs
 funs : X.s₀.heap.FunFrames X.base X.outer
 frf : ∀ b ∈ X.fs, X.H₀ b = none
structure Inv (X : Cx) (pins : List (Addr × Obj)) (σ : List (Option V)) (H : Hp) (s : Shared) : Prop where
 ok : X.Ok
 os : s.os = X.s₀.os
 bare : AllBare s.gens
 base : Un X.fs X.ex X.H₀ H X.s₀.heap s.heap
 loc : ∃ m, s.heap.Ns X.env.locals m /\ ∀ (i : Nat) (x : Str) (v : V), X.N[i]? = some x -> σ[i]? = some (some v) -> Vis X.env.scope x -> ∃ u, RelV v u /\ Look X.env s.heap m x u
 cell : ∀ x c, X.env.cells.lookup x = some c -> ∃ v, s.heap.IsCell c v
 free : H X.env.locals = none
 freeC : ∀ x c, X.env.cells.lookup x = some c -> H c = none
 pin : ∀ p ∈ X.pn ++ pins, s.heap.get? p.1 = some p.2 /\ H p.1 = none /\ p.1 ≠ X.env.locals /\ p.1 ∉ X.fs /\ ∀ v, p.2.data ≠ .cell v
 hok : HOk X.prog X.w H s.heap
 len : σ.length = X.N.length
section
variable {X : Cx} {pins : List (Addr × Obj)} {σ : List (Option V)} {H H' : Hp} {s : Shared} {h' : Heap}
theorem Cx.Ok.nofr (ok : X.Ok) {b : Addr} {o : Obj} (e : X.base.get? b = some o) : b ∉ X.fs := fun hb => by
 have := (ok.funs.mem hb).1
 rw [e] at this; cases this
theorem Inv.bs (I : Inv X pins σ H s) : ∀ b o, X.base.get? b = some o -> s.heap.get? b = some o /\ H b = none := fun b o e =>
 ⟨I.base.keep b o (I.ok.bs b o e).1 (I.ok.bs b o e).2 (I.ok.nofr e) (I.ok.noex b o e), I.base.free b o (I.ok.bs b o e).1 (I.ok.bs b o e).2 (I.ok.noex b o e)⟩
theorem Inv.bk (I : Inv X pins σ H s) : ∀ b o, X.base.get? b = some o -> s.heap.get? b = some o := fun b o e => (I.bs b o e).1
theorem Inv.mod (I : Inv X pins σ H s) : Mod X.K X.mg X.base := I.ok.mod
theorem Inv.kIn (I : Inv X pins σ H s) : X.K.In s.heap := I.ok.mod.kin.keeps I.bk
theorem Inv.lt (I : Inv X pins σ H s) : X.env.locals < s.heap.objs.size := let ⟨_, hn, _⟩ := I.loc; hn.lt
theorem Inv.sz (I : Inv X pins σ H s) : X.s₀.heap.objs.size <= s.heap.objs.size := Nat.le_trans I.ok.above (Nat.le_of_lt I.lt)
theorem Inv.nofs (I : Inv X pins σ H s) {a : Addr} (h : s.heap.objs.size <= a) : a ∉ X.fs := fun hb => by
 obtain ⟨_, o, ho, _⟩ := I.ok.funs.mem hb
 exact absurd (Nat.lt_of_lt_of_le (Heap.lt_size ho) (Nat.le_trans I.sz h)) (Nat.lt_irrefl _)
theorem Inv.cne (I : Inv X pins σ H s) : ∀ x c, X.env.cells.lookup x = some c -> c ≠ X.env.locals := fun x c e z => by
 obtain ⟨v, o, ho, hd⟩ := I.cell x c e
 obtain ⟨m, ⟨o', es, ep, ho', hd', _⟩, _⟩ := I.loc
 rw [z, ho'] at ho; cases ho; rw [hd'] at hd; cases hd
theorem Inv.funs (I : Inv X pins σ H s) : s.heap.FunFrames X.base X.outer := by
 have all : ∀ (l : List Env), (∀ b ∈ frs l, b ∈ X.fs) -> X.s₀.heap.FunFrames X.base l -> s.heap.FunFrames X.base l := by
  intro l
  induction l with
  | nil => intro _ _; trivial
  | cons env r ih =>
   intro hs hl
   obtain ⟨hk, ⟨L, o, hf, hn, ho, hd⟩, hr⟩ := hl
   have hL : L ∈ X.fs := hs L (by unfold frs; rw [List.filterMap_cons, hf]; exact List.mem_cons_self)
   obtain ⟨sl, e⟩ := I.base.slot L o ho (I.ok.frf L hL) hL fun z => I.ok.exfs L z hL
   exact ⟨hk, ⟨L, _, hf, hn, e, hd⟩, ih (fun b hb => hs b (by unfold frs; rw [List.filterMap_cons, hf]; exact List.mem_cons_of_mem _ hb)) hr⟩
 exact all X.outer (fun _ hb => hb) I.ok.funs
theorem Inv.stack (I : Inv X pins σ H s) : s.heap.FunFrames X.base X.stack := by
 rcases I.ok.stk with e | ⟨e, hf⟩
 ·rw [e]; exact I.funs
 ·rw [e]
  obtain ⟨m, hn, _⟩ := I.loc
  refine .cons (by rw [I.ok.kind]; decide) hf hn ?_ I.funs
  exact Heap.get?_none_of_le (Nat.le_trans I.ok.bsz I.ok.above)
theorem Inv.stkSub (I : Inv X pins σ H s) : ∀ b ∈ frs X.stack, b ∈ X.env.locals :: X.fs := fun b hb => by
 rcases I.ok.stk with e | ⟨e, hf⟩
 ·rw [e] at hb; exact List.mem_cons_of_mem _ hb
 ·rw [e] at hb
  unfold frs at hb
  rw [List.filterMap_cons, hf] at hb
  exact hb
theorem Inv.stkFree (I : Inv X pins σ H s) : ∀ b ∈ frs X.stack, H b = none := fun b hb => by
 rcases List.mem_cons.mp (I.stkSub b hb) with e | hb
 ·rw [e]; exact I.free
 ·obtain ⟨_, o, ho, _⟩ := I.ok.funs.mem hb
  exact I.base.free b o ho (I.ok.frf b hb) fun z => I.ok.exfs b z hb
theorem Inv.step {g' : Array GenState} {t' : Nat} {d' : Drawn} {ch : List Addr} (I : Inv X pins σ H s)
  (hch : ∀ b ∈ ch, (b ∈ X.ex \/ X.s₀.heap.objs.size <= b) /\ b ≠ X.env.locals /\ (∀ x c, X.env.cells.lookup x = some c -> c ≠ b) /\ ∀ p ∈ X.pn ++ pins, p.1 ≠ b)
  (keep : ∀ b o, b ≠ X.env.locals -> b ∉ X.fs -> b ∉ ch -> s.heap.get? b = some o -> H b = none -> h'.get? b = some o)
  (slot : ∀ b o, b ≠ X.env.locals -> b ∈ X.fs -> b ∉ ch -> s.heap.get? b = some o -> H b = none -> ∃ sl, h'.get? b = some { o with slots := sl }) (free : ∀ b o, b ∉ ch -> s.heap.get? b = some o -> H b = none -> H' b = none)
  (there : ∀ b o, b ∉ ch -> s.heap.get? b = some o -> ∃ o', h'.get? b = some o')
  (tups : ∀ b xs, H b = some (.tup xs) -> H' b = some (.tup xs)) (frzs : ∀ b o u, H b = some (.frz o u) -> H' b = some (.frz o u)) (tbls : ∀ b ps, H b = some (.tbl ps) -> ∃ more, H' b = some (.tbl (ps ++ more)))
  (ns : ∀ m, s.heap.Ns X.env.locals m -> h'.Ns X.env.locals m) (hok : HOk X.prog X.w H' h') (hg : AllBare g') :
  Inv X pins σ H' { s with heap := h', gens := g', drawn := d', toks := t' } := by
 have neL : ∀ b o, X.s₀.heap.get? b = some o -> b ≠ X.env.locals := fun b o e => Nat.ne_of_lt (Nat.lt_of_lt_of_le (Heap.lt_size e) I.ok.above)
 have neC : ∀ b o, X.s₀.heap.get? b = some o -> b ∉ X.ex -> b ∉ ch := fun b o e hx hb => by
  rcases (hch b hb).1 with z | z
  ·exact hx z
  ·exact absurd (Nat.lt_of_lt_of_le (Heap.lt_size e) z) (Nat.lt_irrefl _)
 have cellK : ∀ x c, X.env.cells.lookup x = some c -> ∀ v, s.heap.IsCell c v -> h'.IsCell c v := fun x c e v ⟨o, ho, hd⟩ => by
  have nch : c ∉ ch := fun z => (hch c z).2.2.1 x c e rfl
  by_cases hc : c ∈ X.fs
  ·obtain ⟨sl, q⟩ := slot c o (I.cne x c e) hc nch ho (I.freeC x c e)
   exact ⟨_, q, hd⟩
  ·exact ⟨o, keep c o (I.cne x c e) hc nch ho (I.freeC x c e), hd⟩
 refine ⟨I.ok, I.os, hg, ⟨fun b o e n hb hx => ?_, fun b o e n hb hx => ?_, fun b o e n hx => ?_, fun b o e hx => ?_, fun b xs e => tups b xs (I.base.tups b xs e), fun b o xs e => frzs b o xs (I.base.frzs b o xs e), fun b ps e => ?_⟩, ?_, fun x c e => ?_, ?_, fun x c e => ?_, fun p hp => ?_, hok, I.len⟩
 ·exact keep b o (neL b o e) hb (neC b o e hx) (I.base.keep b o e n hb hx) (I.base.free b o e n hx)
 ·obtain ⟨sl, e1⟩ := I.base.slot b o e n hb hx
  obtain ⟨sl', e2⟩ := slot b _ (neL b o e) hb (neC b o e hx) e1 (I.base.free b o e n hx)
  exact ⟨sl', e2⟩
 ·obtain ⟨o', e1⟩ := I.base.there b o e hx
  exact free b o' (neC b o e hx) e1 (I.base.free b o e n hx)
 ·obtain ⟨o', e1⟩ := I.base.there b o e hx
  exact there b o' (neC b o e hx) e1
 ·obtain ⟨m1, e1⟩ := I.base.tbls b ps e
  obtain ⟨m2, e2⟩ := tbls b _ e1
  exact ⟨m1 ++ m2, by rw [e2, Array.append_assoc]⟩
 ·obtain ⟨m, hn, hl⟩ := I.loc
  refine ⟨m, ns m hn, fun i x v e1 e2 e3 => ?_⟩
  obtain ⟨u, r, l⟩ := hl i x v e1 e2 e3
  refine ⟨u, r, ?_⟩
  rcases l with l | ⟨k, c, e, z⟩
  ·exact .inl l
  ·exact .inr ⟨k, c, e, cellK x c e _ z⟩
 ·obtain ⟨v, z⟩ := I.cell x c e
  exact ⟨v, cellK x c e v z⟩
 ·obtain ⟨m, ⟨o, _, _, ho, _⟩, _⟩ := I.loc
  exact free _ o (fun z => (hch _ z).2.1 rfl) ho I.free
 ·obtain ⟨v, o, ho, hd⟩ := I.cell x c e
  exact free c o (fun z => (hch c z).2.2.1 x c e rfl) ho (I.freeC x c e)
 ·obtain ⟨e, n, ne, nf, d⟩ := I.pin p hp
  have nch : p.1 ∉ ch := fun z => (hch p.1 z).2.2.2 p hp rfl
  exact ⟨keep p.1 p.2 ne nf nch e n, free p.1 p.2 nch e n, ne, nf, d⟩
theorem Inv.un {t' : Nat} (I : Inv X pins σ H s) (u : Un X.fs [] H H' s.heap h') (hok : HOk X.prog X.w H' h') : Inv X pins σ H' { s with heap := h', toks := t' } := by
 obtain ⟨m, ⟨o, es, ep, ho, r⟩, _⟩ := id I.loc
 obtain ⟨sl, hL⟩ := u.any ho I.free (by simp)
 exact I.step (g' := s.gens) (d' := s.drawn) (ch := []) (fun _ z => nomatch z) (fun b o _ hb _ e n => u.keep b o e n hb (by simp)) (fun b o _ hb _ e n => u.slot b o e n hb (by simp)) (fun b o _ e n => u.free b o e n (by simp)) (fun b o _ e => u.there b o e (by simp)) u.tups u.frzs u.tbls (fun m' hm => by
  obtain ⟨o', es', ep', ho', r'⟩ := hm
  rw [ho] at ho'; cases ho'
  exact ⟨_, es', ep', hL, r'⟩) hok I.bare
theorem Inv.call {g' : Array GenState} {t' : Nat} {d' : Drawn} {ch : List Addr} (I : Inv X pins σ H s) (u : Un (frs X.stack) ch H H' s.heap h') (hok : HOk X.prog X.w H' h') (hg : AllBare g')
  (hch : ∀ b ∈ ch, (b ∈ X.ex \/ X.s₀.heap.objs.size <= b) /\ b ≠ X.env.locals /\ (∀ x c, X.env.cells.lookup x = some c -> c ≠ b) /\ ∀ p ∈ X.pn ++ pins, p.1 ≠ b) :
  Inv X pins σ H' { s with heap := h', gens := g', drawn := d', toks := t' } := by
 obtain ⟨m, ⟨o, es, ep, ho, r⟩, _⟩ := id I.loc
 obtain ⟨sl, hL⟩ := u.any ho I.free fun z => (hch _ z).2.1 rfl
 exact I.step (ch := ch) hch (fun b o hL hb hc e n => u.keep b o e n (fun z => (List.mem_cons.mp (I.stkSub b z)).elim hL hb) hc) (fun b o _ _ hc e n => u.any e n hc) (fun b o hc e n => u.free b o e n hc) (fun b o hc e => u.there b o e hc) u.tups u.frzs u.tbls (fun m' hm => by
  obtain ⟨o', es', ep', ho', r'⟩ := hm
  rw [ho] at ho'; cases ho'
  exact ⟨_, es', ep', hL, r'⟩) hok hg
theorem Inv.turned {t' : Nat} {it : Addr} (I : Inv X pins σ H s) (k : ∀ b o, b ≠ it -> s.heap.get? b = some o -> h'.get? b = some o) (hn : H it = none) (hL : it ≠ X.env.locals)
  (h1 : it ∈ X.ex \/ X.s₀.heap.objs.size <= it) (h2 : ∀ x c, X.env.cells.lookup x = some c -> c ≠ it) (h3 : ∀ p ∈ X.pn ++ pins, p.1 ≠ it) : Inv X pins σ H { s with heap := h', toks := t' } := by
 have nit : ∀ b u, H b = some u -> b ≠ it := fun b u e z => by rw [z, hn] at e; cases e
 refine I.step (g' := s.gens) (d' := s.drawn) (ch := [it]) (fun b hb => ?_) (fun b o _ _ hc e _ => k b o (fun z => hc (by simp [z])) e) (fun b o _ _ hc e _ => ⟨o.slots, k b o (fun z => hc (by simp [z])) e⟩) (fun _ _ _ _ n => n)
  (fun b o hc e => ⟨o, k b o (fun z => hc (by simp [z])) e⟩) (fun _ _ e => e) (fun _ _ _ e => e) (fun b ps e => ⟨#[], by rw [e]; simp⟩) (fun m hm => ?_) (fun b u e => ?_) I.bare
 ·have e : b = it := by simpa using hb
  subst e
  exact ⟨h1, hL, h2, h3⟩
 ·obtain ⟨o, es, ep, ho, r⟩ := hm
  exact ⟨o, es, ep, k _ o (Ne.symm hL) ho, r⟩
 ·refine (I.hok b u e).stay (fun c v hc q => k c v ?_ q) (fun _ q => q) fun _ _ q => q
  rcases hc with z | z
  ·rw [z]; exact nit b u e
  ·exact nit c _ z
theorem Inv.tok (I : Inv X pins σ H s) (t : Nat) : Inv X pins σ H { s with toks := t } := I.un (h' := s.heap) (t' := t) Un.refl I.hok
theorem Inv.kept {t' : Nat} (I : Inv X pins σ H s) (k : ∀ b u, s.heap.get? b = some u -> h'.get? b = some u) : Inv X pins σ H { s with heap := h', toks := t' } := I.un (Un.kept k) (I.hok.kept k)
theorem Inv.laid {a : Addr} {o : HO} {t' : Nat} (I : Inv X pins σ H s) (k : ∀ b u, s.heap.get? b = some u -> h'.get? b = some u) (hp : s.heap.objs.size <= a) (new : ObjOk X.prog X.w (upd H a o) h' a o) :
  Inv X pins σ (upd H a o) { s with heap := h', toks := t' } := I.un (Un.laid k hp (I.hok.fresh hp)) (I.hok.laid k hp new)
theorem Inv.write {x e : Addr} {o : HO} {t' : Nat} (I : Inv X pins σ H s) (mu : Mut (H x)) (he : e = x \/ H e = some (.own x)) (k : ∀ b u, b ≠ e -> s.heap.get? b = some u -> h'.get? b = some u) (heo : ∃ u, h'.get? e = some u)
  (new : ObjOk X.prog X.w (upd H x o) h' x o) : Inv X pins σ (upd H x o) { s with heap := h', toks := t' } := I.un (Un.write mu he k heo) (I.hok.write mu he k heo new)
theorem Inv.pins_of {pins' : List (Addr × Obj)} (I : Inv X pins σ H s) (h : ∀ p ∈ pins', s.heap.get? p.1 = some p.2 /\ H p.1 = none /\ p.1 ≠ X.env.locals /\ p.1 ∉ X.fs /\ ∀ v, p.2.data ≠ .cell v) : Inv X pins' σ H s :=
 ⟨I.ok, I.os, I.bare, I.base, I.loc, I.cell, I.free, I.freeC, fun p hp => (List.mem_append.mp hp).elim (fun z => I.pin p (List.mem_append_left _ z)) (h p), I.hok, I.len⟩
theorem b3R {N : List Str} (hN : N.Nodup) {i j : Nat} {x : Str} (a : N[i]? = some x) (b : N[j]? = some x) : i = j := by
 obtain ⟨h1, e1⟩ := List.getElem?_eq_some_iff.mp a
 obtain ⟨h2, e2⟩ := List.getElem?_eq_some_iff.mp b
 exact (List.getElem_inj hN).mp (e1.trans e2.symm)
theorem b0E {M : Model} {A : Around} {E : Value -> Shared -> Prop} {i : Nat} {x : Str} {v : V} {u : Value} {Q : Unit -> Shared -> Prop} (I : Inv X pins σ H s) (hN : X.N.Nodup) (hi : X.N[i]? = some x) (hx : Loc X.env.scope x) (r : RelV v u)
  (h : ∀ s', Inv X pins (σ.set i (some v)) H s' -> (∃ a, Heap.SameBut a s.heap s'.heap /\ (a = X.env.locals \/ X.env.cells.lookup x = some a)) -> Q () s') (hf : X.fn x = true \/ X.env.scope.names.lookup x = some .local := by first | exact .inl rfl | exact .inr rfl | assumption) : wpAny M A (storeName X.env x u) Q E s := by
 obtain ⟨m, hn, hl⟩ := id I.loc
 have hcls : (X.env.scope.kind == .class || (X.env.scope.kind == .module && X.env.locals != X.env.globals)) = false := by rw [I.ok.kind]; rfl
 have hiσ : i < σ.length := by rw [I.len]; exact (List.getElem?_eq_some_iff.mp hi).1
 have cne := I.cne
 have tracked : ∀ {a : Addr} {h' : Heap}, (∃ o, s.heap.get? a = some o /\ H a = none) -> Heap.SameBut a s.heap h' -> HOk X.prog X.w H h' := fun {a h'} ha hs b ob e => by
  obtain ⟨_, _, hfree⟩ := ha
  refine (I.hok b ob e).stay (fun c w' hc q => (hs.2 c ?_).trans q) (fun _ q => q) fun _ _ q => q
  rintro rfl
  rcases hc with rfl | hc
  ·rw [hfree] at e; cases e
  ·rw [hfree] at hc; cases hc
 rcases hx with hk | hk
 ·refine wpAny_storeName_local hk hn (fun h' hn' hs => ?_) hcls
  obtain ⟨oL, _, _, hoL, _⟩ := id hn
  refine h _ ⟨I.ok, I.os, I.bare, ⟨fun b o e n hb hx => ?_, fun b o e n hb hx => ?_, I.base.free, fun b o e hx => ?_, I.base.tups, I.base.frzs, I.base.tbls⟩, ⟨_, hn', fun j y v' e1 e2 e3 => ?_⟩, fun y c e => ?_, I.free, I.freeC, fun p hp => ?_, tracked ⟨oL, hoL, I.free⟩ hs, by simpa using I.len⟩ ⟨_, hs, .inl rfl⟩
  ·exact (hs.2 b (Nat.ne_of_lt (Nat.lt_of_lt_of_le (Heap.lt_size e) I.ok.above))).trans (I.base.keep b o e n hb hx)
  ·obtain ⟨sl, e1⟩ := I.base.slot b o e n hb hx
   exact ⟨sl, (hs.2 b (Nat.ne_of_lt (Nat.lt_of_lt_of_le (Heap.lt_size e) I.ok.above))).trans e1⟩
  ·obtain ⟨o', e1⟩ := I.base.there b o e hx
   exact ⟨o', (hs.2 b (Nat.ne_of_lt (Nat.lt_of_lt_of_le (Heap.lt_size e) I.ok.above))).trans e1⟩
  ·by_cases hj : j = i
   ·subst hj
    rw [hi] at e1; cases e1
    rw [List.getElem?_set_self hiσ] at e2
    cases e2
    exact ⟨u, r, .inl ⟨hk, by simp⟩⟩
   ·rw [List.getElem?_set_ne (Ne.symm hj)] at e2
    obtain ⟨u', r', q⟩ := hl j y v' e1 e2 e3
    refine ⟨u', r', ?_⟩
    rcases q with ⟨k, e⟩ | ⟨k, c, e, z⟩
    ·refine .inl ⟨k, ?_⟩
     have : y ≠ x := fun e => hj (b3R hN e1 (e ▸ hi))
     simp [this, e]
    ·exact .inr ⟨k, c, e, z.sameBut hs (cne y c e)⟩
  ·obtain ⟨w', z⟩ := I.cell y c e
   exact ⟨w', z.sameBut hs (cne y c e)⟩
  ·obtain ⟨e, n, ne, nf, d⟩ := I.pin p hp
   exact ⟨(hs.2 p.1 ne).trans e, n, ne, nf, d⟩
 ·have hfn : X.fn x = true := by
   rcases hf with z | z
   ·exact z
   ·rw [z] at hk; cases hk
  obtain ⟨c, hc⟩ := I.ok.has x (.inl hk)
  obtain ⟨w', z⟩ := I.cell x c hc
  refine wpAny_storeName_cell I.ok.kind hk hc z (fun h' hc' hs => ?_)
  obtain ⟨oc, hoc, hocd⟩ := id z
  refine h { s with heap := h' } ⟨I.ok, I.os, I.bare, ⟨fun b o e n hb hx => ?_, fun b o e n hb hx => ?_, I.base.free, fun b o e hx => ?_, I.base.tups, I.base.frzs, I.base.tbls⟩, ⟨m, hn.sameBut hs (Ne.symm (cne x c hc)), fun j y v' e1 e2 e3 => ?_⟩, fun y c' e => ?_, I.free, I.freeC, fun p hp => ?_, tracked ⟨oc, hoc, I.freeC x c hc⟩ hs, by simpa using I.len⟩ ⟨c, hs, .inr hc⟩
  ·exact (hs.2 b (Nat.ne_of_lt (Nat.lt_of_lt_of_le (Heap.lt_size e) (I.ok.cab x c hfn hc)))).trans (I.base.keep b o e n hb hx)
  ·obtain ⟨sl, e1⟩ := I.base.slot b o e n hb hx
   exact ⟨sl, (hs.2 b (Nat.ne_of_lt (Nat.lt_of_lt_of_le (Heap.lt_size e) (I.ok.cab x c hfn hc)))).trans e1⟩
  ·obtain ⟨o', e1⟩ := I.base.there b o e hx
   exact ⟨o', (hs.2 b (Nat.ne_of_lt (Nat.lt_of_lt_of_le (Heap.lt_size e) (I.ok.cab x c hfn hc)))).trans e1⟩
  ·by_cases hj : j = i
   ·subst hj
    rw [hi] at e1; cases e1
    rw [List.getElem?_set_self hiσ] at e2
    cases e2
    exact ⟨u, r, .inr ⟨.inl hk, c, hc, hc'⟩⟩
   ·rw [List.getElem?_set_ne (Ne.symm hj)] at e2
    obtain ⟨u', r', q⟩ := hl j y v' e1 e2 e3
    refine ⟨u', r', ?_⟩
    rcases q with q | ⟨k, c', e, z'⟩
    ·exact .inl q
    ·refine .inr ⟨k, c', e, z'.sameBut hs ?_⟩
     rintro rfl
     exact hj (b3R hN e1 (I.ok.inj _ _ _ e hc ▸ hi))
  ·by_cases hcc : c' = c
   ·subst hcc; exact ⟨_, hc'⟩
   ·obtain ⟨w2, z2⟩ := I.cell y c' e
    exact ⟨w2, z2.sameBut hs hcc⟩
  ·obtain ⟨e, n, ne, nf, d⟩ := I.pin p hp
   refine ⟨(hs.2 p.1 ?_).trans e, n, ne, nf, d⟩
   intro q
   rw [q, hoc] at e
   have q' : oc = p.2 := Option.some.inj e
   exact d w' (by rw [<- q']; exact hocd)
theorem b3S {M : Model} {A : Around} {E : Value -> Shared -> Prop} {i : Nat} {x : Str} {v : V} {u : Value} {Q : Unit -> Shared -> Prop} (I : Inv X pins σ H s) (hN : X.N.Nodup) (hi : X.N[i]? = some x) (hx : Loc X.env.scope x) (r : RelV v u)
  (h : ∀ s', Inv X pins (σ.set i (some v)) H s' -> Q () s') (hf : X.fn x = true \/ X.env.scope.names.lookup x = some .local := by first | exact .inl rfl | exact .inr rfl | assumption) : wpAny M A (storeName X.env x u) Q E s :=
 b0E I hN hi hx r (fun s' I' _ => h s' I') hf
theorem Inv.call' {s' : Shared} {ch : List Addr} (I : Inv X pins σ H s) (ho : s'.os = s.os) (u : Un (frs X.stack) ch H H' s.heap s'.heap) (hok : HOk X.prog X.w H' s'.heap) (hg : AllBare s'.gens)
  (hch : ∀ b ∈ ch, (b ∈ X.ex \/ X.s₀.heap.objs.size <= b) /\ b ≠ X.env.locals /\ (∀ x c, X.env.cells.lookup x = some c -> c ≠ b) /\ ∀ p ∈ X.pn ++ pins, p.1 ≠ b) : Inv X pins σ H' s' := by
 obtain ⟨h', g', d', t', o'⟩ := s'
 have e : o' = s.os := ho
 subst e
 exact I.call (g' := g') (t' := t') (d' := d') u hok hg hch
end
abbrev XK := Value -> Option Addr -> Hp -> Prop
abbrev St := List (Option V)
abbrev VK := V -> Hp -> Prop
abbrev TE := St -> Hp -> VK -> Prop
abbrev TT := St -> Hp -> (Bool -> Hp -> Prop) -> Prop
abbrev TA := St -> Hp -> (List V -> Hp -> Prop) -> Prop
structure Ends where
 nx : St -> Hp -> Prop
 rt : VK
 bk : St -> Hp -> Prop := fun _ _ => False
 ct : St -> Hp -> Prop := fun _ _ => False
abbrev TS := Ends -> St -> Hp -> Prop
def EP (X : Cx) (pins : List (Addr × Obj)) (σ : St) (Q : VK) (u : Value) (s' : Shared) : Prop := ∃ v H', Inv X pins σ H' s' /\ RelV v u /\ Q v H'
def TP (X : Cx) (pins : List (Addr × Obj)) (σ : St) (Q : Bool -> Hp -> Prop) (b : Bool) (s' : Shared) : Prop := ∃ H', Inv X pins σ H' s' /\ Q b H'
def AP (X : Cx) (pins : List (Addr × Obj)) (σ : St) (Q : List V -> Hp -> Prop) (us : List Value) (s' : Shared) : Prop := ∃ vs H', Inv X pins σ H' s' /\ Vals vs us /\ Q vs H'
def SP (X : Cx) (pins : List (Addr × Obj)) (D : Ends) (f : Flow) (s' : Shared) : Prop :=
 match f with
 | .next => ∃ σ' H', Inv X pins σ' H' s' /\ D.nx σ' H'
 | .brk => ∃ σ' H', Inv X pins σ' H' s' /\ D.bk σ' H'
 | .cont => ∃ σ' H', Inv X pins σ' H' s' /\ D.ct σ' H'
 | .ret u => ∃ v σ' H', Inv X pins σ' H' s' /\ RelV v u /\ D.rt v H'
def PE (X : Cx) (e : Expr) (t : TE) : Prop :=
 ∀ (pins : List (Addr × Obj)) (s : Shared) (σ : St) (H : Hp) (Q : VK), Inv X pins σ H s -> t σ H Q -> wpAny (model X.prog X.w) X.A (eval e X.env) (EP X pins σ Q) X.xe s
def PT (X : Cx) (e : Expr) (t : TT) : Prop :=
 ∀ (pins : List (Addr × Obj)) (s : Shared) (σ : St) (H : Hp) (Q : Bool -> Hp -> Prop), Inv X pins σ H s -> t σ H Q -> wpAny (model X.prog X.w) X.A (isTrue e X.env (eval e X.env)) (TP X pins σ Q) X.xe s
def PW (X : Cx) (e : Expr) (t : TT) : Prop :=
 ∀ (whole : Sem Value) (pins : List (Addr × Obj)) (s : Shared) (σ : St) (H : Hp) (Q : Bool -> Hp -> Prop), Inv X pins σ H s -> t σ H Q -> wpAny (model X.prog X.w) X.A (isTrue e X.env whole) (TP X pins σ Q) X.xe s
theorem PW.pt {X : Cx} {e : Expr} {t : TT} (h : PW X e t) : PT X e t := h _
def PA (X : Cx) (es : List Expr) (t : TA) : Prop :=
 ∀ (pos : Pos) (pins : List (Addr × Obj)) (s : Shared) (σ : St) (H : Hp) (Q : List V -> Hp -> Prop), Inv X pins σ H s -> t σ H Q -> wpAny (model X.prog X.w) X.A (spliced (backTo pos (starEach es X.env))) (AP X pins σ Q) X.xe s
def PS (X : Cx) (st : Stmt) (t : TS) : Prop :=
 ∀ (pins : List (Addr × Obj)) (s : Shared) (σ : St) (H : Hp) (D : Ends), Inv X pins σ H s -> t D σ H -> wpAny (model X.prog X.w) X.A (exec st X.env) (SP X pins D) X.xe s
def PSs (X : Cx) (st : List Stmt) (t : TS) : Prop :=
 ∀ (pins : List (Addr × Obj)) (s : Shared) (σ : St) (H : Hp) (D : Ends), Inv X pins σ H s -> t D σ H -> wpAny (model X.prog X.w) X.A (execs st X.env) (SP X pins D) X.xe s
theorem thn {α : Type} {t : Sem α} {Q Q' : α -> Shared -> Prop} {M : Model} {A : Around} {E : Value -> Shared -> Prop} {s : Shared} (h : wpAny M A t Q E s) (hQ : ∀ a s, Q a s -> Q' a s) : wpAny M A t Q' E s := wpAny_mono h hQ fun _ _ x => x
end L2
namespace L2
open PySem PySem.Spec PyProof.Rows
section
variable {X : Cx}
def tVar (i : Nat) : TE := fun σ H Q => ∃ v, σ[i]? = some (some v) /\ Q v H
def tC (v : V) : TE := fun _ H Q => Q v H
theorem c5X {i : Nat} {x : Str} {pos : Pos} (hN : X.N[i]? = some x) (hv : Vis X.env.scope x) (hd : (x == ("__debug__" : Str)) = false := by decide) (hcd : (x == ("__classdict__" : Str)) = false := by decide) : PE X (.Name x pos) (tVar i) := by
 intro pins s σ H Q I h
 obtain ⟨v, e, h⟩ := h
 obtain ⟨m, hn, hl⟩ := I.loc
 obtain ⟨u, r, l⟩ := hl i x v hN e hv
 have fin : EP X pins σ Q u s := ⟨v, H, I, r, h⟩
 rcases l with ⟨hk, hm⟩ | ⟨hk, c, hc, hcell⟩
 ·exact wpAny_Name (wpAny_loadName_local I.ok.kind hk hn hm fin) hd
 ·rcases hk with hk | hk
  ·exact wpAny_Name (wpAny_loadName_cell I.ok.kind hk hc hcell fin) hd
  ·exact wpAny_Name (wpAny_loadName_free I.ok.kind hk hc hcell fin hcd) hd
theorem a0E {i j pos} : PE X (.Constant (.int i) j pos) (tC (.int i)) := fun _ _ _ H _ I h => wpAny_Constant_int ⟨.int i, H, I.tok _, ⟨_, rfl⟩, h⟩
theorem a4V {b j pos} : PE X (.Constant (.bool b) j pos) (tC (.bl b)) := fun _ _ _ H _ I h => Constant_bool ⟨.bl b, H, I, rfl, h⟩
theorem a3S {j pos} : PE X (.Constant .none j pos) (tC .non) := fun _ _ _ H _ I h => Constant_none ⟨.non, H, I, rfl, h⟩
theorem a8T {x j pos} : PE X (.Constant (.str x) j pos) (tC (.str x)) := fun _ _ _ H _ I h => Calls.Constant_str ⟨.str x, H, I.tok _, ⟨_, rfl⟩, h⟩
def Gl (X : Cx) (x : Str) : Prop := X.env.kindOf x = some .globalImplicit
theorem c3A {E : Value -> Shared -> Prop} {pins : List (Addr × Obj)} {s : Shared} {σ : St} {H : Hp} {x : Str} {u : Value} {pos : Pos} {Q : Value -> Shared -> Prop} (I : Inv X pins σ H s) (hg : Gl X x) (hm : X.mg x = some u) (h : Q u s)
  (hd : (x == ("__debug__" : Str)) = false := by decide) : wpAny (model X.prog X.w) X.A (eval (.Name x pos) X.env) Q E s :=
 Calls.Name_function_global I.ok.kind hg (Calls.loadGlobal_global (by rw [I.ok.glob]; exact I.mod.glob.keeps I.bk) hm h) hd
theorem a6B {E : Value -> Shared -> Prop} {pins : List (Addr × Obj)} {s : Shared} {σ : St} {H : Hp} {x : Str} {u : Value} {pos : Pos} {Q : Value -> Shared -> Prop} (I : Inv X pins σ H s) (hg : Gl X x) (hm : X.mg x = none) (hv : bootBuiltins x = some u) (h : Q u s)
  (hn : x ≠ "__name__" := by decide) (hd : (x == ("__debug__" : Str)) = false := by decide) : wpAny (model X.prog X.w) X.A (eval (.Name x pos) X.env) Q E s := by
 obtain ⟨mb, h1, h2⟩ := I.mod.blt
 exact Calls.Name_function_global I.ok.kind hg (Calls.loadGlobal_builtin (by rw [I.ok.glob]; exact I.mod.glob.keeps I.bk) hm (by rw [I.ok.blt]; exact h1.keeps I.bk) ((h2 x hn).trans hv) h) hd
theorem a2N {x : Str} {v : V} {u : Value} {pos : Pos} (hg : Gl X x) (hm : X.mg x = none) (hv : bootBuiltins x = some u) (r : RelV v u) (hn : x ≠ "__name__" := by decide) (hd : (x == ("__debug__" : Str)) = false := by decide) : PE X (.Name x pos) (tC v) :=
 fun _ _ _ H _ I h => a6B I hg hm hv ⟨v, H, I, r, h⟩ hn hd
variable {a b : Expr} {ta tb : TE} {pos : Pos}
variable {tA tB' : TT} {rest : List Expr}
def tAnd (t u : TT) : TT := fun σ H Q => t σ H fun c H1 => if c = true then u σ H1 Q else Q false H1
def tOr (t u : TT) : TT := fun σ H Q => t σ H fun c H1 => if c = true then Q true H1 else u σ H1 Q
def tNot (t : TT) : TT := fun σ H Q => t σ H fun c H1 => Q (!c) H1
theorem a4P (ha : PT X a tA) : PW X (.BoolOp .And [a] pos) tA := by
 intro wh pins s σ H Q I h
 refine isTrue_and (thn (ha pins s σ H Q I h) fun c s1 e => ?_)
 cases c with
 | true => exact isTrue_and_nil e
 | false => exact e
theorem a4W (ha : PT X a tA) : PW X (.BoolOp .Or [a] pos) tA := by
 intro wh pins s σ H Q I h
 refine isTrue_or (thn (ha pins s σ H Q I h) fun c s1 e => ?_)
 cases c with
 | false => exact isTrue_or_nil e
 | true => exact e
theorem a7I (ha : PT X a tA) (hb : PW X (.BoolOp .And (b :: rest) pos) tB') : PW X (.BoolOp .And (a :: b :: rest) pos) (tAnd tA tB') := by
 intro wh pins s σ H Q I h
 refine isTrue_and (thn (ha pins s σ H _ I h) fun c s1 ⟨H1, I1, q1⟩ => ?_)
 cases c with
 | true => exact hb wh pins s1 σ H1 Q I1 q1
 | false => exact ⟨H1, I1, q1⟩
theorem a4Q (ha : PT X a tA) (hb : PW X (.BoolOp .Or (b :: rest) pos) tB') : PW X (.BoolOp .Or (a :: b :: rest) pos) (tOr tA tB') := by
 intro wh pins s σ H Q I h
 refine isTrue_or (thn (ha pins s σ H _ I h) fun c s1 ⟨H1, I1, q1⟩ => ?_)
 cases c with
 | true => exact ⟨H1, I1, q1⟩
 | false => exact hb wh pins s1 σ H1 Q I1 q1
theorem a3D (ha : PT X a tA) : PT X (.UnaryOp .Not a pos) (tNot tA) := by
 intro pins s σ H Q I h
 exact isTrue_not (ha pins s σ H (fun c H1 => Q (!c) H1) I h)
def c8D (ta tb : TE) : TE := fun σ H Q => ta σ H fun x H1 => ∃ c, x = .bl c /\ if c = true then tb σ H1 Q else Q (.bl false) H1
def c8E (ta : TE) : TE := fun σ H Q => ta σ H fun x H1 => ∃ c, x = .bl c /\ Q (.bl (!c)) H1
theorem b0F {op} {t : TE} (h : PE X a t) : PE X (.BoolOp op [a] pos) t := fun pins s σ H Q I hw => BoolOp_one (h pins s σ H Q I hw)
theorem b0G (ha : PE X a ta) (hb : PE X (.BoolOp .And (b :: rest) pos) tb) : PE X (.BoolOp .And (a :: b :: rest) pos) (c8D ta tb) := by
 intro pins s σ H Q I h
 refine BoolOp_and (thn (ha pins s σ H _ I h) fun v s1 ⟨x, H1, I1, r1, q1⟩ => ?_)
 obtain ⟨c, rfl, q1⟩ := q1
 cases r1
 refine wpAny_truthy_bool ?_
 cases c with
 | true => exact hb pins s1 σ H1 Q I1 q1
 | false => exact ⟨.bl false, H1, I1, rfl, q1⟩
theorem c5Y (ha : PE X a ta) : PE X (.UnaryOp .Not a pos) (c8E ta) := by
 intro pins s σ H Q I h
 refine UnaryOp_ (thn (ha pins s σ H _ I h) fun v s1 ⟨x, H1, I1, r1, q1⟩ => ?_)
 obtain ⟨c, rfl, q1⟩ := q1
 cases r1
 exact not_of (wpAny_truthy_bool ⟨.bl (!c), H1, I1, rfl, q1⟩)
def tIf (t : TT) (ta tb : TE) : TE := fun σ H Q => t σ H fun c H1 => if c = true then ta σ H1 Q else tb σ H1 Q
theorem b3T {c : Expr} (hc : PT X c tA) (ha : PE X a ta) (hb : PE X b tb) : PE X (.IfExp c a b pos) (tIf tA ta tb) := by
 intro pins s σ H Q I h
 refine wpAny_IfExp (thn (hc pins s σ H _ I h) fun d s1 ⟨H1, I1, q1⟩ => ?_)
 cases d with
 | true => exact ha pins s1 σ H1 Q I1 q1
 | false => exact hb pins s1 σ H1 Q I1 q1
end
end L2
namespace L2
open PySem PySem.Spec PyProof.Rows
def SqL (K : Φρ) (H : Hp) (a : Addr) (xs : List V) : Prop :=
 Rd H a (.lst xs) \/
  ∃ (o : Obj) (its : Array Value) (n : Nat), K.lookup a = some o /\ o.cls = .type "list" /\ o.dict = none /\ o.data = .seq its n /\ its.size <= sizeLine /\ Vals xs its.toList
def SqT (K : Φρ) (H : Hp) (a : Addr) (xs : List V) : Prop :=
 Rd H a (.tup xs) \/
  ∃ (o : Obj) (its : Array Value) (n : Nat), K.lookup a = some o /\ o.cls = .type "tuple" /\ o.data = .seq its n /\ its.size <= sizeLine /\ Vals xs its.toList
def absV : Value -> Option V
 | .none => some .non
 | .bool b => some (.bl b)
 | .int i _ => some (.int i)
 | .str x _ => some (.str x)
 | .bytes b _ => some (.byt b)
 | .float b _ => some (.flt b)
 | .ref a => some (.ref a)
 | .type n => some (.ty n)
 | _ => none
theorem RelV.abs {x : V} {u : Value} (r : RelV x u) : absV u = some x := by
 cases x with
 | non => cases r; rfl
 | bl _ => cases r; rfl
 | int _ => obtain ⟨t, rfl⟩ := r; rfl
 | str _ => obtain ⟨t, rfl⟩ := r; rfl
 | byt _ => obtain ⟨t, rfl⟩ := r; rfl
 | flt _ => obtain ⟨t, rfl⟩ := r; rfl
 | ref _ => cases r; rfl
 | ty _ => cases r; rfl
theorem RelV.inj {x y : V} {u : Value} (r : RelV x u) (q : RelV y u) : x = y := Option.some.inj (r.abs.symm.trans q.abs)
theorem Vals.inj : ∀ {xs ys : List V} {us : List Value}, Vals xs us -> Vals ys us -> xs = ys
 | _, _, _, .nil, .nil => rfl
 | _, _, _, .cons r t, .cons r' t' => by rw [r.inj r', Vals.inj t t']
section
variable {X : Cx} {pins : List (Addr × Obj)} {σ : St} {H : Hp} {s : Shared} {a : Addr} {xs ys : List V}
theorem SqL.of {K : Φρ} (h : H a = some (.lst xs)) : SqL K H a xs := .inl (.inl h)
theorem SqT.of {K : Φρ} (h : H a = some (.tup xs)) : SqT K H a xs := .inl (.inl h)
theorem Inv.list (I : Inv X pins σ H s) (h : SqL X.K H a xs) : ∃ its : List Value, Vals xs its /\ PlainL s.heap a its.toArray /\ xs.length <= sizeLine := by
 rcases h with h | ⟨o, its, n, hk, hc, hd, hs, hz, r⟩
 ·obtain ⟨z, its, n, r, e⟩ := h.ok I.hok
  exact ⟨its, r, ⟨_, n, e, rfl, rfl, rfl⟩, z⟩
 ·refine ⟨its.toList, r, ⟨o, n, I.kIn a o hk, hc, hd, by simpa using hs⟩, ?_⟩
  have e := r.length
  simp only [Array.length_toList] at e
  omega
theorem Inv.tuple (I : Inv X pins σ H s) (h : SqT X.K H a xs) : ∃ its : List Value, Vals xs its /\ IsTup s.heap a its.toArray /\ xs.length <= sizeLine := by
 rcases h with h | ⟨o, its, n, hk, hc, hs, hz, r⟩
 ·obtain ⟨z, its, r, p⟩ := h.ok I.hok
  exact ⟨its, r, p, z⟩
 ·refine ⟨its.toList, r, ⟨o, I.kIn a o hk, hc, n, by simpa using hs⟩, ?_⟩
  have e := r.length
  simp only [Array.length_toList] at e
  omega
theorem Inv.list_inj (I : Inv X pins σ H s) (h : SqL X.K H a xs) (h' : SqL X.K H a ys) : xs = ys := by
 obtain ⟨its, r, ⟨o, n, e, _, _, d⟩, _⟩ := I.list h
 obtain ⟨its', r', ⟨o', n', e', _, _, d'⟩, _⟩ := I.list h'
 rw [e] at e'; cases e'
 rw [d] at d'
 injection d' with d1 _
 have : its = its' := by simpa using congrArg Array.toList d1
 subst this
 exact r.inj r'
end
abbrev Cx.wish (X : Cx) (E : Value -> Shared -> Prop) : Cx := { X with xe := E }
abbrev Cx.nox (X : Cx) : Cx := X.wish fun _ _ => False
theorem Cx.Ok.wish {X : Cx} (ok : X.Ok) (E : Value -> Shared -> Prop) : (X.wish E).Ok :=
 ⟨ok.mod, ok.kind, ok.glob, ok.blt, ok.above, ok.inj, ok.has, ok.cab, ok.hd, ok.frames, ok.stk, ok.exf, ok.bs, ok.bsz, ok.noex, ok.exfs, ok.funs, ok.frf⟩
theorem Cx.Ok.unwish {X : Cx} {E : Value -> Shared -> Prop} (ok : (X.wish E).Ok) : X.Ok :=
 ⟨ok.mod, ok.kind, ok.glob, ok.blt, ok.above, ok.inj, ok.has, ok.cab, ok.hd, ok.frames, ok.stk, ok.exf, ok.bs, ok.bsz, ok.noex, ok.exfs, ok.funs, ok.frf⟩
section
variable {X : Cx} {pins : List (Addr × Obj)} {σ : St} {H : Hp} {s : Shared} {E : Value -> Shared -> Prop}
theorem Inv.wish (I : Inv X pins σ H s) (E : Value -> Shared -> Prop) : Inv (X.wish E) pins σ H s := ⟨I.ok.wish E, I.os, I.bare, I.base, I.loc, I.cell, I.free, I.freeC, I.pin, I.hok, I.len⟩
theorem Inv.unwish (I : Inv (X.wish E) pins σ H s) : Inv X pins σ H s := ⟨I.ok.unwish, I.os, I.bare, I.base, I.loc, I.cell, I.free, I.freeC, I.pin, I.hok, I.len⟩
theorem SP.unwish {D : Ends} {f : Flow} {s' : Shared} (h : SP (X.wish E) pins D f s') : SP X pins D f s' := by
 cases f with
 | next => obtain ⟨σ', H', I, q⟩ := h; exact ⟨σ', H', I.unwish, q⟩
 | brk => obtain ⟨σ', H', I, q⟩ := h; exact ⟨σ', H', I.unwish, q⟩
 | cont => obtain ⟨σ', H', I, q⟩ := h; exact ⟨σ', H', I.unwish, q⟩
 | ret u => obtain ⟨v, σ', H', I, r, q⟩ := h; exact ⟨v, σ', H', I.unwish, r, q⟩
theorem PSs.nox {st : List Stmt} {t : TS} (h : PSs X.nox st t) : PSs X st t := fun pins s σ H D I hw =>
 wpAny_mono (h pins s σ H D (I.wish _) hw) (fun _ _ q => q.unwish) fun _ _ z => False.elim z
end
section
variable {X : Cx} {st : Stmt} {rest : List Stmt} {t u : TS} {e : Expr} {te : TE} {pos : Pos}
def c5Z : TS := fun D σ H => D.nx σ H
def tSeq (t u : TS) : TS := fun D σ H => t { D with nx := u D } σ H
theorem a0V : PSs X [] c5Z := fun _ _ σ H _ I h => wpAny_execs_nil ⟨σ, H, I, h⟩
theorem a0B (h1 : PS X st t) (h2 : PSs X rest u) : PSs X (st :: rest) (tSeq t u) := by
 intro pins s σ H D I h
 refine wpAny_execs_cons (thn (h1 pins s σ H { D with nx := u D } I h) fun f s1 q => ?_)
 cases f with
 | next =>
  obtain ⟨σ', H', I', q⟩ := q
  exact h2 pins s1 σ' H' D I' q
 | ret v => exact q
 | brk => exact q
 | cont => exact q
theorem a0D (h1 : PS X st t) : PSs X [st] t := by
 intro pins s σ H D I h
 refine wpAny_execs_cons (thn (h1 pins s σ H D I h) fun f s1 q => ?_)
 cases f with
 | next => exact wpAny_execs_nil q
 | ret v => exact q
 | brk => exact q
 | cont => exact q
theorem Inv.quiet {pins : List (Addr × Obj)} {σ : St} {H : Hp} {s : Shared} (I : Inv X pins σ H s) : interactive X.env = false := by simp [interactive, I.ok.kind]
def c8F (te : TE) : TS := fun D σ H => te σ H fun _ H1 => D.nx σ H1
theorem a2O (he : PE X e te) (hs : swapsWith e none pos.line X.env = pure false := by rfl) : PS X (.Expr e pos) (c8F te) := by
 intro pins s σ H D I h
 exact wpAny_Expr_any (thn (he pins s σ H _ I h) fun v s1 ⟨x, H1, I1, r1, q1⟩ => ⟨σ, H1, I1, q1⟩) I.quiet hs
def tRet (te : TE) : TS := fun D σ H => te σ H D.rt
theorem a0O (he : PE X e te) : PS X (.Return (some e) pos) (tRet te) := by
 intro pins s σ H D I h
 exact wpAny_Return_some (thn (he pins s σ H _ I h) fun v s1 ⟨x, H1, I1, r1, q1⟩ => ⟨x, σ, H1, I1, r1, q1⟩)
def tIfS (c : TT) (t u : TS) : TS := fun D σ H => c σ H fun b H1 => if b = true then t D σ H1 else u D σ H1
theorem a1Q {c : Expr} {a b : List Stmt} {tc : TT} (hc : PT X c tc) (ha : PSs X a t) (hb : PSs X b u) : PS X (.If c a b pos) (tIfS tc t u) := by
 intro pins s σ H D I h
 refine wpAny_If (thn (hc pins s σ H _ I h) fun d s1 ⟨H1, I1, q1⟩ => ?_)
 cases d with
 | true => exact ha pins s1 σ H1 D I1 q1
 | false => exact hb pins s1 σ H1 D I1 q1
def c6A : TS := fun _ _ _ => False
theorem b3U : PS X st c6A := fun _ _ _ _ _ _ h => h.elim
end
abbrev TG := V -> St -> Hp -> (St -> Hp -> Prop) -> Prop
abbrev TGs := List V -> St -> Hp -> (St -> Hp -> Prop) -> Prop
def PG (X : Cx) (target : Expr) (t : TG) : Prop :=
 ∀ (pins : List (Addr × Obj)) (s : Shared) (σ : St) (H : Hp) (v : V) (u : Value) (Q : St -> Hp -> Prop), Inv X pins σ H s -> RelV v u -> t v σ H Q ->
  wpAny (model X.prog X.w) X.A (assign target X.env u) (fun _ s' => ∃ σ' H', Inv X pins σ' H' s' /\ Q σ' H') X.xe s
def PGs (X : Cx) (ts : List Expr) (t : TGs) : Prop :=
 ∀ (pins : List (Addr × Obj)) (s : Shared) (σ : St) (H : Hp) (vs : List V) (us : List Value) (Q : St -> Hp -> Prop), Inv X pins σ H s -> Vals vs us -> t vs σ H Q ->
  wpAny (model X.prog X.w) X.A (assignInOrder ((assignEach ts X.env).map (·.2)) us) (fun _ s' => ∃ σ' H', Inv X pins σ' H' s' /\ Q σ' H') X.xe s
abbrev TSet := V -> V -> V -> Hp -> (Hp -> Prop) -> Prop
def PSet (X : Cx) (t : TSet) : Prop :=
 ∀ (pins : List (Addr × Obj)) (s : Shared) (σ : St) (H : Hp) (o i v : V) (ov iv u : Value) (Q : Hp -> Prop), Inv X pins σ H s -> RelV o ov -> RelV i iv -> RelV v u -> t o i v H Q ->
  wpAny (model X.prog X.w) X.A (setItem ov iv u) (fun _ s' => ∃ H', Inv X pins σ H' s' /\ Q H') X.xe s
section
variable {X : Cx} {pos : Pos}
def b2L (i : Nat) : TG := fun v σ H Q => Q (σ.set i (some v)) H
theorem a0H {i : Nat} {x : Str} (hN : X.N.Nodup) (hi : X.N[i]? = some x) (hx : Loc X.env.scope x) (hf : X.fn x = true \/ X.env.scope.names.lookup x = some .local := by first | exact .inl rfl | exact .inr rfl | assumption) : PG X (.Name x pos) (b2L i) := by
 intro pins s σ H v u Q I r h
 exact wpAny_assign_Name (b3S I hN hi hx r (fun s' I' => ⟨_, H, I', h⟩) hf)
def gNil : TGs := fun vs σ H Q => vs = [] /\ Q σ H
def c3B (t : TG) (u : TGs) : TGs := fun vs σ H Q => ∃ v r, vs = v :: r /\ t v σ H fun σ' H' => u r σ' H' Q
theorem a2P : PGs X [] gNil := by
 intro pins s σ H vs us Q I r h
 obtain ⟨e, h⟩ := h
 subst e
 cases r
 exact assignInOrder_nil ⟨σ, H, I, h⟩
theorem a0Z {e : Expr} {es : List Expr} {t : TG} {u : TGs} (h1 : PG X e t) (h2 : PGs X es u)
  (hs : (assignEach (e :: es) X.env).map (·.2) = assign e X.env :: (assignEach es X.env).map (·.2) := by rfl) : PGs X (e :: es) (c3B t u) := by
 intro pins s σ H vs us Q I r h
 obtain ⟨v, vr, e1, h⟩ := h
 subst e1
 cases r with
 | cons r rr =>
  rw [hs]
  refine assignInOrder_cons (thn (h1 pins s σ H _ _ _ I r h) fun _ s1 ⟨σ1, H1, I1, q1⟩ => ?_)
  exact h2 pins s1 σ1 H1 _ _ Q I1 rr q1
def gTup (K : Φρ) (n : Nat) (t : TGs) : TG := fun v σ H Q => ∃ a xs, v = .ref a /\ SqT K H a xs /\ xs.length = n /\ t xs σ H Q
theorem c6B {es : List Expr} {k : Nat} {t : TGs} {n : Nat} (hc : X.calm = true) (h : PGs X es t)
  (hn : (assignEach es X.env).length = n := by rfl) (hst : (assignEach es X.env).findIdx? (·.1) = none := by rfl) : PG X (.Tuple es k pos) (gTup X.K n t) := by
 intro pins s σ H v u Q I r hw
 obtain ⟨a, xs, e1, hq, hl, hw⟩ := hw
 subst e1
 cases r
 obtain ⟨its, rv, ht, hz⟩ := I.tuple hq
 refine assign_Tuple_tuple (I.ok.hd hc) ht (by simp [hn, <- hl, rv.length]) hst fun h' hx => ?_
 have I1 : Inv X pins σ H { s with heap := h' } := I.kept (t' := s.toks) fun b o e => hx b o (Nat.ne_of_lt (Heap.lt_size e)) e
 exact h pins _ σ H xs _ Q I1 (by simpa using rv) hw
def gSub (to ti : TE) (t : TSet) : TG := fun v σ H Q => to σ H fun o H1 => ti σ H1 fun i H2 => t o i v H2 fun H3 => Q σ H3
theorem a6C {o i : Expr} {to ti : TE} {t : TSet} (ho : PE X o to) (hi : PE X i ti) (hs : PSet X t)
  (ha : ∀ v, assign (.Subscript o i pos) X.env v = (do
   let ov <- holding [v] (eval o X.env)
   let iv <- holding [v, ov] (eval i X.env)
   standAt pos
   holding [v, ov, iv] (setItem ov iv v)
   release [v, ov, iv] []) := by intro _; rfl) : PG X (.Subscript o i pos) (gSub to ti t) := by
 intro pins s σ H v u Q I r h
 rw [ha]
 refine wpAny_bind (wpAny_holding (thn (ho pins s σ H _ I h) fun ov s1 ⟨x, H1, I1, r1, q1⟩ => ?_))
 refine wpAny_bind (wpAny_holding (thn (hi pins s1 σ H1 _ I1 q1) fun iv s2 ⟨y, H2, I2, r2, q2⟩ => ?_))
 refine wpAny_bind (wpAny_standAt (wpAny_bind (wpAny_holding (thn (hs pins s2 σ H2 x y v ov iv u _ I2 r1 r2 r q2) fun _ s3 ⟨H3, I3, q3⟩ => ?_))))
 exact wpAny_release ⟨σ, H3, I3, q3⟩
def tAsg (te : TE) (g : TG) : TS := fun D σ H => te σ H fun x H1 => g x σ H1 D.nx
theorem a6D {tg e : Expr} {te : TE} {g : TG} (he : PE X e te) (hg : PG X tg g) (hs : swapsWithSole [tg] e pos.line X.env = pure false := by rfl) (hw : swappedStores [tg] e X.env = pure none := by rfl)
  (h1 : (assignEach [tg] X.env).map (·.2) = [assign tg X.env] := by rfl) : PS X (.Assign [tg] e pos) (tAsg te g) := by
 intro pins s σ H D I h
 refine wpAny_Assign_stores (thn (he pins s σ H _ I h) fun v s1 ⟨x, H1, I1, r1, q1⟩ => ?_) hs hw
 rw [h1]
 exact thn (hg pins s1 σ H1 x v _ I1 r1 q1) fun _ s2 q => q
theorem a0M {i : Nat} {x : Str} {e : Expr} {te : TE} {pos' : Pos} (hN : X.N.Nodup) (hi : X.N[i]? = some x) (hx : Loc X.env.scope x) (he : PE X e te) (hs : swapsWith e (some (.Name x pos')) pos.line X.env = pure false := by rfl) (hf : X.fn x = true \/ X.env.scope.names.lookup x = some .local := by first | exact .inl rfl | exact .inr rfl | assumption) :
  PS X (.Assign [.Name x pos'] e pos) (tAsg te (b2L i)) := by
 intro pins s σ H D I h
 refine wpAny_Assign_Name (thn (he pins s σ H _ I h) fun v s1 ⟨y, H1, I1, r1, q1⟩ => ?_) hs
 exact b3S I1 hN hi hx r1 (fun s2 I2 => ⟨_, H1, I2, q1⟩) hf
end
section
variable {X : Cx} {pos : Pos}
def c6C (c : TT) (tb : TS) : TS := fun D σ H => ∃ W : Nat -> St -> Hp -> Prop, (∃ m, W m σ H) /\ ∀ m σ H, W m σ H ->
 c σ H fun b H1 => if b = true then ∃ N : St -> Hp -> Prop, (∀ σ' H', N σ' H' -> ∃ m', m' < m /\ W m' σ' H') /\ tb { D with nx := N, ct := N, bk := D.nx } σ H1 else D.nx σ H1
theorem a6X {c : Expr} {body : List Stmt} {tc : TT} {tb : TS} (hp : PassesOwn (model X.prog X.w) X.A X.env X.xe) (hc : PT X c tc) (hb : PSs X body tb) : PS X (.While c body [] pos) (c6C tc tb) := by
 intro pins s σ H D I h
 obtain ⟨W, ⟨m0, w0⟩, turn⟩ := h
 refine wpAny_While (codeAny_whileLoop (fun n s' => ∃ σ' H', Inv X pins σ' H' s' /\ W n σ' H') ?_ m0 ⟨σ, H, I, w0⟩)
 rintro n s1 ⟨σ1, H1, I1, w1⟩
 refine wpAny_passesOwn hp (thn (hc pins s1 σ1 H1 _ I1 (turn n σ1 H1 w1)) fun b s2 ⟨H2, I2, q2⟩ => ?_)
 cases b with
 | true =>
  obtain ⟨N, hN, q2⟩ := q2
  rw [if_pos rfl]
  refine wpAny_passesOwn hp (thn (hb pins s2 σ1 H2 _ I2 q2) fun f s3 q3 => ?_)
  cases f with
  | next =>
   obtain ⟨σ3, H3, I3, n3⟩ := q3
   obtain ⟨m', hm, w3⟩ := hN σ3 H3 n3
   exact ⟨m', hm, σ3, H3, I3, w3⟩
  | cont =>
   obtain ⟨σ3, H3, I3, n3⟩ := q3
   obtain ⟨m', hm, w3⟩ := hN σ3 H3 n3
   exact ⟨m', hm, σ3, H3, I3, w3⟩
  | brk => exact q3
  | ret v => exact q3
 | false =>
  rw [if_neg Bool.false_ne_true]
  exact wpAny_execs_nil ⟨σ1, H2, I2, q2⟩
end
structure It where
 go : Nat -> Hp -> Prop
 yld : Nat -> Hp -> V -> Hp -> Prop
 stop : Nat -> Hp -> Prop
def FpOk (X : Cx) (pins : List (Addr × Obj)) (H : Hp) (b : Addr) : Prop :=
 H b = none /\ b ≠ X.env.locals /\ b ∉ X.fs /\ (b ∈ X.ex \/ X.s₀.heap.objs.size <= b) /\ (∀ x c, X.env.cells.lookup x = some c -> c ≠ b) /\ ∀ p ∈ X.pn ++ pins, p.1 ≠ b
theorem Inv.fpOk {X : Cx} {pins : List (Addr × Obj)} {σ : St} {H H' : Hp} {s : Shared} {b : Addr} (I : Inv X pins σ H s) (hb : s.heap.objs.size <= b) (hn : H' b = none) : FpOk X pins H' b := by
 refine ⟨hn, Nat.ne_of_gt (Nat.lt_of_lt_of_le I.lt hb), I.nofs hb, .inr (Nat.le_trans I.sz hb), fun x c e z => ?_, fun p hp z => ?_⟩
 ·obtain ⟨v, q⟩ := I.cell x c e
  exact absurd (Nat.lt_of_lt_of_le q.lt (by rw [z]; exact hb)) (Nat.lt_irrefl _)
 ·exact absurd (Nat.lt_of_lt_of_le (Heap.lt_size (I.pin p hp).1) (by rw [z]; exact hb)) (Nat.lt_irrefl _)
structure Turn (P : Program) (w : World) (K : Φρ) (tg : Expr) (J : It) (fp : List Addr) (it : Addr) (tn : Nat -> Heap -> Prop) : Prop where
 mem : it ∈ fp
 obj : ∀ i h, tn i h -> ∀ b ∈ fp, ∃ o, h.get? b = some o /\ ∀ v, o.data ≠ .cell v
 keep : ∀ i h h', tn i h -> (∀ b ∈ fp, ∀ o, h.get? b = some o -> h'.get? b = some o) -> tn i h'
 item : ∀ (X : Cx), X.prog = P -> X.w = w -> X.K = K -> X.calm = true -> ∀ (i : Nat) (pins : List (Addr × Obj)) (s : Shared) (σ : St) (H : Hp) (E : Value -> Shared -> Prop), Inv X pins σ H s -> (∀ b ∈ fp, FpOk X pins H b) -> tn i s.heap -> J.go i H ->
  wpAny (model P w) X.A (pyNext (.ref it)) (fun r s1 => ∃ u, r = some u /\
   wpAny (model P w) X.A (letOwnedTupleGo tg (.ref it) u) (fun _ s2 => ∃ x H', Inv X pins σ H' s2 /\ RelV x u /\ J.yld i H x H' /\ tn (i + 1) s2.heap /\ ∀ b ∈ fp, H' b = none) E s1) E s
 done : ∀ (X : Cx), X.prog = P -> X.w = w -> X.K = K -> X.calm = true -> ∀ (i : Nat) (pins : List (Addr × Obj)) (s : Shared) (σ : St) (H : Hp) (E : Value -> Shared -> Prop), Inv X pins σ H s -> (∀ b ∈ fp, FpOk X pins H b) -> tn i s.heap -> J.stop i H ->
  wpAny (model P w) X.A (pyNext (.ref it)) (fun r s1 => r = none /\ Inv X pins σ H s1) E s
 self : ∀ (A : Around) (i : Nat) (s : Shared) (Q : Value -> Shared -> Prop) (E : Value -> Shared -> Prop), tn i s.heap -> Q (.ref it) s -> wpAny (model P w) A (pyIter (.ref it)) Q E s
abbrev TI := St -> Hp -> (It -> Hp -> Prop) -> Prop
def PIE (X : Cx) (pins : List (Addr × Obj)) (σ : St) (tg : Expr) (R : It -> Hp -> Prop) (itv : Value) (s2 : Shared) : Prop :=
 ∃ (it : Addr) (fp : List Addr) (tn : Nat -> Heap -> Prop) (J : It) (H' : Hp), itv = .ref it /\ Inv X pins σ H' s2 /\ Turn X.prog X.w X.K tg J fp it tn /\ tn 0 s2.heap /\ (∀ b ∈ fp, FpOk X pins H' b) /\ R J H'
def PI (X : Cx) (tg iter : Expr) (wi : TI) : Prop :=
 ∀ (pins : List (Addr × Obj)) (s : Shared) (σ : St) (H : Hp) (R : It -> Hp -> Prop), Inv X pins σ H s -> wi σ H R ->
  wpAny (model X.prog X.w) X.A (eval iter X.env) (fun v s1 => wpAny (model X.prog X.w) X.A (pyIter v) (PIE X pins σ tg R) X.xe s1) X.xe s
theorem c6D {M : Model} {A : Around} {E : Value -> Shared -> Prop} {s : Shared} {tg : Expr} {it : Addr} {u : Value} {o : Obj} {n : String} {vs : Array Value} {Q : Unit -> Shared -> Prop} (ho : s.heap.get? it = some o) (hc : o.cls = .type n) (hd : o.data = .fields vs)
    (hn : ["enumerate", "zip", "dict_itemiterator", "dict_reverseitemiterator", "odict_iterator", "itertools.zip_longest", "itertools.pairwise"].contains n = false) (hQ : Q () s) : wpAny M A (letOwnedTupleGo tg (.ref it) u) Q E s := by
  unfold letOwnedTupleGo
  cases tg <;> first
    | exact wpAny_pure hQ
    | (cases u <;> first
        | exact wpAny_pure hQ
        | (refine wpAny_bind (wpAny_load ho ?_)
           rw [hc, hd]
           show wpAny M A (if (["enumerate", "zip", "dict_itemiterator", "dict_reverseitemiterator", "odict_iterator", "itertools.zip_longest", "itertools.pairwise"].contains n && vs[0]? == some (rawInt _)) = true then _ else _) Q E s
           rw [if_neg (by intro h; rw [hn, Bool.false_and] at h; cases h)]
           exact wpAny_pure hQ))
def Itl (K : Φρ) (a : Addr) : It :=
 ⟨fun i H => ∃ xs x, SqL K H a xs /\ xs[i]? = some x, fun i H x H' => H' = H /\ ∀ xs, SqL K H a xs -> xs[i]? = some x, fun i H => ∃ xs, SqL K H a xs /\ xs.length <= i⟩
def Itr (lo : Int) (n : Nat) : It := ⟨fun i _ => i < n, fun i H x H' => H' = H /\ x = .int (lo + i), fun i _ => n <= i⟩
theorem b6G {P : Program} {w : World} {K : Φρ} {tg : Expr} (a it : Addr) : Turn P w K tg (Itl K a) [it] it (fun i h => h.IsListIter it a i) where
 mem := by simp
 obj := fun i h st b hb => by
  have e : b = it := by simpa using hb
  subst e
  obtain ⟨o, e, c, d⟩ := st
  exact ⟨o, e, fun v z => by rw [d] at z; cases z⟩
 keep := fun i h h' st k => st.at fun o e => k it (by simp) o e
 item := by
  intro X hP hw hK hc i pins s σ H E I hf st hg
  subst hP hw hK
  obtain ⟨xs, x, hq, hx⟩ := hg
  obtain ⟨its, rv, p, hz⟩ := I.list hq
  obtain ⟨u, hu, ru⟩ := rv.get hx
  obtain ⟨f0, f1, f2, f3, f4, f5⟩ := hf it (by simp)
  refine wpAny_pyNext_list_item st p.isList (x := u) (by simpa using hu) fun h' st' sb => ?_
  have I1 : Inv X pins σ H { s with heap := h' } := I.turned (t' := s.toks) (fun b o hb e => (sb.2 b hb).trans e) f0 f1 f3 f4 f5
  obtain ⟨o, e, c, d⟩ := id st'
  exact ⟨u, rfl, c6D (s := { s with heap := h' }) e c d (by decide) ⟨x, H, I1, ru, ⟨rfl, fun ys hy => by rw [I.list_inj hy hq]; exact hx⟩, st', fun b hb => (hf b hb).1⟩⟩
 done := by
  intro X hP hw hK hc i pins s σ H E I hf st hg
  subst hP hw hK
  obtain ⟨xs, hq, hx⟩ := hg
  obtain ⟨its, rv, p, hz⟩ := I.list hq
  obtain ⟨f0, f1, f2, f3, f4, f5⟩ := hf it (by simp)
  have hl := rv.length
  exact wpAny_pyNext_list_end (I.ok.hd hc) st p.isList (by simp; omega) fun h' eb => ⟨rfl, I.turned (t' := s.toks) (fun b o hb e => eb b o hb e) f0 f1 f3 f4 f5⟩
 self := fun _ _ _ _ _ st h => wpAny_pyIter_listiter st h
theorem b5E {P : Program} {w : World} {K : Φρ} {tg : Expr} (it : Addr) (lo : Int) (n : Nat) : Turn P w K tg (Itr lo n) [it] it (fun i h => IsRangeIter h it (lo + (i : Nat) * 1) ((n : Int) - (i : Nat)) 1) where
 mem := by simp
 obj := fun i h st b hb => by
  have e : b = it := by simpa using hb
  subst e
  exact ⟨_, st, fun v z => by
   have z' : Data.fields _ = Data.cell v := z
   cases z'⟩
 keep := fun i h h' st k => k it (by simp) _ st
 item := by
  intro X hP hw hK hc i pins s σ H E I hf st hg
  subst hP hw hK
  obtain ⟨f0, f1, f2, f3, f4, f5⟩ := hf it (by simp)
  have W := Walks.range (prog := X.prog) (w := X.w) (I.ok.hd hc) it lo 1 n
  refine W.item i s _ _ hg st fun v h' tk hv st' kk => ?_
  obtain ⟨t, rfl⟩ := hv
  have I1 : Inv X pins σ H { s with heap := h', toks := tk } := I.turned (fun b o hb e => kk b o (by simpa using hb) e) f0 f1 f3 f4 f5
  refine ⟨_, rfl, c6D (s := { s with heap := h', toks := tk }) (n := "range_iterator") st' rfl rfl (by decide) ⟨.int (lo + i), H, I1, ⟨t, ?_⟩, ⟨rfl, rfl⟩, st', fun b hb => (hf b hb).1⟩⟩
  rw [Int.mul_one]
 done := by
  intro X hP hw hK hc i pins s σ H E I hf st hg
  subst hP hw hK
  obtain ⟨f0, f1, f2, f3, f4, f5⟩ := hf it (by simp)
  exact wpAny_pyNext_range_end (I.ok.hd hc) st (by have : n <= i := hg; omega) fun h' eb => ⟨rfl, I.turned (t' := s.toks) (fun b o hb e => eb b o hb e) f0 f1 f3 f4 f5⟩
 self := fun _ _ _ _ _ st h => wpAny_pyIter_rangeiter st h
end L2
namespace L2
open PySem PySem.Spec PyProof.Rows
section
variable {X : Cx} {tg : Expr}
def c6E (K : Φρ) (tl : TE) : TI := fun σ H R => tl σ H fun x H1 => ∃ a, x = .ref a /\ (∃ xs, SqL K H1 a xs) /\ R (Itl K a) H1
theorem c3C {l : Expr} {tl : TE} (hl : PE X l tl) : PI X tg l (c6E X.K tl) := by
 intro pins s σ H R I h
 refine thn (hl pins s σ H _ I h) fun v s1 ⟨x, H1, I1, r1, q1⟩ => ?_
 obtain ⟨a, e, ⟨xs, hq⟩, q⟩ := q1
 subst e
 cases r1
 obtain ⟨its, rv, p, hz⟩ := I1.list hq
 refine wpAny_pyIter_list p.isList ?_
 refine ⟨s1.heap.objs.size, [s1.heap.objs.size], _, _, H1, rfl, I1.kept (t' := s1.toks) fun b o e => Heap.get?_push_of_some _ e, b6G a _, ⟨_, Heap.get?_push_size _ rfl, rfl, rfl⟩, fun b hb => ?_, q⟩
 have e : b = s1.heap.objs.size := by simpa using hb
 subst e
 exact I1.fpOk (Nat.le_refl _) (I1.hok.fresh (Nat.le_refl _))
theorem b3V {pins : List (Addr × Obj)} {σ : St} {H : Hp} {s : Shared} {R : It -> Hp -> Prop} {E : Value -> Shared -> Prop} {lo hi : Int} {t u v : Tok} {tk : Nat} (I : Inv X pins σ H s) (h1 : -(2 ^ 62) <= lo) (h2 : lo < 2 ^ 62) (h3 : -(2 ^ 62) <= hi) (h4 : hi < 2 ^ 62)
  (q : R (Itr lo (hi - lo).toNat) H) : wpAny (model X.prog X.w) X.A (pyIter (.ref s.heap.objs.size)) (PIE X pins σ tg R) E { s with heap := s.heap.push { cls := .type "range", data := .fields #[.int lo t, .int hi u, .int 1 v] }, toks := tk } := by
 refine wpAny_pyIter_range (IsRange.new ..) (small_one h1 h2 h3 h4) ?_
 have I1 : Inv X pins σ H { s with heap := s.heap.push { cls := .type "range", data := .fields #[.int lo t, .int hi u, .int 1 v] }, toks := tk } := I.kept fun b o e => Heap.get?_push_of_some _ e
 refine ⟨(s.heap.push { cls := .type "range", data := .fields #[.int lo t, .int hi u, .int 1 v] }).objs.size, [(s.heap.push { cls := .type "range", data := .fields #[.int lo t, .int hi u, .int 1 v] }).objs.size], _, _, H, rfl,
  I1.kept (t' := tk) fun b o e => Heap.get?_push_of_some _ e, b5E _ lo (hi - lo).toNat, ?_, fun b hb => ?_, q⟩
 ·have e1 : lo + ((0 : Nat) : Int) * 1 = lo := by simp
  have e2 : (((hi - lo).toNat : Nat) : Int) - ((0 : Nat) : Int) = Builtin.Range.rangeSize lo hi 1 := by rw [rangeSize_one]; split <;> omega
  show IsRangeIter _ _ (lo + ((0 : Nat) : Int) * 1) ((((hi - lo).toNat : Nat) : Int) - ((0 : Nat) : Int)) 1
  rw [e1, e2]
  exact Heap.get?_push_size _ rfl
 ·have e : b = (s.heap.push { cls := .type "range", data := .fields #[.int lo t, .int hi u, .int 1 v] }).objs.size := by simpa using hb
  subst e
  exact I1.fpOk (Nat.le_refl _) (I1.hok.fresh (Nat.le_refl _))
def c8G (ta : TA) : TI := fun σ H R => ta σ H fun vs H1 => ∃ j : Int, vs = [.int j] /\ -(2 ^ 62) <= j /\ j < 2 ^ 62 /\ R (Itr 0 j.toNat) H1
def c8H (ta : TA) : TI := fun σ H R => ta σ H fun vs H1 => ∃ i j : Int, vs = [.int i, .int j] /\ (-(2 ^ 62) <= i /\ i < 2 ^ 62 /\ -(2 ^ 62) <= j /\ j < 2 ^ 62) /\ R (Itr i (j - i).toNat) H1
theorem a1U {a : Expr} {ta : TA} {p pos : Pos} (hg : Gl X "range") (hm : X.mg "range" = none) (ha : PA X [a] ta) (hs : starEach [a] X.env = [(false, eval a X.env)] := by rfl) : PI X tg (.Call (.Name "range" p) [a] [] pos) (c8G ta) := by
 intro pins s σ H R I h
 refine Call_ (a6B I hg hm boot_range (PyProof.Rows.callWith_type1 (thn (ha pos pins s σ H _ I h) fun us s1 ⟨vs, H1, I1, r1, q1⟩ => ?_) hs rfl))
 obtain ⟨j, e, q1, q2, q⟩ := q1
 subst e
 cases r1 with
 | cons r rr =>
  cases rr
  obtain ⟨t, rfl⟩ := r
  exact call_range_1 (b3V I1 (by omega) (by omega) q1 q2 (by simpa using q))
theorem a3H {a b : Expr} {ta : TA} {p pos : Pos} (hg : Gl X "range") (hm : X.mg "range" = none) (ha : PA X [a, b] ta) (hs : starEach [a, b] X.env = [(false, eval a X.env), (false, eval b X.env)] := by rfl) (hs2 : starEach [b] X.env = [(false, eval b X.env)] := by rfl) :
  PI X tg (.Call (.Name "range" p) [a, b] [] pos) (c8H ta) := by
 intro pins s σ H R I h
 refine Call_ (a6B I hg hm boot_range (PyProof.Rows.callWith_type1 (thn (ha pos pins s σ H _ I h) fun us s1 ⟨vs, H1, I1, r1, q1⟩ => ?_) (by rw [hs, hs2]) (by rw [hs2]; rfl)))
 obtain ⟨i, j, e, ⟨q1, q2, q3, q4⟩, q⟩ := q1
 subst e
 cases r1 with
 | cons r rr =>
  cases rr with
  | cons r' rr =>
   cases rr
   obtain ⟨t, rfl⟩ := r
   obtain ⟨t', rfl⟩ := r'
   exact call_range_2 (b3V I1 q1 q2 q3 q4 q)
def tFor (wi : TI) (g : TG) (tb : TS) : TS := fun D σ H => wi σ H fun J H1 => ∃ W : Nat -> Nat -> St -> Hp -> Prop, (∃ m, W 0 m σ H1) /\ ∀ i m σ H, W i m σ H ->
 (J.stop i H /\ D.nx σ H) \/ (J.go i H /\ ∃ N : St -> Hp -> Prop, (∀ σ' H', N σ' H' -> ∃ m', m' < m /\ W (i + 1) m' σ' H') /\ ∀ x H', J.yld i H x H' -> g x σ H' fun σ2 H2 => tb { D with nx := N, ct := N, bk := D.nx } σ2 H2)
def a7J (fp : List Addr) (h : Heap) : List (Addr × Obj) := fp.filterMap fun b => (h.get? b).map fun o => (b, o)
theorem a4F {fp : List Addr} {h : Heap} {b : Addr} {o : Obj} (hb : b ∈ fp) (e : h.get? b = some o) : (b, o) ∈ a7J fp h := List.mem_filterMap.mpr ⟨b, hb, by rw [e]; rfl⟩
theorem b6H {fp : List Addr} {h : Heap} {p : Addr × Obj} (hp : p ∈ a7J fp h) : p.1 ∈ fp /\ h.get? p.1 = some p.2 := by
 obtain ⟨b, hb, e⟩ := List.mem_filterMap.mp hp
 cases q : h.get? b with
 | none => rw [q] at e; cases e
 | some o =>
  rw [q] at e
  have e' : (b, o) = p := Option.some.inj e
  subst e'
  exact ⟨hb, q⟩
theorem Inv.pinned {pins : List (Addr × Obj)} {σ : St} {H : Hp} {s : Shared} {fp : List Addr} (I : Inv X pins σ H s) (hf : ∀ b ∈ fp, FpOk X pins H b) (ho : ∀ b ∈ fp, ∃ o, s.heap.get? b = some o /\ ∀ v, o.data ≠ .cell v) : Inv X (pins ++ a7J fp s.heap) σ H s :=
 I.pins_of fun p hp => (List.mem_append.mp hp).elim (fun z => I.pin p (List.mem_append_right _ z)) fun z => by
  obtain ⟨hb, e⟩ := b6H z
  obtain ⟨f0, f1, f2, _⟩ := hf p.1 hb
  obtain ⟨o, e', d⟩ := ho p.1 hb
  rw [e] at e'; cases e'
  exact ⟨e, f0, f1, f2, d⟩
theorem Inv.unpinned {pins pl : List (Addr × Obj)} {σ : St} {H : Hp} {s : Shared} (I : Inv X (pins ++ pl) σ H s) : Inv X pins σ H s := I.pins_of fun p hp => I.pin p (List.mem_append_right _ (List.mem_append_left _ hp))
theorem a1I {iter : Expr} {body : List Stmt} {wi : TI} {g : TG} {tb : TS} {pos : Pos} (hp : PassesOwn (model X.prog X.w) X.A X.env X.xe) (hc : X.calm = true) (hi : PI X tg iter wi) (hg : PG X tg g) (hb : PSs X body tb)
  (hs : ∀ x, foldedSetIterable iter X.env x = pure x := by intro _; rfl) : PS X (.For tg iter body [] pos) (tFor wi g tb) := by
 intro pins s σ H D I h
 refine wpAny_For (thn (hi pins s σ H _ I h) fun v s1 h1 => thn h1 fun itv s2 h2 => ?_) hs
 obtain ⟨it, fp, tn, J, H2, e, I2, T, st2, f2, W, ⟨m0, w0⟩, turn⟩ := h2
 subst e
 have stat : ∀ {H' : Hp}, (∀ b ∈ fp, H' b = none) -> ∀ b ∈ fp, FpOk X pins H' b := fun hn b hb => ⟨hn b hb, (f2 b hb).2⟩
 refine codeAny_forLoop_any (fun n s' => ∃ i σ' H', Inv X pins σ' H' s' /\ tn i s'.heap /\ (∀ b ∈ fp, H' b = none) /\ W i n σ' H') ?_ m0 ⟨0, σ, H2, I2, st2, fun b hb => (f2 b hb).1, w0⟩
 rintro n s3 ⟨i, σ3, H3, I3, st3, fr3, w3⟩
 rcases turn i n σ3 H3 w3 with ⟨stop, qn⟩ | ⟨go, N, hN, step⟩
 ·refine wpAny_passesOwn hp (thn (T.done X rfl rfl rfl hc i pins s3 σ3 H3 X.xe I3 (stat fr3) st3 stop) fun r s4 ⟨hr, I4⟩ => ?_)
  subst hr
  exact wpAny_execs_nil ⟨σ3, H3, I4, qn⟩
 ·refine wpAny_passesOwn hp (thn (T.item X rfl rfl rfl hc i pins s3 σ3 H3 X.xe I3 (stat fr3) st3 go) fun r s4 ⟨u, hr, h4⟩ => ?_)
  subst hr
  refine wpAny_passesOwn hp (thn h4 fun _ s5 ⟨x, H5, I5, r5, y5, st5, fr5⟩ => ?_)
  have I5' := I5.pinned (stat fr5) (T.obj _ _ st5)
  refine wpAny_passesOwn hp (thn (hg _ s5 σ3 H5 x u _ I5' r5 (step x H5 y5)) fun _ s6 ⟨σ6, H6, I6, q6⟩ => ?_)
  refine wpAny_passesOwn hp (thn (hb _ s6 σ6 H6 _ I6 q6) fun f s7 q7 => ?_)
  have again : ∀ {σ7 : St} {H7 : Hp}, Inv X (pins ++ a7J fp s5.heap) σ7 H7 s7 -> N σ7 H7 -> ∃ m, m < n /\ ∃ i σ' H', Inv X pins σ' H' s7 /\ tn i s7.heap /\ (∀ b ∈ fp, H' b = none) /\ W i m σ' H' := fun {σ7 H7} I7 n7 => by
   obtain ⟨m', hm, w7⟩ := hN σ7 H7 n7
   refine ⟨m', hm, i + 1, σ7, H7, I7.unpinned, T.keep _ _ _ st5 fun b hb o e => (I7.pin (b, o) (List.mem_append_right _ (List.mem_append_right _ (a4F hb e)))).1, fun b hb => ?_, w7⟩
   obtain ⟨o, e, d⟩ := T.obj _ _ st5 b hb
   exact (I7.pin (b, o) (List.mem_append_right _ (List.mem_append_right _ (a4F hb e)))).2.1
  cases f with
  | next => obtain ⟨σ7, H7, I7, n7⟩ := q7; exact again I7 n7
  | cont => obtain ⟨σ7, H7, I7, n7⟩ := q7; exact again I7 n7
  | brk => obtain ⟨σ7, H7, I7, q7⟩ := q7; exact ⟨σ7, H7, I7.unpinned, q7⟩
  | ret v => obtain ⟨x7, σ7, H7, I7, r7, q7⟩ := q7; exact ⟨x7, σ7, H7, I7.unpinned, r7, q7⟩
end
theorem a2E {K : Φρ} {a : Addr} {xs : List V} {g : TG} {tb : TS} {D : Ends} {σ : St} {H : Hp} (Pv : Nat -> St -> Hp -> Prop) (h0 : Pv 0 σ H) (hl : ∀ i σ H, i <= xs.length -> Pv i σ H -> SqL K H a xs)
  (hs : ∀ i x σ H, xs[i]? = some x -> Pv i σ H -> g x σ H fun σ2 H2 => tb { D with nx := Pv (i + 1), ct := Pv (i + 1), bk := D.nx } σ2 H2) (hd : ∀ σ H, Pv xs.length σ H -> D.nx σ H) :
  ∃ W : Nat -> Nat -> St -> Hp -> Prop, (∃ m, W 0 m σ H) /\ ∀ i m σ H, W i m σ H ->
   ((Itl K a).stop i H /\ D.nx σ H) \/ ((Itl K a).go i H /\ ∃ N : St -> Hp -> Prop, (∀ σ' H', N σ' H' -> ∃ m', m' < m /\ W (i + 1) m' σ' H') /\ ∀ x H', (Itl K a).yld i H x H' -> g x σ H' fun σ2 H2 => tb { D with nx := N, ct := N, bk := D.nx } σ2 H2) := by
 refine ⟨fun i m σ H => m = xs.length - i /\ i <= xs.length /\ Pv i σ H, ⟨xs.length, by simp, Nat.zero_le _, h0⟩, ?_⟩
 rintro i m σ H ⟨rfl, hi, p⟩
 have q := hl i σ H hi p
 by_cases hlt : i < xs.length
 ·refine .inr ⟨⟨xs, xs[i], q, by simp [hlt]⟩, Pv (i + 1), fun σ' H' p' => ⟨xs.length - (i + 1), by omega, rfl, hlt, p'⟩, fun x H' y => ?_⟩
  obtain ⟨e, y⟩ := y
  subst e
  exact hs i x σ _ (y xs q) p
 ·have e : i = xs.length := by omega
  subst e
  exact .inl ⟨⟨xs, q, Nat.le_refl _⟩, hd σ H p⟩
theorem a2B {lo : Int} {n : Nat} {g : TG} {tb : TS} {D : Ends} {σ : St} {H : Hp} (Pv : Nat -> St -> Hp -> Prop) (h0 : Pv 0 σ H)
  (hs : ∀ i σ H, i < n -> Pv i σ H -> g (.int (lo + i)) σ H fun σ2 H2 => tb { D with nx := Pv (i + 1), ct := Pv (i + 1), bk := D.nx } σ2 H2) (hd : ∀ σ H, Pv n σ H -> D.nx σ H) :
  ∃ W : Nat -> Nat -> St -> Hp -> Prop, (∃ m, W 0 m σ H) /\ ∀ i m σ H, W i m σ H ->
   ((Itr lo n).stop i H /\ D.nx σ H) \/ ((Itr lo n).go i H /\ ∃ N : St -> Hp -> Prop, (∀ σ' H', N σ' H' -> ∃ m', m' < m /\ W (i + 1) m' σ' H') /\ ∀ x H', (Itr lo n).yld i H x H' -> g x σ H' fun σ2 H2 => tb { D with nx := N, ct := N, bk := D.nx } σ2 H2) := by
 refine ⟨fun i m σ H => m = n - i /\ i <= n /\ Pv i σ H, ⟨n, by simp, Nat.zero_le _, h0⟩, ?_⟩
 rintro i m σ H ⟨rfl, hi, p⟩
 by_cases hlt : i < n
 ·refine .inr ⟨hlt, Pv (i + 1), fun σ' H' p' => ⟨n - (i + 1), by omega, rfl, hlt, p'⟩, fun x H' y => ?_⟩
  obtain ⟨e, y⟩ := y
  subst e y
  exact hs i σ _ hlt p
 ·have e : i = n := by omega
  subst e
  exact .inl ⟨Nat.le_refl _, hd σ H p⟩
end L2
namespace L2
open PySem PySem.Spec PyProof.Rows
abbrev R2 := V -> V -> Hp -> VK -> Prop
def OpR (X : Cx) (f : Value -> Value -> Sem Value) (r : R2) : Prop :=
 ∀ (pins : List (Addr × Obj)) (s : Shared) (σ : St) (H : Hp) (x y : V) (v u : Value) (Q : VK), Inv X pins σ H s -> RelV x v -> RelV y u -> r x y H Q ->
  wpAny (model X.prog X.w) X.A (f v u) (EP X pins σ Q) X.xe s
def UnR (X : Cx) (f : Value -> Sem Value) (r : V -> Hp -> VK -> Prop) : Prop :=
 ∀ (pins : List (Addr × Obj)) (s : Shared) (σ : St) (H : Hp) (x : V) (v : Value) (Q : VK), Inv X pins σ H s -> RelV x v -> r x H Q ->
  wpAny (model X.prog X.w) X.A (f v) (EP X pins σ Q) X.xe s
def CallR (X : Cx) (f : Value) (r : List V -> Hp -> VK -> Prop) : Prop :=
 ∀ (pins : List (Addr × Obj)) (s : Shared) (σ : St) (H : Hp) (xs : List V) (us : List Value) (Q : VK), Inv X pins σ H s -> Vals xs us -> r xs H Q ->
  wpAny (model X.prog X.w) X.A (call f us) (EP X pins σ Q) X.xe s
def TruR (X : Cx) (r : V -> Hp -> (Bool -> Hp -> Prop) -> Prop) : Prop :=
 ∀ (pins : List (Addr × Obj)) (s : Shared) (σ : St) (H : Hp) (x : V) (v : Value) (Q : Bool -> Hp -> Prop), Inv X pins σ H s -> RelV x v -> r x H Q ->
  wpAny (model X.prog X.w) X.A (truthy v) (TP X pins σ Q) X.xe s
def tOp (r : R2) (ta tb : TE) : TE := fun σ H Q => ta σ H fun x H1 => tb σ H1 fun y H2 => r x y H2 Q
def tUn (r : V -> Hp -> VK -> Prop) (ta : TE) : TE := fun σ H Q => ta σ H fun x H1 => r x H1 Q
def rI (C : Int -> Int -> Prop) (g : Int -> Int -> V) : R2 := fun x y H Q => ∃ i j, x = .int i /\ y = .int j /\ C i j /\ Q (g i j) H
def rI0 (g : Int -> Int -> V) : R2 := fun x y H Q => ∃ i j, x = .int i /\ y = .int j /\ Q (g i j) H
def rU (g : Int -> V) : V -> Hp -> VK -> Prop := fun x H Q => ∃ i, x = .int i /\ Q (g i) H
section
variable {X : Cx} {a b c : Expr} {ta tb tc : TE} {pos : Pos}
theorem binT (ha : PE X a ta) (hb : PE X b tb) {pins : List (Addr × Obj)} {s : Shared} {σ : St} {H : Hp} {R : V -> V -> Hp -> Prop} (I : Inv X pins σ H s)
  (h : ta σ H fun x H1 => tb σ H1 fun y H2 => R x y H2) {Q : Value -> Shared -> Prop} {f : Value -> Value -> Sem Value}
  (hf : ∀ v u s2 x y H2, Inv X pins σ H2 s2 -> RelV x v -> RelV y u -> R x y H2 -> wpAny (model X.prog X.w) X.A (f v u) Q X.xe s2) :
  wpAny (model X.prog X.w) X.A (eval a X.env) (fun v s₁ => wpAny (model X.prog X.w) X.A (eval b X.env) (fun u s₂ => wpAny (model X.prog X.w) X.A (f v u) Q X.xe s₂) X.xe s₁) X.xe s := by
 refine thn (ha pins s σ H _ I h) fun v s1 ⟨x, H1, I1, r1, q1⟩ => ?_
 refine thn (hb pins s1 σ H1 _ I1 q1) fun u s2 ⟨y, H2, I2, r2, q2⟩ => ?_
 exact hf v u s2 x y H2 I2 r1 r2 q2
theorem a0K {op : Operator} {r : R2} (ho : OpR X (binaryOp op) r) (ha : PE X a ta) (hb : PE X b tb) : PE X (.BinOp a op b pos) (tOp r ta tb) := by
 intro pins s σ H Q I h
 exact wpAny_BinOp (binT ha hb I h fun v u s2 x y H2 I2 rx ry q => ho pins s2 σ H2 x y v u Q I2 rx ry q)
theorem b0H {op : UnaryOp} {r : V -> Hp -> VK -> Prop} (ho : UnR X (unaryOp op) r) (ha : PE X a ta) : PE X (.UnaryOp op a pos) (tUn r ta) := by
 intro pins s σ H Q I h
 exact UnaryOp_ (thn (ha pins s σ H _ I h) fun v s1 ⟨x, H1, I1, r1, q1⟩ => ho pins s1 σ H1 x v Q I1 r1 q1)
theorem opI {f : Value -> Value -> Sem Value} {C : Int -> Int -> Prop} {g : Int -> Int -> Int}
  (rule : ∀ (i j : Int) (t u : Tok) (s : Shared) (Q : Value -> Shared -> Prop) (E : Value -> Shared -> Prop), C i j -> Q (.int (g i j) s.toks) { s with toks := s.toks + 1 } -> wpAny (model X.prog X.w) X.A (f (.int i t) (.int j u)) Q E s) :
  OpR X f (rI C fun i j => .int (g i j)) := by
 intro pins s σ H x y v u Q I rx ry h
 obtain ⟨i, j, rfl, rfl, hc, q⟩ := h
 obtain ⟨t, rfl⟩ := rx
 obtain ⟨t', rfl⟩ := ry
 exact rule i j t t' s _ _ hc ⟨.int (g i j), H, I.tok _, ⟨_, rfl⟩, q⟩
theorem opI0 {f : Value -> Value -> Sem Value} {g : Int -> Int -> Int}
  (rule : ∀ (i j : Int) (t u : Tok) (s : Shared) (Q : Value -> Shared -> Prop) (E : Value -> Shared -> Prop), Q (.int (g i j) s.toks) { s with toks := s.toks + 1 } -> wpAny (model X.prog X.w) X.A (f (.int i t) (.int j u)) Q E s) :
  OpR X f (rI0 fun i j => .int (g i j)) := by
 intro pins s σ H x y v u Q I rx ry h
 obtain ⟨i, j, rfl, rfl, q⟩ := h
 obtain ⟨t, rfl⟩ := rx
 obtain ⟨t', rfl⟩ := ry
 exact rule i j t t' s _ _ ⟨.int (g i j), H, I.tok _, ⟨_, rfl⟩, q⟩
theorem opB0 {f : Value -> Value -> Sem Value} {g : Int -> Int -> Bool}
  (rule : ∀ (i j : Int) (t u : Tok) (s : Shared) (Q : Value -> Shared -> Prop) (E : Value -> Shared -> Prop), Q (.bool (g i j)) s -> wpAny (model X.prog X.w) X.A (f (.int i t) (.int j u)) Q E s) :
  OpR X f (rI0 fun i j => .bl (g i j)) := by
 intro pins s σ H x y v u Q I rx ry h
 obtain ⟨i, j, rfl, rfl, q⟩ := h
 obtain ⟨t, rfl⟩ := rx
 obtain ⟨t', rfl⟩ := ry
 exact rule i j t t' s _ _ ⟨.bl (g i j), H, I, rfl, q⟩
def CDiv (i j : Int) : Prop := 0 < j /\ j < 1073741824
def CPow (i j : Int) : Prop := 0 <= j /\ j <= 1000000 /\ i.natAbs < 2 ^ 64
def CMul (i j : Int) : Prop := (-(2 ^ 64) < i /\ i < 2 ^ 64) \/ (-(2 ^ 64) < j /\ j < 2 ^ 64)
theorem CMul.ok {i j : Int} (h : CMul i j) : IntMulOk i j := by
 rcases h with ⟨h1, h2⟩ | ⟨h1, h2⟩
 ·exact .of_left (intBits_le_64 h1 h2)
 ·exact .of_right (intBits_le_64 h1 h2)
theorem b5F (k : Nat) : (0 : Int) <= 2 ^ k := by
 rw [two_pow_cast]
 exact Int.natCast_nonneg _
theorem a2U : OpR X (binaryOp .Add) (rI0 fun i j => .int (i + j)) := opI0 fun _ _ _ _ _ _ _ q => add_int q
theorem a3Q : OpR X (binaryOp .Sub) (rI0 fun i j => .int (i - j)) := opI0 fun _ _ _ _ _ _ _ q => sub_int q
theorem a8U : OpR X (binaryOp .Mult) (rI CMul fun i j => .int (i * j)) := opI fun _ _ _ _ _ _ _ hc q => mul_int q hc.ok
theorem a7K : OpR X (binaryOp .FloorDiv) (rI CDiv fun i j => .int (i / j)) := opI fun i j _ _ _ _ _ hc q => by
 have h1 : (0 : Int) < j := hc.1
 have h2 : j < 1073741824 := hc.2
 exact floordiv_int (by omega) (by rw [Int.fdiv_eq_ediv_of_nonneg i (by omega)]; exact q) (.inl (PyProof.noPylong_small (by omega)))
theorem a2C : OpR X (binaryOp .Mod) (rI (fun _ j => 0 < j) fun i j => .int (i % j)) := opI fun i j _ _ _ _ _ hc q => by
 have h1 : (0 : Int) < j := hc
 exact mod_int' (by omega) (by rw [Int.fmod_eq_emod_of_nonneg i (by omega)]; exact q)
theorem a8V : OpR X (binaryOp .Pow) (rI CPow fun i j => .int (i ^ j.toNat)) := opI fun _ _ _ _ _ _ _ hc q => pow_int_small hc.1 hc.2.1 hc.2.2 q
theorem a1Z : OpR X (binaryOp .LShift) (rI CPow fun i j => .int (i * 2 ^ j.toNat)) := opI fun _ _ _ _ _ _ _ hc q => lshift_int_small hc.1 hc.2.1 hc.2.2 q
theorem b3W : OpR X (binaryOp .RShift) (rI (fun _ j => 0 <= j) fun i j => .int (i / 2 ^ j.toNat)) := opI fun i j _ _ _ _ _ hc q =>
 rshift_int hc (by rw [Int.fdiv_eq_ediv_of_nonneg i (b5F _)]; exact q)
theorem a3T : OpR X (binaryOp .BitAnd) (rI0 fun i j => .int (Builtin.bitAnd i j)) := opI0 fun _ _ _ _ _ _ _ q => and_int q
theorem a7L : OpR X (binaryOp .BitOr) (rI0 fun i j => .int (Builtin.bitOr i j)) := opI0 fun _ _ _ _ _ _ _ q => or_int q
theorem unI {f : Value -> Sem Value} {g : Int -> Int}
  (rule : ∀ (i : Int) (t : Tok) (s : Shared) (Q : Value -> Shared -> Prop) (E : Value -> Shared -> Prop), Q (.int (g i) s.toks) { s with toks := s.toks + 1 } -> wpAny (model X.prog X.w) X.A (f (.int i t)) Q E s) :
  UnR X f (rU fun i => .int (g i)) := by
 intro pins s σ H x v Q I rx h
 obtain ⟨i, rfl, q⟩ := h
 obtain ⟨t, rfl⟩ := rx
 exact rule i t s _ _ ⟨.int (g i), H, I.tok _, ⟨_, rfl⟩, q⟩
theorem a6E : UnR X (unaryOp .USub) (rU fun i => .int (-i)) := unI fun _ _ _ _ _ q => neg_int q
end
def scal : V -> V -> Bool
 | .non, .non => true | .non, .int _ => true | .int _, .non => true | .non, .bl _ => true | .bl _, .non => true | .non, .str _ => true | .str _, .non => true
 | .int _, .int _ => true | .bl _, .bl _ => true | .str _, .str _ => true | .byt _, .byt _ => true
 | .int _, .str _ => true | .str _, .int _ => true | .bl _, .str _ => true | .str _, .bl _ => true
 | _, _ => false
def rEq : R2 := fun x y H Q => scal x y = true /\ Q (.bl (decide (x = y))) H
def rNe : R2 := fun x y H Q => scal x y = true /\ Q (.bl (!decide (x = y))) H
theorem b6I {i j : Int} : decide (V.int i = V.int j) = (i == j) := by
 rw [Bool.eq_iff_iff]
 simp
theorem c2J {i j : Bool} : decide (V.bl i = V.bl j) = (i == j) := by
 rw [Bool.eq_iff_iff]
 simp
theorem b6J {i j : Str} : decide (V.str i = V.str j) = (i == j) := by
 rw [Bool.eq_iff_iff]
 simp
theorem b6K {i j : Array UInt8} : decide (V.byt i = V.byt j) = (i.toList == j.toList) := by
 rw [Bool.eq_iff_iff]
 cases i
 cases j
 simp
section
variable {X : Cx} {a b c : Expr} {ta tb tc : TE} {pos : Pos}
theorem a1E {pins : List (Addr × Obj)} {σ : St} {H : Hp} {s : Shared} {Q : VK} {k k' : Bool} (I : Inv X pins σ H s) (q : Q (.bl k) H) (e : k = k') : EP X pins σ Q (.bool k') s := by
 subst e
 exact ⟨.bl k, H, I, rfl, q⟩
theorem a3U : OpR X (compareOp .Eq) rEq := by
 intro pins s σ H x y v u Q I rx ry h
 obtain ⟨hs, q⟩ := h
 cases x with
 | non =>
  cases rx
  cases y with
  | non => cases ry; exact PySem.EqNone.eq_none_none (a1E I q (by simp))
  | bl j => cases ry; exact PySem.EqNone.eq_none_bool (a1E I q (by simp))
  | int j => obtain ⟨t', rfl⟩ := ry; exact PySem.EqNone.eq_none_int (a1E I q (by simp))
  | str j => obtain ⟨t', rfl⟩ := ry; exact PySem.EqNone.eq_none_str (a1E I q (by simp))
  | _ => exact absurd (show false = true from hs) Bool.false_ne_true
 | bl i =>
  cases rx
  cases y with
  | non => cases ry; exact PySem.EqNone.eq_bool_none (a1E I q (by simp))
  | bl j => cases ry; exact eq_bool (a1E I q c2J)
  | str j => obtain ⟨t', rfl⟩ := ry; exact PySem.EqMixed.eq_bool_str (a1E I q (by simp))
  | _ => exact absurd (show false = true from hs) Bool.false_ne_true
 | int i =>
  obtain ⟨t, rfl⟩ := rx
  cases y with
  | non => cases ry; exact PySem.EqNone.eq_int_none (a1E I q (by simp))
  | int j => obtain ⟨t', rfl⟩ := ry; exact eq_int (a1E I q b6I)
  | str j => obtain ⟨t', rfl⟩ := ry; exact PySem.EqMixed.eq_int_str (a1E I q (by simp))
  | _ => exact absurd (show false = true from hs) Bool.false_ne_true
 | str i =>
  obtain ⟨t, rfl⟩ := rx
  cases y with
  | non => cases ry; exact PySem.EqNone.eq_str_none (a1E I q (by simp))
  | bl j => cases ry; exact PySem.EqMixed.eq_str_bool (a1E I q (by simp))
  | int j => obtain ⟨t', rfl⟩ := ry; exact PySem.EqMixed.eq_str_int (a1E I q (by simp))
  | str j => obtain ⟨t', rfl⟩ := ry; exact eq_str (a1E I q b6J)
  | _ => exact absurd (show false = true from hs) Bool.false_ne_true
 | byt i =>
  obtain ⟨t, rfl⟩ := rx
  cases y with
  | byt j => obtain ⟨t', rfl⟩ := ry; exact PySem.W.eq_bytes (a1E I q b6K)
  | _ => exact absurd (show false = true from hs) Bool.false_ne_true
 | _ => cases y <;> exact absurd (show false = true from hs) Bool.false_ne_true
theorem c0C : OpR X (compareOp .NotEq) rNe := by
 intro pins s σ H x y v u Q I rx ry h
 obtain ⟨hs, q⟩ := h
 cases x with
 | non =>
  cases rx
  cases y with
  | non => cases ry; exact PySem.EqNone.ne_none_none (a1E I q (by simp))
  | bl j => cases ry; exact PySem.EqNone.ne_none_bool (a1E I q (by simp))
  | int j => obtain ⟨t', rfl⟩ := ry; exact PySem.EqNone.ne_none_int (a1E I q (by simp))
  | str j => obtain ⟨t', rfl⟩ := ry; exact PySem.EqNone.ne_none_str (a1E I q (by simp))
  | _ => exact absurd (show false = true from hs) Bool.false_ne_true
 | bl i =>
  cases rx
  cases y with
  | non => cases ry; exact PySem.EqNone.ne_bool_none (a1E I q (by simp))
  | bl j => cases ry; exact ne_bool (a1E I q (congrArg not c2J))
  | str j => obtain ⟨t', rfl⟩ := ry; exact PySem.EqMixed.ne_bool_str (a1E I q (by simp))
  | _ => exact absurd (show false = true from hs) Bool.false_ne_true
 | int i =>
  obtain ⟨t, rfl⟩ := rx
  cases y with
  | non => cases ry; exact PySem.EqNone.ne_int_none (a1E I q (by simp))
  | int j => obtain ⟨t', rfl⟩ := ry; exact ne_int (a1E I q (congrArg not b6I))
  | str j => obtain ⟨t', rfl⟩ := ry; exact PySem.EqMixed.ne_int_str (a1E I q (by simp))
  | _ => exact absurd (show false = true from hs) Bool.false_ne_true
 | str i =>
  obtain ⟨t, rfl⟩ := rx
  cases y with
  | non => cases ry; exact PySem.EqNone.ne_str_none (a1E I q (by simp))
  | bl j => cases ry; exact PySem.EqMixed.ne_str_bool (a1E I q (by simp))
  | int j => obtain ⟨t', rfl⟩ := ry; exact PySem.EqMixed.ne_str_int (a1E I q (by simp))
  | str j => obtain ⟨t', rfl⟩ := ry; exact ne_str (a1E I q (congrArg not b6J))
  | _ => exact absurd (show false = true from hs) Bool.false_ne_true
 | byt i =>
  obtain ⟨t, rfl⟩ := rx
  cases y with
  | byt j => obtain ⟨t', rfl⟩ := ry; exact PySem.W.ne_bytes (a1E I q (congrArg not b6K))
  | _ => exact absurd (show false = true from hs) Bool.false_ne_true
 | _ => cases y <;> exact absurd (show false = true from hs) Bool.false_ne_true
theorem b5G : OpR X (compareOp .Lt) (rI0 fun i j => .bl (decide (i < j))) := opB0 fun _ _ _ _ _ _ _ q => lt_int q
theorem c6F : OpR X (compareOp .LtE) (rI0 fun i j => .bl (decide (i <= j))) := opB0 fun _ _ _ _ _ _ _ q => le_int q
theorem b5H : OpR X (compareOp .Gt) (rI0 fun i j => .bl (decide (j < i))) := opB0 fun _ _ _ _ _ _ _ q => gt_int q
theorem c6G : OpR X (compareOp .GtE) (rI0 fun i j => .bl (decide (j <= i))) := opB0 fun _ _ _ _ _ _ _ q => ge_int q
theorem c6H : OpR X (compareOp .Is) (fun x y H Q => y = .non /\ Q (.bl (decide (x = .non))) H) := by
  intro pins s σ H x y v u Q I rx ry h
  obtain ⟨rfl, q⟩ := h
  cases ry
  refine is_none_gen (a1E I q ?_)
  cases x <;> first
    | (cases rx; rfl)
    | (obtain ⟨t, rfl⟩ := rx; rfl)
theorem a5S : OpR X (compareOp .IsNot) (fun x y H Q => y = .non /\ Q (.bl (!decide (x = .non))) H) := by
  intro pins s σ H x y v u Q I rx ry h
  obtain ⟨rfl, q⟩ := h
  cases ry
  refine isnot_none_gen (a1E I q ?_)
  cases x <;> first
    | (cases rx; rfl)
    | (obtain ⟨t, rfl⟩ := rx; rfl)
theorem a0W (b : Expr) {op : CmpOp} (h : op ≠ .In := by decide) (h2 : op ≠ .NotIn := by decide) : behindInMarks op b = false := by
 have e1 : (op == CmpOp.In) = false := by cases op <;> first | rfl | exact absurd rfl h
 have e2 : (op == CmpOp.NotIn) = false := by cases op <;> first | rfl | exact absurd rfl h2
 cases b <;> simp [behindInMarks, e1, e2]
theorem a5T {op : CmpOp} {r : R2} (ho : OpR X (compareOp op) r) (ha : PE X a ta) (hb : PE X b tb) (hm : behindInMarks op b = false) : PE X (.Compare a [op] [b] pos) (tOp r ta tb) := by
 intro pins s σ H Q I h
 exact wpAny_Compare1 (binT ha hb I h fun v u s2 x y H2 I2 rx ry q => ho pins s2 σ H2 x y v u Q I2 rx ry q) hm
def c8I (t : TE) : TT := fun σ H Q => t σ H fun x H' => ∃ k, x = .bl k /\ Q k H'
theorem a0N {op : CmpOp} {r : R2} (ho : OpR X (compareOp op) r) (ha : PE X a ta) (hb : PE X b tb) (hm : behindInMarks op b = false) : PT X (.Compare a [op] [b] pos) (c8I (tOp r ta tb)) := by
 intro pins s σ H Q I h
 refine wpAny_isTrue_Compare1 (thn (ha pins s σ H _ I h) fun v s1 ⟨x, H1, I1, r1, q1⟩ => thn (hb pins s1 σ H1 _ I1 q1) fun u s2 ⟨y, H2, I2, r2, q2⟩ =>
  thn (ho pins s2 σ H2 x y v u _ I2 r1 r2 q2) fun c s3 ⟨z, H3, I3, r3, k, e, q3⟩ => ?_) hm
 subst e
 cases r3
 exact wpAny_truthy_bool ⟨H3, I3, q3⟩
def c6I (r r' : R2) (ta tb tc : TE) : TE := fun σ H Q => ta σ H fun x H1 => tb σ H1 fun y H2 => r x y H2 fun z H3 => ∃ k, z = .bl k /\
 (if k = true then tc σ H3 fun w' H4 => r' y w' H4 Q else Q (.bl false) H3)
theorem c0D {op op' : CmpOp} {r r' : R2} (ho : OpR X (compareOp op) r) (ho' : OpR X (compareOp op') r') (ha : PE X a ta) (hb : PE X b tb) (hc : PE X c tc)
  (hm : lastMarks [op, op'] [b, c] = false := by with_unfolding_all rfl) : PE X (.Compare a [op, op'] [b, c] pos) (c6I r r' ta tb tc) := by
 intro pins s σ H Q I h
 refine Compare_chain (thn (ha pins s σ H _ I h) fun v s1 ⟨x, H1, I1, r1, q1⟩ => chain_link (thn (hb pins s1 σ H1 _ I1 q1) fun u s2 ⟨y, H2, I2, r2, q2⟩ =>
  thn (ho pins s2 σ H2 x y v u _ I2 r1 r2 q2) fun d s3 ⟨z, H3, I3, r3, k, e, q3⟩ => ?_)) hm
 subst e
 cases r3
 refine wpAny_truthy_bool ?_
 cases k with
 | false => exact ite_ff ⟨.bl false, H3, I3, rfl, q3⟩
 | true => exact ite_tt (chain_last (thn (hc pins s3 σ H3 _ I3 q3) fun w' s4 ⟨z', H4, I4, r4, q4⟩ => ho' pins s4 σ H4 y z' u w' Q I4 r2 r4 q4))
def TruV (K : Φρ) (x : V) (H : Hp) (k : Bool) : Prop :=
 match x with
 | .non => k = false
 | .bl b => k = b
 | .int i => k = (i != 0)
 | .str y => y.length <= sizeLine /\ k = ((y.length : Int) != 0)
 | .byt y => y.size <= sizeLine /\ k = ((y.size : Int) != 0)
 | .ref p => (∃ xs, SqL K H p xs /\ k = !xs.isEmpty) \/ (∃ xs, SqT K H p xs /\ k = !xs.isEmpty) \/ ∃ kvs, H p = some (.dK kvs) /\ k = !kvs.isEmpty
 | _ => False
theorem b5I {κ : Type} {kvs : List (κ × V)} {vs : List (κ × Value)} (r : KV kvs vs) : (!vs.isEmpty) = !kvs.isEmpty := by
 cases r <;> rfl
theorem a8W {xs : List V} {its : List Value} (r : Vals xs its) : (!its.toArray.isEmpty) = !xs.isEmpty := by
 cases r <;> simp
theorem b0I : (sizeLine : Nat) < 2 ^ 63 := by rw [sizeLine_eq]; decide
theorem c2K : TruR X (fun x H Q => ∃ k, TruV X.K x H k /\ Q k H) := by
 intro pins s σ H x v Q I rx h
 obtain ⟨k, e, q⟩ := h
 have hl := b0I
 have hs : sizeLine = 16777216 := sizeLine_eq
 cases x with
 | non =>
  cases rx
  have e' : k = false := e
  subst e'
  exact truthy_none ⟨H, I, q⟩
 | bl b =>
  cases rx
  have e' : k = b := e
  subst e'
  exact wpAny_truthy_bool ⟨H, I, q⟩
 | int i =>
  obtain ⟨t, rfl⟩ := rx
  have e' : k = (i != 0) := e
  subst e'
  exact PySem.P.truthy_int ⟨H, I, q⟩
 | str y =>
  obtain ⟨t, rfl⟩ := rx
  obtain ⟨hy, e'⟩ : y.length <= sizeLine /\ k = ((y.length : Int) != 0) := e
  subst e'
  exact PySem.P.truthy_str (by omega) ⟨H, I.tok _, q⟩
 | byt y =>
  obtain ⟨t, rfl⟩ := rx
  obtain ⟨hy, e'⟩ : y.size <= sizeLine /\ k = ((y.size : Int) != 0) := e
  subst e'
  exact PySem.W.truthy_bytes (by omega) ⟨H, I.tok _, q⟩
 | ref p =>
  cases rx
  have e' : (∃ xs, SqL X.K H p xs /\ k = !xs.isEmpty) \/ (∃ xs, SqT X.K H p xs /\ k = !xs.isEmpty) \/ ∃ kvs, H p = some (.dK kvs) /\ k = !kvs.isEmpty := e
  rcases e' with ⟨xs, hx, e'⟩ | ⟨xs, hx, e'⟩ | ⟨kvs, hx, e'⟩
  ·subst e'
   obtain ⟨its, r, pl, hz⟩ := I.list hx
   have hlen := r.length
   exact wpAny_truthy_list pl.isList (by simp only [List.size_toArray]; omega) ⟨H, I.tok _, by rw [a8W r]; exact q⟩
  ·subst e'
   obtain ⟨its, r, pl, hz⟩ := I.tuple hx
   have hlen := r.length
   exact truthy_tuple pl (by simp only [List.size_toArray]; omega) ⟨H, I.tok _, by rw [a8W r]; exact q⟩
  ·subst e'
   obtain ⟨hz, hS, vs, r, m⟩ : kvs.length <= sizeLine /\ (p == sysModules) = false /\ ∃ vs, KV kvs vs /\ s.heap.DictOf (b2K X.prog X.w) p vs := I.hok p _ hx
   have hlen : kvs.length = vs.length := Paired.length r
   exact wpAny_truthy_dict hS m (by omega) ⟨H, I.tok _, by rw [b5I r]; exact q⟩
 | _ => exact (show False from e).elim
theorem c0E (ha : PE X a ta) (he : ∀ whole, isTrue a X.env whole = (do let v <- whole; standAt a.pos; holding [v] (truthy v))) :
  PT X a (fun σ H Q => ta σ H fun x H' => ∃ k, TruV X.K x H' k /\ Q k H') := by
 intro pins s σ H Q I h
 exact isTrue_plain (thn (ha pins s σ H _ I h) fun v s1 ⟨x, H1, I1, r1, q1⟩ => c2K pins s1 σ H1 x v Q I1 r1 q1) (he _)
theorem b0J {x : V} {us : List Value} (r : Vals [x] us) : ∃ u, us = [u] /\ RelV x u := by
 cases r with
 | cons r1 r2 => cases r2; exact ⟨_, rfl, r1⟩
theorem c3D {x y : V} {us : List Value} (r : Vals [x, y] us) : ∃ u w', us = [u, w'] /\ RelV x u /\ RelV y w' := by
 cases r with
 | cons r1 r2 =>
  cases r2 with
  | cons r3 r4 => cases r4; exact ⟨_, _, rfl, r1, r3⟩
theorem b6L (hc : X.calm = true) : CallR X (.builtin "max") (fun xs H Q => ∃ i j, xs = [.int i, .int j] /\ Q (.int (if j > i then j else i)) H) := by
 intro pins s σ H xs us Q I r h
 obtain ⟨i, j, rfl, q⟩ := h
 obtain ⟨u, w', rfl, ⟨t, rfl⟩, ⟨t', rfl⟩⟩ := c3D r
 refine max_two_ints (I.ok.hd hc) fun h' tk k => ⟨_, H, I.kept k, ?_, q⟩
 by_cases hj : j > i
 ·rw [if_pos hj, if_pos hj]; exact ⟨_, rfl⟩
 ·rw [if_neg hj, if_neg hj]; exact ⟨_, rfl⟩
theorem b6M (hc : X.calm = true) : CallR X (.builtin "min") (fun xs H Q => ∃ i j, xs = [.int i, .int j] /\ Q (.int (if j < i then j else i)) H) := by
 intro pins s σ H xs us Q I r h
 obtain ⟨i, j, rfl, q⟩ := h
 obtain ⟨u, w', rfl, ⟨t, rfl⟩, ⟨t', rfl⟩⟩ := c3D r
 refine min_two_ints (I.ok.hd hc) fun h' tk k => ⟨_, H, I.kept k, ?_, q⟩
 by_cases hj : j < i
 ·rw [if_pos hj, if_pos hj]; exact ⟨_, rfl⟩
 ·rw [if_neg hj, if_neg hj]; exact ⟨_, rfl⟩
end
end L2
namespace L2
open PySem PySem.Spec PyProof.Rows
structure ObjM (h : Heap) (x dx C : Addr) (mA : Str -> Option Value) : Prop where
 obj : h.get? x = some (PySem.W.instObj C dx)
 ns : h.Ns1 dx mA
 ne : dx ≠ x
theorem b6N {h : Heap} {dx : Addr} {mA : Str -> Option Value} (n : h.Ns1 dx mA) : ∃ od, h.get? dx = some od /\ ∀ name, PySem.W.lookIn name od = some (mA name) := by
 obtain ⟨o, es, ep, ho, hd, hk, _, hm⟩ := n
 refine ⟨o, ho, fun name => ?_⟩
 have e := hm name
 unfold nsFind findBy at e
 rw [<- Array.find?_toList] at e
 unfold PySem.W.lookIn
 rw [hd]
 dsimp only
 split
 ·rename_i y q
  rw [q] at e
  exact congrArg some e
 ·rename_i q
  rw [q] at e
  have a : es.toList.any (·.refKey) = false := by
   rw [List.any_eq_false]
   intro y hy
   obtain ⟨z, t, hkey⟩ := hk y (Array.mem_toList_iff.mp hy)
   simp [DictEntry.refKey, hkey]
  have a' : ¬ es.toList.any (·.refKey) = true := by rw [a]; exact Bool.false_ne_true
  rw [if_neg a']
  exact congrArg some e
theorem ObjM.look {h : Heap} {x dx C : Addr} {mA : Str -> Option Value} (I : ObjM h x dx C mA) : ∃ od, PySem.W.InstAt h x (PySem.W.instObj C dx) C (some od) /\ ∀ name, PySem.W.lookIn name od = some (mA name) :=
 let ⟨od, ho, hl⟩ := b6N I.ns
 ⟨od, ⟨I.obj, rfl, rfl, ho⟩, hl⟩
section
variable {prog : Program} {w : World} {A : Around} {E : Value -> Shared -> Prop} {s : Shared} {K : Φρ} {x dx C f : Addr} {mA : Str -> Option Value} {name : Str} {v : Value}
end
section
variable {P : Program} {w : World} {H H' : Hp} {h h' : Heap} {a C dx : Addr} {fs fs' : List (Str × V)}
theorem c3E (hok : HOk P w H h) (e : H a = some (.ins C dx fs)) : ∃ mA, ObjM h a dx C mA /\ (∀ f, RelO (fs.lookup f) (mA f)) /\ PySem.Within mA (fs.map (·.1)) /\ fs.length <= 1000 /\ H dx = some (.own a) := by
 obtain ⟨d, z, ne, ob, mA, n, r, q⟩ := (show ObjOk P w H h a (.ins C dx fs) from hok a _ e)
 exact ⟨mA, ⟨ob, n, ne⟩, r, q, z, d⟩
end
structure Cls (K : Φρ) (C : Addr) : Prop where
 pg : PySem.W.plainGet K C Str.empty = true
 hd : PySem.W.hasDictIn K C = true
 po : PySem.W.plainOver K C = true
 sa : PySem.W.findIn K (.ref C) "__setattr__" = some (some (.builtin "object.__setattr__"))
theorem Cls.get {K : Φρ} {C : Addr} (c : Cls K C) (f : Str) : PySem.W.plainGet K C f = true := c.pg
section
variable {X : Cx} {pins : List (Addr × Obj)} {σ : St} {H : Hp} {s : Shared} {a C dx : Addr} {fs : List (Str × V)} {f : Str} {v : V} {A : Around} {E : Value -> Shared -> Prop}
end
section
variable {X : Cx} {o e value : Expr} {f : Str} {pos pos' tpos : Pos} {ta tv : TE}
end
section
variable {X : Cx} {pins : List (Addr × Obj)} {σ : St} {H : Hp} {s : Shared} {A : Around} {E : Value -> Shared -> Prop} {Q : Value -> Shared -> Prop} {c : Value} {b : Bool}
inductive TyOf (K : Φρ) (H : Hp) : V -> Value -> Prop where
 | non : TyOf K H .non (.type "NoneType")
 | bl (x : Bool) : TyOf K H (.bl x) (.type "bool")
 | int (i : Int) : TyOf K H (.int i) (.type "int")
 | str (x : Str) : TyOf K H (.str x) (.type "str")
 | flt (x : UInt64) : TyOf K H (.flt x) (.type "float")
 | lst {a : Addr} {xs : List V} (e : H a = some (.lst xs)) : TyOf K H (.ref a) (.type "list")
 | frz {a : Addr} {o : Obj} {xs : List V} (e : H a = some (.frz o (.lst xs))) : TyOf K H (.ref a) (.type "list")
 | tup {a : Addr} {xs : List V} (e : H a = some (.tup xs)) : TyOf K H (.ref a) (.type "tuple")
 | dK {a : Addr} {kvs : List (Key × V)} (e : H a = some (.dK kvs)) : TyOf K H (.ref a) (.type "dict")
 | dT {a : Addr} {kvs : List (List Key × V)} (e : H a = some (.dT kvs)) : TyOf K H (.ref a) (.type "dict")
 | ins {a C dx : Addr} {fs : List (Str × V)} (e : H a = some (.ins C dx fs)) (cl : Cls K C) (ha : PySem.W.findIn K (.ref C) "__class__" = some (some (.builtin "object.__class__")))
   (hn : PySem.W.specialIn K (.builtin "object.__class__") "__get__" = some (some (.builtin "getset_descriptor.__get__"))) (htk : PySem.W.takesIn K (.builtin "object.__class__") = some true)
   (hm : PySem.W.mroIn K C (.type "object") = some true) : TyOf K H (.ref a) (.ref C)
theorem b6O {x : V} {u t : Value} (I : Inv X pins σ H s) (rx : RelV x u) (ty : TyOf X.K H x t) (e : PySem.W.kitOne X.K t c = some b) (h : ∀ tk, Q (.bool b) { s with toks := tk }) :
  wpAny (model X.prog X.w) A (call (.builtin "isinstance") [u, c]) Q E s := by
 cases ty with
 | non => cases (show u = Value.none from rx); exact PySem.W.kia_one PySem.W.kitx_none I.kIn True.intro e (fun z => nomatch z) h
 | bl y => cases (show u = Value.bool y from rx); exact PySem.W.kia_one PySem.W.kitx_bool I.kIn True.intro e (fun z => nomatch z) h
 | int i => obtain ⟨t, q⟩ := (show ∃ t, u = Value.int i t from rx); cases q; exact PySem.W.kia_one PySem.W.kitx_int I.kIn True.intro e (fun z => nomatch z) h
 | str y => obtain ⟨t, q⟩ := (show ∃ t, u = Value.str y t from rx); cases q; exact PySem.W.kia_one PySem.W.kitx_str I.kIn True.intro e (fun z => nomatch z) h
 | flt y => obtain ⟨t, q⟩ := (show ∃ t, u = Value.float y t from rx); cases q; exact PySem.W.kia_one PySem.W.kitx_float I.kIn True.intro e (fun z => nomatch z) h
 | @lst a xs ea =>
  cases (show u = Value.ref a from rx)
  obtain ⟨_, _, n, _, h1⟩ := (show ObjOk X.prog X.w H s.heap a (.lst xs) from I.hok a _ ea)
  exact PySem.W.kia_one PySem.W.kitx_list I.kIn ⟨_, h1, rfl⟩ e (fun z => nomatch z) h
 | @frz a ob xs ea =>
  cases (show u = Value.ref a from rx)
  obtain ⟨_, _, _, n, _, h1⟩ := (show ObjOk X.prog X.w H s.heap a (.frz ob (.lst xs)) from I.hok a _ ea)
  exact PySem.W.kia_one PySem.W.kitx_list I.kIn ⟨_, h1, rfl⟩ e (fun z => nomatch z) h
 | @tup a xs ea =>
  cases (show u = Value.ref a from rx)
  obtain ⟨_, _, _, p⟩ := (show ObjOk X.prog X.w H s.heap a (.tup xs) from I.hok a _ ea)
  obtain ⟨o, h1, h2, _⟩ := p
  exact PySem.W.kia_one PySem.W.kitx_tuple I.kIn ⟨o, h1, h2⟩ e (fun z => nomatch z) h
 | @dK a kvs ea =>
  cases (show u = Value.ref a from rx)
  obtain ⟨_, _, vs, _, p⟩ := (show ObjOk X.prog X.w H s.heap a (.dK kvs) from I.hok a _ ea)
  obtain ⟨o, es, ep, h1, h2, _⟩ := p
  exact PySem.W.kia_one PySem.W.kitx_dict I.kIn ⟨o, h1, h2.1⟩ e (fun z => nomatch z) h
 | @dT a kvs ea =>
  cases (show u = Value.ref a from rx)
  obtain ⟨_, _, xs, _, o, es, ep, h1, h2, _⟩ := (show ObjOk X.prog X.w H s.heap a (.dT kvs) from I.hok a _ ea)
  exact PySem.W.kia_one PySem.W.kitx_dict I.kIn ⟨o, h1, h2.1⟩ e (fun z => nomatch z) h
 | @ins a C dx fs ea cl ha hn htk hm =>
  cases (show u = Value.ref a from rx)
  obtain ⟨mA, O, _⟩ := c3E I.hok ea
  obtain ⟨od, J, _⟩ := O.look
  exact PySem.W.kia_one (PySem.W.kitx_own (cl.get _) cl.hd ha hn htk hm) I.kIn J e (fun z => nomatch z) h
end
end L2
namespace L2
open PySem PySem.Spec PyProof.Rows
structure Room (k : Nat) (A : Around) : Prop where
 hd : A.handled = none
 dp : A.depth + 3 * k + 5 < recursionLimit
 un : A.units + 16 * k + 200 < cLine
theorem Room.mono {j k : Nat} {A : Around} (r : Room k A) (h : j <= k) : Room j A := ⟨r.hd, by have := r.dp; omega, by have := r.un; omega⟩
theorem Room.deeper {k : Nat} {A : Around} (r : Room (k + 1) A) (env : Env) : Room k (A.deeper env) :=
 ⟨r.hd, by have := r.dp; show A.depth + 1 + 3 * k + 5 < _; omega, by have := r.un; show A.units + 3 + 16 * k + 200 < _; omega⟩
theorem Room.depth {k : Nat} {A : Around} (r : Room k A) : A.depth < recursionLimit := by have := r.dp; omega
def tNil : TA := fun _ H Q => Q [] H
def c3F (ta : TE) (tr : TA) : TA := fun σ H Q => ta σ H fun x H1 => tr σ H1 fun xs H2 => Q (x :: xs) H2
section
variable {X : Cx} {e : Expr} {es : List Expr} {te : TE} {t : TA} {pos : Pos}
theorem a0C : PA X [] tNil := fun _ _ _ _ H Q I h => Calls.spliced_nil ⟨[], H, I, .nil, h⟩
theorem a0A (ha : PE X e te) (hr : PA X es t) (hs : starEach (e :: es) X.env = (false, eval e X.env) :: starEach es X.env := by rfl) : PA X (e :: es) (c3F te t) := by
 intro pos pins s σ H Q I h
 rw [hs]
 show wpAny _ _ (spliced ((false, eval e X.env) :: backTo pos (starEach es X.env))) _ _ s
 refine Calls.spliced_cons (thn (ha pins s σ H _ I h) fun u s1 ⟨x, H1, I1, r1, q1⟩ => ?_)
 exact thn (hr pos pins s1 σ H1 _ I1 q1) fun us s2 ⟨xs, H2, I2, r2, q2⟩ => ⟨x :: xs, H2, I2, .cons r1 r2, q2⟩
end
abbrev Sp := List V -> Hp -> VK -> XK -> Prop
abbrev CXT := List Env -> Hp -> Shared -> XK -> Value -> Shared -> Prop
structure Env0 (P : Program) (w : World) (K : Φρ) (mg : Str -> Option Value) (base : Heap) (A : Around) (outer : List Env) (s : Shared) (H : Hp) : Prop where
 frames : A.frames = some outer
 mod : Mod K mg base
 bs : ∀ b o, base.get? b = some o -> s.heap.get? b = some o /\ H b = none
 bsz : base.objs.size <= s.heap.objs.size
 funs : s.heap.FunFrames base outer
 frf : ∀ b ∈ frs outer, H b = none
 hok : HOk P w H s.heap
 bare : AllBare s.gens
def CE (outer : List Env) (P : Program) (w : World) (H : Hp) (s : Shared) (Q : VK) (u : Value) (s' : Shared) : Prop :=
 ∃ v H', s'.os = s.os /\ AllBare s'.gens /\ Un (frs outer) [] H H' s.heap s'.heap /\ HOk P w H' s'.heap /\ RelV v u /\ Q v H'
def CR (CX : CXT) (outer : List Env) (P : Program) (w : World) (H : Hp) (s : Shared) (Q : VK) (E : XK) (r : Result) (s' : Shared) : Prop :=
 match r with
 | .ok (.ret u) => CE outer P w H s Q u s'
 | .ok _ => False
 | .error e => CX outer H s E e s'
structure FnOk (P : Program) (w : World) (K : Φρ) (mg : Str -> Option Value) (base : Heap) (CX : CXT) (k : Nat) (f : Addr) (fd : FuncData) (ps : List Str) (sp : Sp) : Prop where
 len : ∀ vs H Q E, sp vs H Q E -> vs.length = ps.length
 run : ∀ (A : Around) (outer : List Env) (s : Shared) (H : Hp) (args : Args) (us : List Value) (vs : List V) (Q : VK) (E : XK), Room k A -> Env0 P w K mg base A outer s H -> BindsTo s fd args (ps.zip us) -> Vals vs us -> sp vs H Q E ->
  codeAny (model P w) A (.call (.ref f) args) (CR CX outer P w H s Q E) s
theorem FnOk.mono {P : Program} {w : World} {K : Φρ} {mg : Str -> Option Value} {base : Heap} {CX : CXT} {j k : Nat} {f : Addr} {fd : FuncData} {ps : List Str} {sp : Sp} (F : FnOk P w K mg base CX j f fd ps sp) (h : j <= k) :
  FnOk P w K mg base CX k f fd ps sp := ⟨F.len, fun A outer s H args us vs Q E hr => F.run A outer s H args us vs Q E (hr.mono h)⟩
section
variable {X : Cx} {pins : List (Addr × Obj)} {σ : St} {H : Hp} {s s' : Shared}
theorem Inv.env0 (I : Inv X pins σ H s) : Env0 X.prog X.w X.K X.mg X.base X.A X.stack s H :=
 ⟨I.ok.frames, I.ok.mod, I.bs, Nat.le_trans I.ok.bsz I.sz, I.stack, I.stkFree, I.hok, I.bare⟩
theorem Inv.after {Q : VK} {u : Value} (I : Inv X pins σ H s) (h : CE X.stack X.prog X.w H s Q u s') : EP X pins σ Q u s' := by
 obtain ⟨v, H', os, bare, un, hok, r, q⟩ := h
 obtain ⟨hh, g, d, t, os'⟩ := s'
 obtain rfl : os' = s.os := os
 exact ⟨v, H', I.call (h' := hh) (g' := g) (d' := d) (t' := t) (ch := []) un hok bare (fun b z => absurd z (by simp)), r, q⟩
end
def c8J (sp : Sp) (dvs : List V) (E : XK) (t : TA) : TE := fun σ H Q => t σ H fun vs H1 => sp (vs ++ dvs) H1 Q E
def Binds (K : Φρ) (fd : FuncData) (ps : List Str) (ds : List Value) : Prop :=
 ∀ (s : Shared) (us : List Value), K.In s.heap -> (us ++ ds).length = ps.length -> BindsTo s fd ⟨us, []⟩ (ps.zip (us ++ ds))
theorem Binds.all {K : Φρ} {fd : FuncData} {ps : List Str} (h : ∀ us : List Value, us.length = ps.length -> bindArgs fd ⟨us, []⟩ = pure (ps.zip us)) : Binds K fd ps [] := fun s us _ hl => by
 rw [List.append_nil] at hl ⊢
 exact .of_eq (h us hl)
def b6P (CX : CXT) (X : Cx) (E : XK) : Prop := ∀ (pins : List (Addr × Obj)) (σ : St) (H : Hp) (s : Shared) (e : Value) (s' : Shared), Inv X pins σ H s -> CX X.stack H s E e s' -> X.xe e s'
section
variable {X : Cx} {CX : CXT} {k : Nat} {f C : Addr} {fd : FuncData} {ps : List Str} {sp : Sp} {dvs : List V} {ds : List Value} {E : XK} {x m : Str} {p pos apos : Pos} {e o : Expr} {es : List Expr} {ta : TE} {t : TA}
theorem c6J {pins : List (Addr × Obj)} {σ : St} {H : Hp} {s : Shared} {Q : VK} {us : List Value} {vs : List V} (F : FnOk X.prog X.w X.K X.mg X.base CX k f fd ps sp) (hr : Room k X.A) (hb : Binds X.K fd ps ds) (hd : Vals dvs ds) (hx : b6P CX X E)
  (I : Inv X pins σ H s) (r : Vals vs us) (h : sp (vs ++ dvs) H Q E) : wpAny (model X.prog X.w) X.A (call (.ref f) us) (EP X pins σ Q) X.xe s := by
 have r2 : Vals (vs ++ dvs) (us ++ ds) := r.append hd
 have hl : (us ++ ds).length = ps.length := by rw [<- r2.length]; exact F.len _ _ _ _ h
 refine wpAny_call (codeAny_mono (F.run X.A X.stack s H ⟨us, []⟩ (us ++ ds) (vs ++ dvs) Q E hr I.env0 (hb s us I.kIn hl) r2 h) fun r s' hq => ?_)
 cases r with
 | error e => exact hx pins σ H s e s' I hq
 | ok fl =>
  cases fl with
  | ret u => exact I.after hq
  | next => exact False.elim hq
  | brk => exact False.elim hq
  | cont => exact False.elim hq
theorem a0G (F : FnOk X.prog X.w X.K X.mg X.base CX k f fd ps sp) (hr : Room k X.A) (hg : Gl X x) (hm : X.mg x = some (.ref f)) (hk : PySem.W.keepIn X.K (.ref f) = true) (hb : Binds X.K fd ps ds) (hd : Vals dvs ds) (hx : b6P CX X E)
  (ha : PA X (e :: es) t) (hdb : (x == ("__debug__" : Str)) = false := by decide) (he : starEach (e :: es) X.env = (false, eval e X.env) :: starEach es X.env := by rfl) (hpl : (backTo pos (starEach es X.env)).any (·.1) = false := by rfl) :
  PE X (.Call (.Name x p) (e :: es) [] pos) (c8J sp dvs E t) := by
 intro pins s σ H Q I h
 refine wpAny_Call_Name_kw (c3A I hg hm ?_ hdb)
 refine PySem.W.callWith_K (h₀ := X.base) I.ok.mod.kin hk (thn (ha pos pins s σ H _ I h) fun us s1 ⟨vs, H1, I1, r, q⟩ => ⟨I1.kIn, ?_⟩) he hpl
 exact c6J F hr hb hd hx I1 r q
end
section
variable {X : Cx} {CX : CXT} {k : Nat} {f C : Addr} {fd : FuncData} {ps ks : List Str} {sp : Sp} {E : XK} {x m : Str} {p pos apos kpos : Pos} {e o : Expr} {es : List Expr} {kws : List Keyword} {te ta : TE} {t tk : TA} {nm : Option Str}
variable {g : List Value -> List Value -> List Value} {gV : List V -> List V -> List V}
end
structure FnScope (N P : List Str) (sc : Scope) : Prop where
 kind : sc.kind = .function
 co : sc.isCoroutine = false
 gen : sc.isGenerator = false
 nd : N.Nodup
 pre : N.take P.length = P
 par : ∀ x ∈ P, sc.names.lookup x = some .local \/ sc.names.lookup x = some .cell
 nofree : ∀ y ∈ sc.names, y.2 ≠ .free
theorem b0K {kindOf : Str -> Option NameKind} {x : Str} : ∀ {binds : List (Str × Value)} {m : Str -> Option Value}, (∀ v, (x, v) ∉ binds) -> bindL kindOf binds m x = m x
 | [], _, _ => rfl
 | (n, v) :: r, m, h => by
  unfold bindL
  rw [b0K fun w hw => h w (List.mem_cons_of_mem _ hw)]
  split
  ·have : x ≠ n := by rintro rfl; exact h v List.mem_cons_self
   simp [this]
  ·rfl
theorem b0L {kindOf : Str -> Option NameKind} {x : Str} : ∀ {binds : List (Str × Value)} {m : Str -> Option Value}, (∀ v, (x, v) ∉ binds) -> bindC kindOf binds m x = m x
 | [], _, _ => rfl
 | (n, v) :: r, m, h => by
  unfold bindC
  rw [b0L fun w hw => h w (List.mem_cons_of_mem _ hw)]
  split
  ·rfl
  ·have : x ≠ n := by rintro rfl; exact h v List.mem_cons_self
   simp [this]
theorem b0M {kindOf : Str -> Option NameKind} {x : Str} {v : Value} : ∀ {P : List Str} {vs : List Value} {i : Nat} {m : Str -> Option Value}, P.Nodup -> P[i]? = some x -> vs[i]? = some v -> kindOf x = some .local ->
  bindL kindOf (P.zip vs) m x = some v
 | [], _, _, _, _, h, _, _ => by simp at h
 | _ :: _, [], _, _, _, _, h, _ => by simp at h
 | p :: P, w :: vs, 0, m, nd, h1, h2, hk => by
  simp at h1 h2; subst h1; subst h2
  show bindL kindOf ((p, w) :: P.zip vs) m p = _
  unfold bindL
  rw [b0K fun v hv => (List.nodup_cons.mp nd).1 (List.of_mem_zip hv).1, if_pos hk]
  simp
 | p :: P, w :: vs, i + 1, m, nd, h1, h2, hk => by
  show bindL kindOf ((p, w) :: P.zip vs) m x = _
  unfold bindL
  exact b0M (i := i) (List.nodup_cons.mp nd).2 (by simpa using h1) (by simpa using h2) hk
theorem b0N {kindOf : Str -> Option NameKind} {x : Str} {v : Value} : ∀ {P : List Str} {vs : List Value} {i : Nat} {m : Str -> Option Value}, P.Nodup -> P[i]? = some x -> vs[i]? = some v -> kindOf x ≠ some .local ->
  bindC kindOf (P.zip vs) m x = some v
 | [], _, _, _, _, h, _, _ => by simp at h
 | _ :: _, [], _, _, _, _, h, _ => by simp at h
 | p :: P, w :: vs, 0, m, nd, h1, h2, hk => by
  simp at h1 h2; subst h1; subst h2
  show bindC kindOf ((p, w) :: P.zip vs) m p = _
  unfold bindC
  rw [b0L fun v hv => (List.nodup_cons.mp nd).1 (List.of_mem_zip hv).1, if_neg hk]
  simp
 | p :: P, w :: vs, i + 1, m, nd, h1, h2, hk => by
  show bindC kindOf ((p, w) :: P.zip vs) m x = _
  unfold bindC
  exact b0N (i := i) (List.nodup_cons.mp nd).2 (by simpa using h1) (by simpa using h2) hk
def b0O (N : List Str) (vs : List V) : St := vs.map some ++ List.replicate (N.length - vs.length) none
def cxOf (CX : CXT) (P : Program) (w : World) (K : Φρ) (mg : Str -> Option Value) (base : Heap) (N : List Str) (qual : Str) (scope : Scope) (f : Addr) (cd : Value) (A : Around) (outer : List Env) (s : Shared) (H : Hp) (E : XK) : Cx where
 prog := P
 w := w
 K := K
 mg := mg
 base := base
 A := A.deeper (envOfC qual scope s.heap.objs.size f cd)
 N := N
 s₀ := s
 H₀ := H
 env := envOfC qual scope s.heap.objs.size f cd
 outer := outer
 stack := envOfC qual scope s.heap.objs.size f cd :: outer
 ex := []
 calm := true
 fn := fun _ => true
 pn := []
 xe := fun e s' => wpAny (model P w) (A.deeper (envOfC qual scope s.heap.objs.size f cd)) (leaving (envOfC qual scope s.heap.objs.size f cd) e) (fun _ s'' => CX outer H s E e s'') (fun e' s'' => CX outer H s E e' s'') s'
theorem b3X {sc : Scope} {n : Nat} {x : Str} (h : sc.names.lookup x = some .cell) : ∃ c, (cellsFrom n sc.names []).lookup x = some c := by
 have q := PySem.W.cellsFrom_some sc.names n [] (.inl h)
 exact Option.isSome_iff_exists.mp q
theorem b6Q {CX : CXT} {P : Program} {w : World} {K : Φρ} {mg : Str -> Option Value} {base : Heap} {N ps : List Str} {qual : Str} {scope : Scope} {f : Addr} {cd : Value} {A : Around} {outer : List Env} {s s1 : Shared} {H : Hp} {E : XK} {us : List Value} {vs : List V}
  (S : FnScope N ps scope) (hd : A.handled = none) (e0 : Env0 P w K mg base A outer s H) (hl : vs.length = ps.length) (r : Vals vs us)
  (x : InCallC s s.heap.objs.size (bindL (envOfC qual scope s.heap.objs.size f cd).kindOf (ps.zip us) fun _ => none) (cellsFrom (s.heap.objs.size + 1) scope.names []) (bindC (envOfC qual scope s.heap.objs.size f cd).kindOf (ps.zip us) fun _ => none) s1) :
  Inv (cxOf CX P w K mg base N qual scope f cd A outer s H E) [] (b0O N vs) H s1 := by
 have hpl : ps.length <= N.length := by have := congrArg List.length S.pre; rw [List.length_take] at this; omega
 obtain ⟨h1, tk, rfl, hk⟩ := x.done
 have noA : ∀ b : Addr, b ∉ (cxOf CX P w K mg base N qual scope f cd A outer s H E).ex := fun b z => absurd (show b ∈ ([] : List Addr) from z) (by simp)
 refine ⟨⟨e0.mod, S.kind, rfl, rfl, Nat.le_refl _, fun y z c h1 h2 => ?_, fun y hy => ?_, fun y c _ h => ?_, fun _ => hd, Around.frames_deeper e0.frames, .inr ⟨rfl, rfl⟩, fun b z => absurd z (noA b), e0.bs, e0.bsz, fun b _ _ => noA b, fun b z => absurd z (noA b), e0.funs, e0.frf⟩,
  rfl, e0.bare, Un.kept hk, ⟨_, x.toInCall.ns, fun i y v h1 h2 h3 => ?_⟩, fun y c h => ⟨_, x.cell y c h⟩, e0.hok.fresh (Nat.le_refl _), fun y c h => ?_, fun p hp => absurd (show p ∈ ([] : List (Addr × Obj)) from hp) (by simp), e0.hok.kept hk, ?_⟩
 ·exact name_of_addr x.apart (PySem.mem_of_lookup h1) (PySem.mem_of_lookup h2)
 ·have hy : scope.names.lookup y = some .cell \/ scope.names.lookup y = some .free := hy
  rcases hy with hy | hy
  ·exact b3X hy
  ·exact absurd rfl (S.nofree _ (PySem.mem_of_lookup hy))
 ·exact Nat.le_of_lt (x.above y c (PySem.mem_of_lookup h))
 ·have hi : i < vs.length := by
   unfold b0O at h2
   by_cases hi : i < vs.length
   ·exact hi
   ·rw [List.getElem?_append_right (by simpa using hi)] at h2
    rw [List.getElem?_replicate] at h2
    split at h2 <;> cases h2
  have ha : vs[i]? = some v := by
   unfold b0O at h2
   rw [List.getElem?_append_left (by simpa using hi), List.getElem?_map] at h2
   cases e : vs[i]? with
   | none => rw [e] at h2; cases h2
   | some a => rw [e] at h2; cases h2; rfl
  obtain ⟨u, hu, rv⟩ := r.get ha
  have hp : ps[i]? = some y := by
   rw [<- S.pre, List.getElem?_take_of_lt (by omega)]; exact h1
  have ndP : ps.Nodup := by rw [<- S.pre]; exact S.nd.sublist (List.take_sublist _ _)
  refine ⟨u, rv, ?_⟩
  rcases S.par y (List.mem_of_getElem? hp) with k | k
  ·exact .inl ⟨k, b0M ndP hp hu k⟩
  ·obtain ⟨c, e⟩ := b3X (n := s.heap.objs.size + 1) k
   refine .inr ⟨.inl k, c, e, ?_⟩
   have q := x.cell y c e
   rw [b0N ndP hp hu (by show scope.names.lookup y ≠ _; rw [k]; decide)] at q
   exact q
 ·exact e0.hok.fresh (Nat.le_of_lt (x.above y c (PySem.mem_of_lookup h)))
 ·unfold b0O
  show _ = N.length
  rw [List.length_append, List.length_map, List.length_replicate]
  omega
theorem c8K {CX : CXT} {P : Program} {w : World} {K : Φρ} {mg : Str -> Option Value} {base : Heap} {k : Nat} {f : Addr} {name qual : Str} {params : Arguments} {body : List Stmt} {scope : Scope} {dV kV doc pm cdv ct oc : Value} {an od : Option Addr}
  {osl : Array (Option Value)} {N ps : List Str} {sp : Sp} (lk : K.lookup f = some ⟨oc, od, .func (PySem.W.fnOf name qual params body scope dV kV doc pm an cdv ct), osl⟩) (hcd : PySem.W.codeIn K cdv qual = true) (S : FnScope N ps scope)
  (len : ∀ vs H Q E, sp vs H Q E -> vs.length = ps.length)
  (hbody : ∀ (A : Around) (outer : List Env) (s : Shared) (H : Hp) (vs : List V) (Q : VK) (E : XK), Room k (A.deeper (envOfC qual scope s.heap.objs.size f cdv)) -> sp vs H Q E ->
   ∃ t, PSs (cxOf CX P w K mg base N qual scope f cdv A outer s H E) body t /\ t { nx := fun _ H' => Q .non H', rt := Q } (b0O N vs) H) :
  FnOk P w K mg base CX (k + 1) f (PySem.W.fnOf name qual params body scope dV kV doc pm an cdv ct) ps sp := by
 refine ⟨len, fun A outer s H args us vs Q E hr e0 hb r hsp => ?_⟩
 have hl := len _ _ _ _ hsp
 have KX : K.In s.heap := e0.mod.kin.keeps fun b o e => (e0.bs b o e).1
 have lim : s.heap.NoLimit := e0.mod.nolimit.keeps fun b o e => (e0.bs b o e).1
 have hkind : ∀ y ∈ ps.zip us, scope.names.lookup y.1 = some .local \/ (scope.names.lookup y.1 = some .cell /\ ((cellsFrom (s.heap.objs.size + 1) scope.names []).lookup y.1).isSome = true) := fun ⟨n, v⟩ hy => by
  rcases S.par n (List.of_mem_zip hy).1 with q | q
  ·exact .inl q
  ·exact .inr ⟨q, PySem.W.cellsFrom_some _ _ _ (.inl q)⟩
 refine codeAny_call_function hr.depth (KX _ _ lk) rfl S.co S.gen rfl (PySem.W.codeRec_of KX hcd) (hb _ _ _ _ ?_)
 refine wpAny_newFunctionEnv_cells S.kind hkind fun env he s1 x => ?_
 subst he
 refine ⟨lim.keeps x.toInCall.keep, codeAny_func ?_⟩
 obtain ⟨t, ht, hq⟩ := hbody A outer s H vs Q E (hr.deeper _) hsp
 have I : Inv (cxOf CX P w K mg base N qual scope f cdv A outer s H E) [] (b0O N vs) H s1 := b6Q S hr.hd e0 hl r x
 refine wpAny_mono (ht [] s1 (b0O N vs) H _ I hq) (fun fl s' hs => ?_) fun e s' hs => hs
 have fin : ∀ {σ' : St} {H' : Hp} {v : V} {u : Value}, Inv (cxOf CX P w K mg base N qual scope f cdv A outer s H E) [] σ' H' s' -> RelV v u -> Q v H' -> CE outer P w H s Q u s' :=
  fun {σ' H' v u} J rv q => ⟨v, H', J.os, J.bare, J.base, J.hok, rv, q⟩
 cases fl with
 | ret u =>
  obtain ⟨v, σ', H', J, rv, q⟩ := hs
  exact fin J rv q
 | next =>
  obtain ⟨σ', H', J, q⟩ := hs
  exact fin (v := V.non) (u := Value.none) J rfl q
 | brk =>
  obtain ⟨_, _, _, q⟩ := hs
  exact False.elim q
 | cont =>
  obtain ⟨_, _, _, q⟩ := hs
  exact False.elim q
end L2
namespace L2
open PySem PySem.Spec PyProof.Rows
section
variable {X : Cx} {x : Str} {p pos : Pos} {e : Expr} {es : List Expr} {t : TA} {id T : String} {r : List V -> Hp -> VK -> Prop}
def tCB (r : List V -> Hp -> VK -> Prop) (t : TA) : TE := fun σ H Q => t σ H fun vs H1 => r vs H1 Q
theorem a0I (hc : CallR X (.builtin id) r) (hg : Gl X x) (hm : X.mg x = none) (hv : bootBuiltins x = some (.builtin id)) (ha : PA X (e :: es) t) (hn : x ≠ "__name__" := by decide) (hdb : (x == ("__debug__" : Str)) = false := by decide)
  (he : starEach (e :: es) X.env = (false, eval e X.env) :: starEach es X.env := by rfl) (hpl : (backTo pos (starEach es X.env)).any (·.1) = false := by rfl) : PE X (.Call (.Name x p) (e :: es) [] pos) (tCB r t) := by
 intro pins s σ H Q I h
 refine wpAny_Call_Name_kw (a6B I hg hm hv ?_ hn hdb)
 exact PyProof.Rows.callWith_builtin1 (thn (ha pos pins s σ H _ I h) fun us s1 ⟨vs, H1, I1, r1, q1⟩ => hc pins s1 σ H1 vs us Q I1 r1 q1) he hpl
theorem a2V (hc : CallR X (.type T) r) (hg : Gl X x) (hm : X.mg x = none) (hv : bootBuiltins x = some (.type T)) (ha : PA X (e :: es) t) (hn : x ≠ "__name__" := by decide) (hdb : (x == ("__debug__" : Str)) = false := by decide)
  (he : starEach (e :: es) X.env = (false, eval e X.env) :: starEach es X.env := by rfl) (hpl : (backTo pos (starEach es X.env)).any (·.1) = false := by rfl) : PE X (.Call (.Name x p) (e :: es) [] pos) (tCB r t) := by
 intro pins s σ H Q I h
 refine wpAny_Call_Name_kw (a6B I hg hm hv ?_ hn hdb)
 exact PyProof.Rows.callWith_type1 (thn (ha pos pins s σ H _ I h) fun us s1 ⟨vs, H1, I1, r1, q1⟩ => hc pins s1 σ H1 vs us Q I1 r1 q1) he hpl
end
end L2
namespace HT
open PySem PyProof.Rows
section
open PySem.SeqAt
open PySem.AutoSeq1 (wpAny_loadPart')
open PySem.MeetsSeq PySem.MeetsSeq2 PySem.MeetsSeq3
end
section
variable {prog : Program} {w : World} {A : Around} {E : Value -> Shared -> Prop} {s : Shared}
def sIx (n d : Nat) : Option Int -> Nat
 | none => d
 | some v => if v < 0 then (v + (n : Int)).toNat else min v.toNat n
end
end HT
namespace L2
open PySem PySem.Spec PyProof.Rows
abbrev TO := St -> Hp -> (Option Int -> Hp -> Prop) -> Prop
def PO (X : Cx) (e : Option Expr) (t : TO) : Prop :=
 ∀ (pins : List (Addr × Obj)) (s : Shared) (σ : St) (H : Hp) (Q : Option Int -> Hp -> Prop), Inv X pins σ H s -> t σ H Q ->
  wpAny (model X.prog X.w) X.A (evalPart e X.env) (fun u s' => ∃ o H', Inv X pins σ H' s' /\ IsPart u o /\ Q o H') X.xe s
def c3G : TO := fun _ H Q => Q none H
def c8L (t : TE) : TO := fun σ H Q => t σ H fun x H1 => ∃ i, x = .int i /\ Q (some i) H1
section
variable {X : Cx} {e : Expr} {te : TE} {lo hi : Option Expr} {tl th : TO} {pos p2 : Pos}
theorem a9J : PO X none c3G := by
 intro pins s σ H Q I h
 rw [evalPart_none]
 exact wpAny_pure ⟨none, H, I, .none, h⟩
theorem a9K (h : PE X e te) : PO X (some e) (c8L te) := by
 intro pins s σ H Q I hw
 rw [evalPart_some]
 refine thn (h pins s σ H _ I hw) fun u s1 ⟨x, H1, I1, r1, q1⟩ => ?_
 obtain ⟨i, rfl, q⟩ := q1
 obtain ⟨t, rfl⟩ := r1
 exact ⟨some i, H1, I1, .int i t, q⟩
def SlR (X : Cx) (r : V -> Option Int -> Option Int -> Hp -> VK -> Prop) : Prop :=
 ∀ (pins : List (Addr × Obj)) (s : Shared) (σ : St) (H : Hp) (x : V) (v vl vu : Value) (lo hi : Option Int) (sl : Addr) (Q : VK), Inv X pins σ H s -> RelV x v -> s.heap.IsSliceOf sl vl vu .none -> IsPart vl lo -> IsPart vu hi -> r x lo hi H Q ->
  ∃ T id, typeLookup (.type T) "__getitem__" = pure (some (.builtin id)) /\ s.TypeIs v T /\ wpAny (model X.prog X.w) X.A (getItem v (.ref sl)) (EP X pins σ Q) X.xe s
def tSl (r : V -> Option Int -> Option Int -> Hp -> VK -> Prop) (te : TE) (tl th : TO) : TE := fun σ H Q => te σ H fun x H1 => tl σ H1 fun l H2 => th σ H2 fun u H3 => r x l u H3 Q
theorem a6Y {r : V -> Option Int -> Option Int -> Hp -> VK -> Prop} (hr : SlR X r) (he : PE X e te) (hl : PO X lo tl) (hu : PO X hi th) : PE X (.Subscript e (.Slice lo hi none p2) pos) (tSl r te tl th) := by
 intro pins s σ H Q I h
 refine Subscript_ (thn (he pins s σ H _ I h) fun v s1 ⟨x, H1, I1, r1, q1⟩ => ?_)
 refine wpAny_Slice (thn (hl pins s1 σ H1 _ I1 q1) fun vl s2 ⟨l, H2, I2, pl, q2⟩ => thn (hu pins s2 σ H2 _ I2 q2) fun vu s3 ⟨u, H3, I3, pu, q3⟩ => ?_)
 rw [evalPart_none]
 refine wpAny_pure ?_
 have I4 : Inv X pins σ H3 { s3 with heap := s3.heap.push { cls := .type "slice", data := .fields #[vl, vu, .none] } } := I3.kept (t' := s3.toks) fun b ob q => Heap.get?_push_of_some _ q
 obtain ⟨T, id, hT, ht, hg⟩ := hr pins { s3 with heap := s3.heap.push { cls := .type "slice", data := .fields #[vl, vu, .none] } } σ H3 x v vl vu l u s3.heap.objs.size Q I4 r1 (Heap.IsSliceOf.new ..) pl pu q3
 show wpAny (model X.prog X.w) X.A (subscriptTail e (.Slice lo hi none p2) v (.ref s3.heap.objs.size)) (EP X pins σ Q) X.xe { s3 with heap := s3.heap.push { cls := .type "slice", data := .fields #[vl, vu, .none] } }
 exact tail_any (ops := [.ref s3.heap.objs.size, v]) ht hT hg (by with_unfolding_all rfl)
def cutV (xs : List V) (lo hi : Option Int) : List V := (xs.drop (HT.sIx xs.length 0 lo)).take (HT.sIx xs.length xs.length hi - HT.sIx xs.length 0 lo)
theorem b2M (xs : List V) (lo hi : Option Int) : (cutV xs lo hi).length <= xs.length := by
 unfold cutV
 rw [List.length_take, List.length_drop]
 omega
end
end L2
namespace L2
open PySem PySem.Spec PyProof.Rows
def ixN (n : Nat) (i : Int) : Option Nat := if 0 <= i then (if i < n then some i.toNat else none) else if -(n : Int) <= i then some (i + n).toNat else none
def atI {α : Type} (xs : List α) (i : Int) : Option α := (ixN xs.length i).bind fun j => xs[j]?
theorem b6R {n : Nat} {i : Int} {j : Nat} (h : ixN n i = some j) : seqIndex? i n = some j /\ j < n /\ -(n : Int) <= i /\ i < n := by
 unfold ixN at h
 by_cases h0 : 0 <= i
 ·rw [if_pos h0] at h
  by_cases h1 : i < n
  ·rw [if_pos h1] at h
   have e : i.toNat = j := Option.some.inj h
   exact ⟨by rw [seqIndex_of h0 h1, e], by omega, by omega, h1⟩
  ·rw [if_neg h1] at h; cases h
 ·rw [if_neg h0] at h
  by_cases h1 : -(n : Int) <= i
  ·rw [if_pos h1] at h
   have e : (i + n).toNat = j := Option.some.inj h
   exact ⟨by rw [seqIndex_neg (by omega) h1, e], by omega, h1, by omega⟩
  ·rw [if_neg h1] at h; cases h
theorem b6S {α : Type} {xs : List α} {i : Int} {v : α} (h : atI xs i = some v) : ∃ j, seqIndex? i xs.length = some j /\ xs[j]? = some v /\ j < xs.length /\ -(xs.length : Int) <= i /\ i < xs.length := by
 unfold atI at h
 cases e : ixN xs.length i with
 | none => rw [e] at h; cases h
 | some j =>
  rw [e] at h
  obtain ⟨h1, h2, h3, h4⟩ := b6R e
  exact ⟨j, h1, h, h2, h3, h4⟩
theorem a2Q {α : Type} {xs : List α} {j : Nat} {v : α} (h : xs[j]? = some v) : atI xs (j : Int) = some v := by
 have hj : j < xs.length := (List.getElem?_eq_some_iff.mp h).1
 have e : ixN xs.length (j : Int) = some j := by
  unfold ixN
  rw [if_pos (by omega), if_pos (by omega)]; simp
 unfold atI; rw [e]; exact h
theorem c0F {α : Type} (xs : List α) (v : α) : atI (xs ++ [v]) (-1) = some v := by
 have hl : (xs ++ [v]).length = xs.length + 1 := by simp
 have e : ixN (xs ++ [v]).length (-1) = some xs.length := by
  unfold ixN
  rw [hl, if_neg (by decide), if_pos (by omega)]
  congr 1
  omega
 unfold atI
 rw [e]
 show (xs ++ [v])[xs.length]? = some v
 simp
def c3H (b : Expr) : Prop := ∀ o i, subscripted b false o i = operate [o, i] (getItem o i)
def IxR (X : Cx) (r : R2) : Prop :=
 ∀ (value slice : Expr) (pins : List (Addr × Obj)) (s : Shared) (σ : St) (H : Hp) (x y : V) (v u : Value) (Q : VK), Inv X pins σ H s -> RelV x v -> RelV y u -> r x y H Q ->
  subscripted slice false v u = operate [v, u] (getItem v u) -> wpAny (model X.prog X.w) X.A (subscriptTail value slice v u) (EP X pins σ Q) X.xe s
def MtR (X : Cx) (id : String) (r : V -> List V -> Hp -> VK -> Prop) : Prop :=
 ∀ (pins : List (Addr × Obj)) (s : Shared) (σ : St) (H : Hp) (x : V) (xs : List V) (v : Value) (us : List Value) (Q : VK), Inv X pins σ H s -> RelV x v -> Vals xs us -> r x xs H Q ->
  wpAny (model X.prog X.w) X.A (call (.builtin id) (v :: us)) (EP X pins σ Q) X.xe s
section
variable {X : Cx} {a b : Expr} {ta tb : TE} {pos : Pos}
theorem a1D {r : R2} (hr : IxR X r) (ha : PE X a ta) (hb : PE X b tb) (hs : c3H b) : PE X (.Subscript a b pos) (tOp r ta tb) := by
 intro pins s σ H Q I h
 exact Subscript_ (binT ha hb I h fun v u s2 x y H2 I2 rx ry q => hr a b pins s2 σ H2 x y v u Q I2 rx ry q (hs _ _))
def rIxL (K : Φρ) : R2 := fun x y H Q => ∃ p xs i v, x = .ref p /\ y = .int i /\ SqL K H p xs /\ atI xs i = some v /\ Q v H
def rIxT (K : Φρ) : R2 := fun x y H Q => ∃ p xs i v, x = .ref p /\ y = .int i /\ SqT K H p xs /\ atI xs i = some v /\ Q v H
theorem c3I : IxR X (rIxL X.K) := by
 intro value slice pins s σ H x y v u Q I rx ry h hs
 obtain ⟨p, xs, i, z, rfl, rfl, hq, he, q⟩ := h
 cases rx
 obtain ⟨t, rfl⟩ := ry
 obtain ⟨its, r, pl, hz⟩ := I.list hq
 obtain ⟨j, h1, h2, h3, h4, h5⟩ := b6S he
 obtain ⟨w, ew, rw'⟩ := r.get h2
 have hl := r.length
 have hn := b0I
 have fin : EP X pins σ Q w s := ⟨z, H, I, rw', q⟩
 by_cases h0 : 0 <= i
 ·have hj : i.toNat = j := by
   rw [seqIndex_of h0 h5] at h1
   exact Option.some.inj h1
  exact item_listR pl.isList h0 (by omega) (by rw [hj]; simpa using ew) fin hs
 ·have hj : (i + (its.toArray.size : Int)).toNat = j := by
   rw [seqIndex_neg (by omega) h4] at h1
   rw [List.size_toArray, <- hl]
   exact Option.some.inj h1
  exact subscriptTail_builtinR (x := w) pl.isList.typeIs slot_list_getitem.lookup
   (wpAny_getItem_list_neg (Q := fun r s' => r = w /\ EP X pins σ Q r s') pl.isList (by omega) (by rw [List.size_toArray] <;> omega) (by omega) (by rw [hj]; simpa using ew) ⟨rfl, fin⟩) hs
theorem c6K : IxR X (rIxT X.K) := by
 intro value slice pins s σ H x y v u Q I rx ry h hs
 obtain ⟨p, xs, i, z, rfl, rfl, hq, he, q⟩ := h
 cases rx
 obtain ⟨t, rfl⟩ := ry
 obtain ⟨its, r, pl, hz⟩ := I.tuple hq
 obtain ⟨j, h1, h2, h3, h4, h5⟩ := b6S he
 obtain ⟨w, ew, rw'⟩ := r.get h2
 have hl := r.length
 have hn := b0I
 have fin : EP X pins σ Q w s := ⟨z, H, I, rw', q⟩
 exact subscriptTail_builtinR (x := w) pl.typeIs slot_tuple_getitem.lookup
  (getItem_tuple (j := j) (Q := fun r s' => r = w /\ EP X pins σ Q r s') pl (by omega) (by omega) (by rw [List.size_toArray, <- hl]; exact h1) (by simpa using ew) ⟨rfl, fin⟩) hs
theorem b5J (its : List Value) (n j : Nat) (u : Value) : Obj.mapSeq (·.setIfInBounds j u) { cls := .type "list", data := .seq its.toArray n } = { cls := .type "list", data := .seq (its.set j u).toArray n } := by
 simp [Obj.mapSeq]
theorem Inv.lst {pins : List (Addr × Obj)} {σ : St} {H : Hp} {s : Shared} {p : Addr} {xs : List V} (I : Inv X pins σ H s) (h : H p = some (.lst xs)) :
  ∃ (its : List Value) (n : Nat), Vals xs its /\ s.heap.get? p = some { cls := .type "list", data := .seq its.toArray n } /\ xs.length <= sizeLine := by
 obtain ⟨z, its, n, r, e⟩ := I.hok p _ h
 exact ⟨its, n, r, e, z⟩
theorem Inv.lstUpd {pins : List (Addr × Obj)} {σ : St} {H : Hp} {s : Shared} {p : Addr} {xs ys : List V} {its its' : List Value} {n n' : Nat} {f : Obj -> Obj} (I : Inv X pins σ H s) (h : H p = some (.lst xs))
  (ho : s.heap.get? p = some { cls := .type "list", data := .seq its.toArray n }) (hf : f { cls := .type "list", data := .seq its.toArray n } = { cls := .type "list", data := .seq its'.toArray n' }) (r : Vals ys its') (hz : ys.length <= sizeLine) (t : Nat) :
  Inv X pins σ (upd H p (.lst ys)) { s with heap := s.heap.update p f, toks := t } := by
 have e : (s.heap.update p f).get? p = some { cls := .type "list", data := .seq its'.toArray n' } := by
  rw [Heap.get?_update_self f ho (by rw [hf] <;> rfl), hf]
 refine I.write (x := p) (e := p) (by rw [h]; trivial) (.inl rfl) (fun b u hb q => (Heap.get?_update_other _ _ (Ne.symm hb)).trans q) ⟨_, e⟩ ?_
 exact ⟨hz, its', n', r, e⟩
def c8M : V -> V -> V -> Hp -> (Hp -> Prop) -> Prop := fun o i v H Q => ∃ p xs k j, o = .ref p /\ i = .int k /\ H p = some (.lst xs) /\ ixN xs.length k = some j /\ Q (upd H p (.lst (xs.set j v)))
theorem c0G : PSet X c8M := by
 intro pins s σ H o i v ov iv u Q I ro ri rv h
 obtain ⟨p, xs, k, j, rfl, rfl, hp, hj, q⟩ := h
 cases ro
 obtain ⟨t, rfl⟩ := ri
 obtain ⟨its, n, r, ho, hz⟩ := I.lst hp
 obtain ⟨h1, h2, h3, h4⟩ := b6R hj
 have hl := r.length
 have hn := b0I
 have I' : Inv X pins σ (upd H p (.lst (xs.set j v))) { s with heap := s.heap.update p (Obj.mapSeq (·.setIfInBounds j u)) } :=
  I.lstUpd hp ho (b5J its n j u) (r.set rv j) (by rw [List.length_set]; exact hz) s.toks
 by_cases h0 : 0 <= k
 ·have hk : k.toNat = j := by
   rw [seqIndex_of h0 h4] at h1
   exact Option.some.inj h1
  exact PySem.W.ki_setAt ho h0 (by omega) (by rw [List.size_toArray, <- hl]; exact h4) (by rw [hk]; exact ⟨_, I', q⟩)
 ·have hk : (k + (its.toArray.size : Int)).toNat = j := by
   rw [seqIndex_neg (by omega) h3] at h1
   rw [List.size_toArray, <- hl]
   exact Option.some.inj h1
  exact PySem.W.ki_setBack ho (by omega) (by rw [List.size_toArray, <- hl]; exact h3) (by omega) (by rw [hk]; exact ⟨_, I', q⟩)
theorem b0P (lo hi : Option Int) (n : Nat) : (sliceBounds lo hi none n).1 = ((HT.sIx n 0 lo : Nat) : Int) /\ (sliceBounds lo hi none n).2.1 = ((HT.sIx n n hi : Nat) : Int) /\ (sliceBounds lo hi none n).2.2 = 1 := by
 refine ⟨?_, ?_, rfl⟩
 ·cases lo with
  | none => simp [sliceBounds, HT.sIx]
  | some i =>
   simp only [sliceBounds, HT.sIx, Option.getD_none, show (1 : Int) > 0 by decide, if_true]
   by_cases h : i < 0
   ·simp only [h, if_true] <;> omega
   ·simp only [h, if_false] <;> omega
 ·cases hi with
  | none => simp [sliceBounds, HT.sIx]
  | some i =>
   simp only [sliceBounds, HT.sIx, Option.getD_none, show (1 : Int) > 0 by decide, if_true]
   by_cases h : i < 0
   ·simp only [h, if_true] <;> omega
   ·simp only [h, if_false] <;> omega
theorem a9L (its : List Value) (lo hi : Option Int) : slicePick its.toArray lo hi none = ((its.drop (HT.sIx its.length 0 lo)).take (HT.sIx its.length its.length hi - HT.sIx its.length 0 lo)).toArray := by
 obtain ⟨h1, h2, h3⟩ := b0P lo hi its.toArray.size
 unfold slicePick
 rw [h1, h2, h3]
 simp only [sliceRange_one, pick_run, List.size_toArray] <;> rfl
def rSlL (K : Φρ) : V -> Option Int -> Option Int -> Hp -> VK -> Prop := fun x lo hi H Q => ∃ a xs, x = .ref a /\ SqL K H a xs /\ ∀ p, H p = none -> Q (.ref p) (upd H p (.lst (cutV xs lo hi)))
theorem c3J : SlR X (rSlL X.K) := by
 intro pins s σ H x v vl vu lo hi sl Q I rx hs pl pu h
 obtain ⟨a, xs, rfl, hx, q⟩ := h
 cases rx
 obtain ⟨its, r, ht, hz⟩ := I.list hx
 have hlen := r.length
 refine ⟨"list", _, slot_list_getitem.lookup, ht.isList.typeIs, ?_⟩
 refine wpAny_getItem_list_slice ht.isList hs pl pu .none (by simp) ?_ (by rw [List.size_toArray] <;> omega)
 rw [a9L, <- hlen]
 refine ⟨.ref s.heap.objs.size, _, I.laid (t' := s.toks) (o := .lst (cutV xs lo hi)) (fun b ob q => Heap.get?_push_of_some _ q) (Nat.le_refl _) ?_, rfl, q _ (I.hok.fresh (Nat.le_refl _))⟩
 exact ⟨Nat.le_trans (b2M xs lo hi) hz, _, 0, (r.drop (HT.sIx xs.length 0 lo)).take (HT.sIx xs.length xs.length hi - HT.sIx xs.length 0 lo), Heap.get?_push_size _ rfl⟩
theorem b0Q : CallR X (.builtin "len") (fun xs H Q => ∃ p ys, xs = [.ref p] /\ (SqL X.K H p ys \/ SqT X.K H p ys) /\ Q (.int ys.length) H) := by
 intro pins s σ H xs us Q I r h
 obtain ⟨p, ys, rfl, hq, q⟩ := h
 obtain ⟨u, rfl, rx⟩ := b0J r
 cases rx
 have hn := b0I
 rcases hq with hq | hq
 ·obtain ⟨its, r', pl, hz⟩ := I.list hq
  have hlen := r'.length
  exact Calls.call_len_list pl.isList (by simp only [List.size_toArray] <;> omega) ⟨.int ys.length, H, I.tok _, ⟨s.toks + 1, by rw [List.size_toArray, hlen]⟩, q⟩
 ·obtain ⟨its, r', pl, hz⟩ := I.tuple hq
  have hlen := r'.length
  exact len_tuple pl (by simp only [List.size_toArray] <;> omega) ⟨.int ys.length, H, I.tok _, ⟨s.toks + 1, by rw [List.size_toArray, hlen]⟩, q⟩
theorem b0R : CallR X (.type "list") (fun xs H Q => ∃ p ys, xs = [.ref p] /\ (SqL X.K H p ys \/ SqT X.K H p ys) /\ ∀ l, H l = none -> Q (.ref l) (upd H l (.lst ys))) := by
 intro pins s σ H xs us Q I r h
 obtain ⟨p, ys, rfl, hq, q⟩ := h
 obtain ⟨u, rfl, rx⟩ := b0J r
 cases rx
 have fin : ∀ (its : List Value), Vals ys its -> ys.length <= sizeLine -> ∀ (h' : Heap) (c' : Nat), (∀ b o', s.heap.get? b = some o' -> h'.get? b = some o') ->
   h'.get? s.heap.objs.size = some { cls := .type "list", dict := none, data := .seq its.toArray c', slots := #[] } -> EP X pins σ Q (.ref s.heap.objs.size) { s with heap := h' } := fun its r' hz h' c' kp e =>
  ⟨.ref s.heap.objs.size, _, I.laid (t' := s.toks) kp (Nat.le_refl _) (show ObjOk X.prog X.w _ h' _ (.lst ys) from ⟨hz, its, c', r', e⟩), rfl, q _ (I.hok.fresh (Nat.le_refl _))⟩
 rcases hq with hq | hq
 ·obtain ⟨its, r', pl, hz⟩ := I.list hq
  have hlen := r'.length
  obtain ⟨o, ho, hc, n, hd⟩ := pl.isList
  exact call_list_seq p (.inl rfl) ho hc hd (fun h' c' kp e => fin its r' hz h' c' kp e) (by simp only [List.size_toArray] <;> omega)
 ·obtain ⟨its, r', pl, hz⟩ := I.tuple hq
  have hlen := r'.length
  obtain ⟨o, ho, hc, n, hd⟩ := pl
  exact call_list_seq p (.inr rfl) ho hc hd (fun h' c' kp e => fin its r' hz h' c' kp e) (by simp only [List.size_toArray] <;> omega)
def tyV (K : Φρ) (T : String) (x : V) (H : Hp) : Prop := match x with
 | .str _ => T = "str"
 | .int _ => T = "int"
 | .ref p => (T = "list" /\ ∃ xs, SqL K H p xs) \/ (T = "tuple" /\ ∃ o, K.lookup p = some o /\ o.cls = .type "tuple" /\ o.dict = none) \/
   (T = "dict" /\ ((∃ kvs, H p = some (.dK kvs)) \/ ∃ kvs, H p = some (.dT kvs))) \/ (T = "set" /\ ∃ S n, H p = some (.set S n))
 | _ => False
theorem c2L {pins : List (Addr × Obj)} {σ : St} {H : Hp} {s : Shared} {T : String} {x : V} {v : Value} (I : Inv X pins σ H s) (r : RelV x v) (ty : tyV X.K T x H) :
  s.TypeIs v T /\ ∀ a, v = .ref a -> ∃ ob, s.heap.get? a = some ob /\ ob.dict = none := by
 cases x with
 | str z =>
  obtain ⟨t, rfl⟩ := r
  cases (show T = "str" from ty)
  exact ⟨typeIs_str s z t, fun _ e => nomatch e⟩
 | int i =>
  obtain ⟨t, rfl⟩ := r
  cases (show T = "int" from ty)
  exact ⟨typeIs_int s i t, fun _ e => nomatch e⟩
 | ref p =>
  cases r
  rcases ty with ⟨rfl, xs, hq⟩ | ⟨rfl, o, hk, hc, hd⟩ | ⟨rfl, hk⟩ | ⟨rfl, S, n, hk⟩
  ·obtain ⟨its, _, pl, _⟩ := I.list hq
   refine ⟨pl.isList.typeIs, fun a e => ?_⟩
   cases e
   obtain ⟨o, n, e, c, hd, _⟩ := pl
   exact ⟨o, e, hd⟩
  ·refine ⟨⟨o, I.kIn p o hk, hc⟩, fun a e => ?_⟩
   cases e
   exact ⟨o, I.kIn _ o hk, hd⟩
  ·have z : ∃ o, s.heap.get? p = some o /\ o.ExactDict := by
    rcases hk with ⟨kvs, hk⟩ | ⟨kvs, hk⟩
    ·obtain ⟨_, _, _, _, o, _, _, e, ex, _⟩ := I.hok p _ hk
     exact ⟨o, e, ex⟩
    ·obtain ⟨_, _, _, _, o, _, _, e, ex, _⟩ := I.hok p _ hk
     exact ⟨o, e, ex⟩
   obtain ⟨o, e, ex⟩ := z
   refine ⟨⟨o, e, ex.1⟩, fun a e2 => ?_⟩
   cases e2
   exact ⟨o, e, ex.2.1⟩
  ·obtain ⟨o, _, _, _, e, ex, _⟩ := I.hok p _ hk
   refine ⟨⟨o, e, ex.1⟩, fun a e2 => ?_⟩
   cases e2
   exact ⟨o, e, ex.2.1⟩
 | _ => exact False.elim ty
def tBM0 (K : Φρ) (T : String) (r : V -> List V -> Hp -> VK -> Prop) (to : TE) : TE := fun σ H Q => to σ H fun x H1 => tyV K T x H1 /\ r x [] H1 Q
def tBM (K : Φρ) (T : String) (r : V -> List V -> Hp -> VK -> Prop) (to : TE) (t : TA) : TE := fun σ H Q => to σ H fun x H1 => tyV K T x H1 /\ t σ H1 fun xs H2 => r x xs H2 Q
variable {o e : Expr} {es : List Expr} {to : TE} {t : TA} {name : Str} {apos cpos : Pos} {T id : String} {r : V -> List V -> Hp -> VK -> Prop}
theorem c6L (pa : PlainAttrs T) (slot : Slot T name id) (hty : typeOf (.builtin id) = pure (.type "method_descriptor")) (hm : MtR X id r) (ho : PE X o to)
  (hbase : attributeBase o name X.env (eval o X.env) = eval o X.env := by rfl) (hline : (apos.endLine == cpos.line) = true := by rfl) : PE X (.Call (.Attribute o name apos) [] [] cpos) (tBM0 X.K T r to) := by
 intro pins s σ H Q I h
 refine wpAny_Call_method0_late hbase hline (thn (ho pins s σ H _ I h) fun v s1 ⟨x, H1, I1, r1, ty, q1⟩ => ?_)
 obtain ⟨h1, h2⟩ := c2L I1 r1 ty
 exact ⟨T, id, pa, slot, hty, h1, h2, Calls.callWith_builtin rfl (PySem.evalArgs_none (hm pins s1 σ H1 x [] v [] Q I1 r1 .nil q1))⟩
theorem c8N (pa : PlainAttrs T) (slot : Slot T name id) (hty : typeOf (.builtin id) = pure (.type "method_descriptor")) (hm : MtR X id r) (ho : PE X o to) (ha : PA X (e :: es) t)
  (hbase : attributeBase o name X.env (eval o X.env) = eval o X.env := by rfl)
  (hfew : ((backTo cpos (starEach (e :: es) X.env)).all (fun x => !x.1) && (backToKw cpos (keywordEach [] X.env)).all (fun x => x.1.isSome)
   && decide ((e :: es).length + ([] : List Keyword).length + (if ([] : List Keyword).isEmpty then 0 else 1) < 30)) = true := by rfl)
  (hline : (apos.endLine == cpos.line) = true := by rfl) (hs : starEach (e :: es) X.env = (false, eval e X.env) :: starEach es X.env := by rfl) (hplain : (backTo cpos (starEach es X.env)).any (·.1) = false := by rfl) :
  PE X (.Call (.Attribute o name apos) (e :: es) [] cpos) (tBM X.K T r to t) := by
 intro pins s σ H Q I h
 refine wpAny_Call_method_late hbase hfew hline rfl (thn (ho pins s σ H _ I h) fun v s1 ⟨x, H1, I1, r1, ty, q1⟩ => ?_)
 obtain ⟨h1, h2⟩ := c2L I1 r1 ty
 refine ⟨T, id, pa, slot, hty, h1, h2, ?_⟩
 have hA := ha cpos pins s1 σ H1 _ I1 q1
 rw [hs] at hA ⊢
 refine Calls.callWith_builtin (by show (false || (backTo cpos (starEach es X.env)).any (·.1)) = false; rw [hplain] <;> rfl) (Calls.evalArgs_plain ?_)
 exact thn hA fun us s2 ⟨vs, H2, I2, r2, q2⟩ => hm pins s2 σ H2 x vs v us Q I2 r1 r2 q2
end
end L2
namespace L2
open PySem PySem.Spec PyProof.Rows
def MtM (X : Cx) (id : String) (r : V -> List V -> Hp -> VK -> Prop) : Prop :=
 ∀ (pins : List (Addr × Obj)) (s : Shared) (σ : St) (H : Hp) (x : V) (xs : List V) (v : Value) (us : List Value) (Q : VK), Inv X pins σ H s -> RelV x v -> Vals xs us -> r x xs H Q ->
  wpAny (model X.prog X.w) X.A (call (.builtin id) (v :: us)) (EP X pins σ Q) X.xe s
theorem Vals.one : ∀ {x : V} {us : List Value}, Vals [x] us -> ∃ u, us = [u] /\ RelV x u
 | _, _, .cons r .nil => ⟨_, rfl, r⟩
theorem Vals.two : ∀ {x y : V} {us : List Value}, Vals [x, y] us -> ∃ u v, us = [u, v] /\ RelV x u /\ RelV y v
 | _, _, _, .cons r (.cons q .nil) => ⟨_, _, rfl, r, q⟩
section
variable {X : Cx} {pins : List (Addr × Obj)} {σ : St} {H : Hp} {s : Shared} {l b : Addr} {xs ys zs : List V}
theorem Inv.lset {its its' : List Value} {n : Nat} {f : Array Value -> Array Value} {t' : Nat} (I : Inv X pins σ H s) (hH : H l = some (.lst xs))
  (e : s.heap.get? l = some { cls := .type "list", data := .seq its.toArray n }) (hf : f its.toArray = its'.toArray) (hv : Vals ys its') (hz : ys.length <= sizeLine) :
  Inv X pins σ (upd H l (.lst ys)) { s with heap := s.heap.update l (Obj.mapSeq f), toks := t' } := by
 have q := PySem.IsL.update e f
 rw [hf] at q
 refine I.write (x := l) (e := l) (by rw [hH]; exact trivial) (.inl rfl) (fun b' u hb hu => (Heap.get?_update_other s.heap (Obj.mapSeq f) (Ne.symm hb)).trans hu) ⟨_, q⟩ ?_
 exact ⟨hz, its', _, hv, q⟩
theorem Inv.lnew {its : List Value} {t' : Nat} (I : Inv X pins σ H s) (hv : Vals ys its) (hz : ys.length <= sizeLine) :
  Inv X pins σ (upd H s.heap.objs.size (.lst ys)) { s with heap := s.heap.push { cls := .type "list", data := .seq its.toArray }, toks := t' } :=
 I.laid (fun _ _ q => Heap.get?_push_of_some _ q) (Nat.le_refl _) ⟨hz, its, 0, hv, Heap.get?_push_size _ rfl⟩
theorem Inv.fresh (I : Inv X pins σ H s) : H s.heap.objs.size = none := I.hok.fresh (Nat.le_refl _)
theorem Inv.lstM (I : Inv X pins σ H s) (hH : H l = some (.lst xs)) : xs.length <= sizeLine /\ ∃ (its : List Value) (n : Nat), Vals xs its /\ xs.length = its.length /\ s.heap.get? l = some { cls := .type "list", data := .seq its.toArray n } := by
 obtain ⟨z, its, n, r, e⟩ := I.hok l _ hH
 exact ⟨z, its, n, r, r.length, e⟩
end
section
variable {X : Cx}
def c3K : V -> List V -> Hp -> VK -> Prop := fun x vs H Q => ∃ l xs y, x = .ref l /\ vs = [y] /\ H l = some (.lst xs) /\ xs.length < sizeLine /\ Q .non (upd H l (.lst (xs ++ [y])))
theorem mt_append : MtM X "list.append" c3K := by
 intro pins s σ H x vs v us Q I rx rv h
 obtain ⟨l, xs, y, rfl, rfl, hH, hz, q⟩ := h
 cases rx
 obtain ⟨u, rfl, ru⟩ := rv.one
 obtain ⟨z, its, n, r, hl, e⟩ := I.lstM hH
 refine call_meets F.slot_list_append ⟨_, e, rfl⟩ F.entry_list_append (F.args_list_append_2 _ _) (PySem.list_append l its.toArray n u (by rw [List.size_toArray]; omega)) ⟨e, ?_⟩
 refine ⟨.non, _, I.lset (its' := its ++ [u]) hH e (by simp) (r.append (.cons ru .nil)) ?_, rfl, q⟩
 rw [List.length_append, List.length_singleton]
 omega
def rCat : R2 := fun x y H Q => ∃ l b xs zs, x = .ref l /\ y = .ref b /\ H l = some (.lst xs) /\ H b = some (.lst zs) /\ xs.length + zs.length <= sizeLine /\ ∀ p, H p = none -> Q (.ref p) (upd H p (.lst (xs ++ zs)))
theorem op_cat : OpR X (binaryOp .Add) rCat := by
 intro pins s σ H x y v u Q I rx ry h
 obtain ⟨l, b, xs, zs, rfl, rfl, hH, hB, hz, q⟩ := h
 cases rx
 cases ry
 obtain ⟨z, its, n, r, hl, e⟩ := I.lstM hH
 obtain ⟨z2, its2, n2, r2, hl2, e2⟩ := I.lstM hB
 refine PySem.P.add_list e e2 ?_ (by rw [List.size_toArray, List.size_toArray]; omega)
 have ea : its.toArray ++ its2.toArray = (its ++ its2).toArray := by simp
 rw [ea]
 exact ⟨.ref _, _, I.lnew (t' := s.toks) (r.append r2) (by rw [List.length_append]; omega), rfl, q _ I.fresh⟩
end
section
variable {prog : Program} {w : World} {A : Around} {E : Value -> Shared -> Prop} {s : Shared}
end
section
variable {X : Cx}
end
end L2
namespace Att
open PySem PySem.W PySem.Calls PyProof.Rows
theorem a7M {P : Params} {h : Heap} : ∀ (ns : List Int) (vs : List Value), WellAll P h vs (ns.map WData.int) -> IntsAre vs ns := by
 intro ns
 induction ns with
 | nil =>
  intro vs w
  rw [List.map_nil] at w
  cases w
  exact .nil
 | cons n ns ih =>
  intro vs w
  rw [List.map_cons] at w
  cases w with
  | cons a b =>
   cases a
   exact .cons _ _ (ih _ b)
theorem b6T {l : OpenLaw} {n : Nat} (hn : l.most = some n) {P : Params} {h : Heap} {args : List WData} {vals : List Value}
    (hpre : l.row.toRowW.claim.pre args = true) (hwl : WellAll P h vals args) :
    ∃ a vs ns, vals = [Value.ref a] /\ args = [WData.list (ns.map WData.int)] /\ h.get? a = some { cls := .type "list", data := .seq vs.toArray } /\ IntsAre vs ns /\ ns.length <= n := by
  have hsh : WShape.hasAll [] args [.list .int] = true := (pre_splitW hpre).1
  have hc : l.pre.holds [] { args := args } = true := (pre_splitW hpre).2
  obtain ⟨d, r, rfl, h1, h2⟩ := hasAllW_cons hsh
  obtain rfl := hasAllW_nil h2
  obtain ⟨xs, rfl, h3⟩ := hasW_list h1
  obtain ⟨ns, rfl⟩ := items_int h3
  have hlen : ns.length <= n := by
    unfold OpenLaw.pre at hc
    have h4 : (WTm.not (.lt (.lit (.int (n : Int))) (.len (.arg 0)))).holds [] { args := [.list (ns.map .int)] } = true := by
      have h4 := (holds_andW hc).1
      rw [hn] at h4
      exact h4
    have h5 := condW_of h4 (w_not (w_lt w_lit (w_len_list (w_arg rfl))))
    rw [List.length_map] at h5
    refine Nat.le_of_not_lt fun q => ?_
    have q' : (n : Int) < ((ns.length : Nat) : Int) := by omega
    first
      | (rw [decide_eq_true q'] at h5; exact absurd h5 (by decide))
      | (simp at h5; omega)
  cases hwl with
  | cons w1 w2 =>
    cases w2
    cases w1 with
    | list ho hall => exact ⟨_, _, ns, rfl, rfl, ho, a7M ns _ hall, hlen⟩
theorem b6U (l : OpenLaw) (args : List WData) : l.row.toRowW.claim.post args (.bool true) args = true :=
  postW_of (r := l.row.toRowW) (X := (true == true))
    (show WShape.has [] (.bool true) .bool = true by first | rfl | decide | simp [WShape.has, WShape.arms, WShape.armsAll])
    (show (WTm.eq .res (.lit (.bool true))).value [] { args := args, res := some (.bool true), after := args } = some (.bool (true == true)) from w_eq_bool (w_res rfl) w_lit) rfl
theorem attach_call {l : OpenLaw} {n : Nat} {q : Program} {loose : List Str} {XP : (Str -> Option Value) -> Heap -> Prop} {YP : World -> Heap -> Prop} {d : DefRec}
  (hn : l.most = some n) (hdf : d.params.defaults = [])
  (call : ∀ (w : World) (s₀ s₁ : Shared) (mg mb : Str -> Option Value) (fa : Addr) (o : Obj) (pm cd doc : Value) (a : Addr) (vs : List Value) (ns : List Int),
   Ground q loose [] XP w s₀ mg mb s₁.heap -> YP w s₁.heap ->
   s₁.heap.get? fa = some o -> o.data = .func (docDef d.name d.params d.body d.scope pm cd doc) -> s₁.heap.CodeRec cd d.name -> mg d.name = some (.ref fa) ->
   s₁.heap.get? a = some { cls := .type "list", data := .seq vs.toArray } -> IntsAre vs ns -> ns.length <= n -> s₁.gens = #[] ->
   codeAny (model l.prog w) callerA (.call (.ref fa) ⟨[.ref a], []⟩) (fun r s' => r = .ok (.ret (.bool true)) /\ OldK s₁.heap s'.heap /\ s'.os = s₁.os /\ AllBare s'.gens) s₁) :
  WalkO q loose XP YP l.row.toRowW d [] (fun f vs => PySem.call f vs) := by
 intro w s₀ s₁ mg mb G Y fa o pm cd doc dV kV ho hd hcd hD hmg hg args vals as hpre hlay hrd hwl hlo
 obtain rfl : dV = .none := Dflts.none hD hdf
 obtain rfl : kV = .none := Dflts.noKw hD
 obtain ⟨a, vs, ns, rfl, rfl, hobj, hints, hlen⟩ := b6T hn hpre hwl
 refine enter_call (codeAny_mono (call w s₀ s₁ mg mb fa o pm cd doc a vs ns G Y ho (fd_plain hd) hcd hmg hobj hints hlen hg) fun r s' hq => ?_)
 obtain ⟨rfl, h2, h3, h4⟩ := hq
 exact ⟨.inl ⟨.bool true, .bool true, [], rfl, fun _ => rfl, .bool true, b6U l _, fun _ => ⟨List.Pairwise.nil, fun _ hm => (nomatch hm)⟩⟩, h2, h3, h4⟩
section
variable {prog : Program} {w : World} {A : Around} {E : Value -> Shared -> Prop} {s : Shared} {K : Frag}
end
end Att
namespace L2
open PySem PySem.Spec PyProof.Rows
theorem b0S : ∀ {vs : List Value} {ns : List Int}, IntsAre vs ns -> Vals (ns.map V.int) vs
 | _, _, .nil => .nil
 | _, _, .cons n t h => .cons ⟨t, rfl⟩ (b0S h)
def Only (H : Hp) : Prop := ∀ b, H b = none \/ ∃ o xs, H b = some (.frz o (.lst xs))
theorem c0H {P : Program} {w : World} {K : Φρ} {mg mb : Str -> Option Value} {CX : CXT} {k : Nat} {fa a : Addr} {fd : FuncData} {x : Str} {sp : Sp} {s₁ : Shared} {vs : List Value} {ns : List Int}
  (KX : K.In s₁.heap) (hns : s₁.heap.Ns mainGlobals mg) (hb : s₁.heap.Ns builtinsNs mb) (hbb : ∀ x : Str, x ≠ "__name__" -> mb x = bootBuiltins x) (hlim : s₁.heap.NoLimit) (hg : s₁.gens = #[])
  (ha : s₁.heap.get? a = some { cls := .type "list", data := .seq vs.toArray }) (hi : IntsAre vs ns) (hl : ns.length <= sizeLine) (hr : Room k callerA)
  (F : ∀ base : Heap, K.In base -> base.Ns mainGlobals mg -> FnOk P w K mg base CX k fa fd [x] sp) (hbind : ∀ (s : Shared) (u : Value), BindsTo s fd ⟨[u], []⟩ [(x, u)])
  (hsp : ∀ H : Hp, Only H -> SqL K H a (ns.map V.int) -> sp [.ref a] H (fun v _ => v = .bl true) fun _ _ _ => False)
  (hCX : ∀ H e s', CX [] H s₁ (fun _ _ _ => False) e s' -> False) :
  codeAny (model P w) callerA (.call (.ref fa) ⟨[.ref a], []⟩) (fun r s' => r = .ok (.ret (.bool true)) /\ OldK s₁.heap s'.heap /\ s'.os = s₁.os /\ AllBare s'.gens) s₁ := by
 have rv := b0S hi
 have lenV := hi.length
 have core : ∀ H : Hp, Only H -> SqL K H a (ns.map V.int) -> HOk P w H s₁.heap -> (∀ b, H b ≠ none -> b = a) -> (H a ≠ none -> K.lookup a = none) ->
   codeAny (model P w) callerA (.call (.ref fa) ⟨[.ref a], []⟩) (fun r s' => r = .ok (.ret (.bool true)) /\ OldK s₁.heap s'.heap /\ s'.os = s₁.os /\ AllBare s'.gens) s₁ := by
  intro H hO hS hok hA hK
  have base_of : ∀ {b : Addr} {o : Obj}, s₁.heap.get? b = some o -> H b = none -> (hidT s₁.heap H).get? b = some o := fun e n => c0B e n
  have noA : ∀ {b : Addr} {o : Obj} {es : Array DictEntry} {ep : Nat}, s₁.heap.get? b = some o -> o.data = .dict es ep -> H b = none := fun {b o es ep} e d => by
   cases q : H b with
   | none => rfl
   | some u =>
    have e' : b = a := hA b (by rw [q]; simp)
    subst e'
    rw [ha] at e; cases e
    have d' : Data.seq vs.toArray _ = Data.dict es ep := d
    cases d'
  have nsK : ∀ {b : Addr} {m : Str -> Option Value}, s₁.heap.Ns b m -> (hidT s₁.heap H).Ns b m := fun {b m} ⟨o, es, ep, e, d, r⟩ => ⟨o, es, ep, base_of e (noA e d), d, r⟩
  have hKb : K.In (hidT s₁.heap H) := fun b o e => base_of (KX b o e) (by
   cases q : H b with
   | none => rfl
   | some u =>
    have e' : b = a := hA b (by rw [q]; simp)
    subst e'
    rw [hK (by rw [q]; simp)] at e; cases e)
  have hM : Mod K mg (hidT s₁.heap H) := ⟨hKb, nsK hns, ⟨mb, nsK hb, hbb⟩, let ⟨mc, h1, h2⟩ := hlim; ⟨mc, nsK h1, h2⟩⟩
  have e0 : Env0 P w K mg (hidT s₁.heap H) callerA [] s₁ H := ⟨rfl, hM, fun b o e => c2Z e, Nat.le_of_eq (b6F _ _), trivial, fun b hb => absurd (show b ∈ ([] : List Addr) from hb) (by simp), hok, .of_eq hg⟩
  refine codeAny_mono ((F _ hKb (nsK hns)).run callerA [] s₁ H ⟨[.ref a], []⟩ [.ref a] [.ref a] _ _ hr e0 (hbind s₁ (.ref a)) (.cons rfl .nil) (hsp H hO hS)) fun r s' h => ?_
  cases r with
  | error e => exact (hCX H e s' h).elim
  | ok fl =>
   cases fl with
   | next => exact False.elim h
   | brk => exact False.elim h
   | cont => exact False.elim h
   | ret u =>
    obtain ⟨v, H', os, bare, un, hok', r', q⟩ := h
    have q' : v = .bl true := q
    subst q'
    obtain rfl : u = Value.bool true := r'
    refine ⟨rfl, OldK.of_keep fun b o e => ?_, os, bare⟩
    cases q : H b with
    | none => exact un.keep b o e q (by intro z; exact absurd (show b ∈ ([] : List Addr) from z) (by simp)) (by simp)
    | some u =>
     rcases hO b with z | ⟨ob, xs, z⟩
     ·rw [q] at z; cases z
     ·have z2 := un.frzs b ob _ z
      obtain ⟨e1, _⟩ := hok b _ z
      obtain ⟨e2, _⟩ := hok' b _ z2
      rw [e] at e1; cases e1
      exact e2
 cases hk : K.lookup a with
 | some o =>
  have e := KX a o hk
  rw [ha] at e
  cases e
  refine core (fun _ => none) (fun _ => .inl rfl) (.inr ⟨_, vs.toArray, _, hk, rfl, rfl, rfl, by rw [List.size_toArray, lenV]; exact hl, by simpa using rv⟩) (fun b u z => by have z' : (none : Option HO) = some u := z; cases z') (fun b z => absurd rfl z) fun z => absurd rfl z
 | none =>
  refine core (fun b => if b = a then some (.frz { cls := .type "list", data := .seq vs.toArray } (.lst (ns.map V.int))) else none) (fun b => ?_) (.inl (.inr ⟨{ cls := .type "list", data := .seq vs.toArray }, if_pos rfl⟩)) (fun b u z => ?_) (fun b z => ?_) fun _ => hk
  ·by_cases hb : b = a
   ·exact .inr ⟨_, _, if_pos hb⟩
   ·exact .inl (if_neg hb)
  ·by_cases hb : b = a
   ·have z' := (if_pos hb).symm.trans z
    cases z'
    subst hb
    exact ⟨ha, by rw [List.length_map]; exact hl, vs, _, rv, ha⟩
   ·have z' := (if_neg hb).symm.trans z
    cases z'
  ·by_cases hb : b = a
   ·exact hb
   ·exact absurd (if_neg hb) z
end L2
namespace L2
open PySem PySem.Spec PyProof.Rows
abbrev KOf {K : Φρ} {h : Heap} (_ : K.In h) : Φρ := K
theorem c3L {l : PySem.W.OpenLaw} {n k : Nat} {q : Program} {loose : List Str} {XP : (Str -> Option Value) -> Heap -> Prop} {YP : World -> Heap -> Prop} {d : DefRec} {K : Params -> Φρ} {CX : World -> CXT} {sp : World -> Sp} {x : Str}
  (hn : l.most = some n) (hn2 : n <= sizeLine) (hdf : d.params.defaults = []) (hr : Room k callerA)
  (hY : ∀ (w : World) (h : Heap), YP w h -> (K w.params).In h)
  (F : ∀ (w : World) (mg : Str -> Option Value) (fa : Addr) (h : Heap), (K w.params).In h -> h.Ns mainGlobals mg -> mg d.name = some (.ref fa) ->
   ∃ fd : FuncData, (∀ (s : Shared) (u : Value), BindsTo s fd ⟨[u], []⟩ [(x, u)]) /\
    ∀ base : Heap, (K w.params).In base -> base.Ns mainGlobals mg -> FnOk l.prog w (K w.params) mg base (CX w) k fa fd [x] (sp w))
  (hsp : ∀ (w : World) (H : Hp) (a : Addr) (ns : List Int), ns.length <= n -> Only H -> SqL (K w.params) H a (ns.map V.int) -> sp w [.ref a] H (fun v _ => v = .bl true) fun _ _ _ => False)
  (hCX : ∀ (w : World) (H : Hp) (s : Shared) (e : Value) (s' : Shared), CX w [] H s (fun _ _ _ => False) e s' -> False) :
  PySem.W.WalkO q loose XP YP l.row.toRowW d [] (fun f vs => PySem.call f vs) := by
 refine Att.attach_call hn hdf fun w s₀ s₁ mg mb fa o pm cd doc a vs ns G Y ho hd hcd hmg hobj hints hlen hg => ?_
 have KX := hY w _ Y
 obtain ⟨fd, hb, hF⟩ := F w mg fa _ KX G.T.g hmg
 exact c0H KX G.T.g G.T.b G.T.builtins G.T.nolimit hg hobj hints (Nat.le_trans hlen hn2) hr hF hb (fun H hO hS => hsp w H a ns hlen hO hS) fun H e s' => hCX w H s₁ e s'
theorem walk_ofK {l : PySem.W.OpenLaw} {n k : Nat} {q : Program} {loose : List Str} {XP : (Str -> Option Value) -> Heap -> Prop} {YP : World -> Heap -> Prop} {d : DefRec} {K : Params -> Φρ} {CX : CXT} {sp : Φρ -> Sp} {x : Str}
  (hn : l.most = some n) (hn2 : n <= sizeLine) (hdf : d.params.defaults = []) (hr : Room k callerA)
  (hY : ∀ (w : World) (h : Heap), YP w h -> (K w.params).In h)
  (F : ∀ (w : World) (mg : Str -> Option Value) (fa : Addr) (h : Heap), (K w.params).In h -> h.Ns mainGlobals mg -> mg d.name = some (.ref fa) ->
   ∃ fd : FuncData, (∀ (s : Shared) (u : Value), BindsTo s fd ⟨[u], []⟩ [(x, u)]) /\
    ∀ base : Heap, (K w.params).In base -> base.Ns mainGlobals mg -> FnOk l.prog w (K w.params) mg base CX k fa fd [x] (sp (K w.params)))
  (hsp : ∀ (K : Φρ) (H : Hp) (a : Addr) (ns : List Int), ns.length <= n -> Only H -> SqL K H a (ns.map V.int) -> sp K [.ref a] H (fun v _ => v = .bl true) fun _ _ _ => False)
  (hCX : ∀ (H : Hp) (s : Shared) (e : Value) (s' : Shared), CX [] H s (fun _ _ _ => False) e s' -> False) :
  PySem.W.WalkO q loose XP YP l.row.toRowW d [] (fun f vs => PySem.call f vs) :=
 c3L (K := K) (CX := fun _ => CX) (sp := fun w => sp (K w.params)) hn hn2 hdf hr hY F (fun w H a ns h1 h2 h3 => hsp (K w.params) H a ns h1 h2 h3) fun _ H s e s' => hCX H s e s'
end L2
namespace L2
open PySem PySem.Spec PyProof.Rows
def a1K (s : Stmt) : Arguments := match s with
 | .FunctionDef _ a _ _ _ _ _ _ _ _ => a
 | _ => { posonlyargs := [], args := [], vararg := none, kwonlyargs := [], kw_defaults := [], kwarg := none, defaults := [] }
def a1H (s : Stmt) : List Stmt := match s with
 | .FunctionDef _ _ b _ _ _ _ _ _ _ => b
 | _ => []
def a0F (s : Stmt) : Scope := match s with
 | .FunctionDef _ _ _ _ _ _ sc _ _ _ => sc
 | _ => { kind := .function, names := [], isGenerator := false, isCoroutine := false }
abbrev CX0 : CXT := fun _ _ _ _ _ _ => False
abbrev E0 : XK := fun _ _ _ => False
theorem a0U {X : Cx} : b6P CX0 X E0 := fun _ _ _ _ _ _ _ h => h.elim
structure Fun (K : Φρ) (x qual : Str) (st : Stmt) (f : Addr) (fd : FuncData) : Prop where
 ex : ∃ (oc : Value) (od : Option Addr) (kV doc pm : Value) (an : Option Addr) (cdv ct : Value) (osl : Array (Option Value)),
  fd = PySem.W.fnOf x qual (a1K st) (a1H st) (a0F st) .none kV doc pm an cdv ct /\ K.lookup f = some ⟨oc, od, .func fd, osl⟩ /\ PySem.W.codeIn K cdv qual = true
 kp : PySem.W.keepIn K (.ref f) = true
section
variable {P : Program} {w : World} {K : Φρ} {mg : Str -> Option Value} {base : Heap}
theorem Fun.ok {x qual : Str} {st : Stmt} {f : Addr} {fd : FuncData} {N ps : List Str} {k : Nat} {sp : Sp} (F : Fun K x qual st f fd) (S : FnScope N ps (a0F st)) (len : ∀ vs H Q E, sp vs H Q E -> vs.length = ps.length)
  (hbody : ∀ (cdv : Value) (A : Around) (outer : List Env) (s : Shared) (H : Hp) (vs : List V) (Q : VK) (E : XK), Room k (A.deeper (envOfC qual (a0F st) s.heap.objs.size f cdv)) -> sp vs H Q E ->
   ∃ t, PSs (cxOf CX0 P w K mg base N qual (a0F st) f cdv A outer s H E).nox (a1H st) t /\ t { nx := fun _ H' => Q .non H', rt := Q } (b0O N vs) H) : FnOk P w K mg base CX0 (k + 1) f fd ps sp := by
 obtain ⟨oc, od, kV, doc, pm, an, cdv, ct, osl, rfl, lk, hcd⟩ := F.ex
 refine c8K lk hcd S len fun A outer s H vs Q E hr hsp => ?_
 obtain ⟨t, h, q⟩ := hbody cdv A outer s H vs Q E hr hsp
 exact ⟨t, h.nox, q⟩
theorem Fun.binds {x qual : Str} {st : Stmt} {f : Addr} {fd : FuncData} {ps : List Str} (F : Fun K x qual st f fd)
  (h : ∀ (kV doc pm : Value) (an : Option Addr) (cdv ct : Value) (us : List Value), us.length = ps.length -> bindArgs (PySem.W.fnOf x qual (a1K st) (a1H st) (a0F st) .none kV doc pm an cdv ct) ⟨us, []⟩ = pure (ps.zip us)) : Binds K fd ps [] := by
 obtain ⟨oc, od, kV, doc, pm, an, cdv, ct, osl, rfl, lk, hcd⟩ := F.ex
 exact .all (h kV doc pm an cdv ct)
theorem c6M {x qual : Str} {st : Stmt} {f : Addr} {oc : Value} {od an : Option Addr} {osl : Array (Option Value)} {kV doc pm cdv ct : Value} (l : K.lookup f = some ⟨oc, od, .func (PySem.W.fnOf x qual (a1K st) (a1H st) (a0F st) .none kV doc pm an cdv ct), osl⟩)
  (c : PySem.W.codeIn K cdv qual = true) (k : PySem.W.keepIn K (.ref f) = true) : Fun K x qual st f (PySem.W.fnOf x qual (a1K st) (a1H st) (a0F st) .none kV doc pm an cdv ct) := ⟨⟨oc, od, kV, doc, pm, an, cdv, ct, osl, rfl, l, c⟩, k⟩
end
theorem a1R {n : Nat} (h : n <= 1000) : n < sizeLine := Nat.lt_of_le_of_lt h (by decide)
section
variable {X : Cx}
theorem pv (i : Nat) {x : Str} {pos : Pos} (hN : X.N[i]? = some x := by rfl) (hv : Vis X.env.scope x := by first | exact Or.inl rfl | exact Or.inr (Or.inl rfl) | exact Or.inr (Or.inr rfl)) (hd : (x == ("__debug__" : Str)) = false := by decide)
  (hcd : (x == ("__classdict__" : Str)) = false := by decide) : PE X (.Name x pos) (tVar i) := c5X hN hv hd hcd
end
theorem iteF {A B : Prop} (h : B) : if false = true then A else B := by
 rw [if_neg Bool.false_ne_true]
 exact h
theorem iteT {A B : Prop} (h : A) : if true = true then A else B := by
 rw [if_pos rfl]
 exact h
theorem ite2 {c A B : Prop} [Decidable c] (h1 : c -> A) (h2 : ¬ c -> B) : if c then A else B := by
 by_cases h : c
 ·rw [if_pos h]
  exact h1 h
 ·rw [if_neg h]
  exact h2 h
def Same (H H' : Hp) : Prop := ∀ b o, H b = some o -> H' b = some o
theorem Same.refl (H : Hp) : Same H H := fun _ _ h => h
theorem Same.trans {H H1 H2 : Hp} (a : Same H H1) (b : Same H1 H2) : Same H H2 := fun c o h => b c o (a c o h)
theorem Same.free {H H' : Hp} (e : Same H H') {l : Addr} (h : H' l = Option.none) : H l = Option.none := by
 cases q : H l with
 | none => rfl
 | some o =>
  rw [e l o q] at h
  cases h
theorem Same.seq {K : Φρ} {H H' : Hp} {a : Addr} {xs : List V} (e : Same H H') (h : SqL K H a xs) : SqL K H' a xs := by
 rcases h with (h | ⟨o, h⟩) | h
 ·exact .inl (.inl (e _ _ h))
 ·exact .inl (.inr ⟨o, e _ _ h⟩)
 ·exact .inr h
end L2
namespace L2
open PySem PySem.Spec PyProof.Rows
def clOf (cells : List (Str × Addr)) : List (Str × NameKind) -> List (Str × Addr) -> List (Str × Addr)
 | [], acc => acc
 | (n, k) :: r, acc => clOf cells r (if k == .free then (match cells.lookup n with | some c => (n, c) :: acc | none => acc) else acc)
theorem c2M {env : Env} : ∀ (ns : List (Str × NameKind)) (acc : List (Str × Addr)), (∀ x ∈ ns, x.2 = .free -> ∃ c, env.cells.lookup x.1 = some c) ->
  (forIn ns acc fun (x : Str × NameKind) (cs : List (Str × Addr)) => (if x.2 == NameKind.free then do let a <- cellOf env x.1; pure (ForInStep.yield ((x.1, a) :: cs)) else pure (ForInStep.yield cs) : Sem (ForInStep (List (Str × Addr))))) = pure (clOf env.cells ns acc)
 | [], acc, _ => by simp [clOf]
 | (n, k) :: r, acc, h => by
  rw [List.forIn_cons]
  have ih := fun a => c2M (env := env) r a fun x hx => h x (List.mem_cons_of_mem _ hx)
  unfold clOf
  by_cases hk : (k == NameKind.free) = true
  ·obtain ⟨c, hc⟩ := h (n, k) List.mem_cons_self (by simpa using hk)
   have hc' : env.cells.lookup n = some c := hc
   have hce : cellOf env n = pure c := by simp only [cellOf, hc']
   simp only [hk, if_true, hce, pure_bind, hc']
   exact ih _
  ·simp only [hk, if_false, pure_bind, ih]
   simp
theorem a8X {scope : Scope} {env : Env} (h : ∀ x ∈ scope.names, x.2 = .free -> ∃ c, env.cells.lookup x.1 = some c) : closureFor scope env = pure (clOf env.cells scope.names []) := by
 have q := c2M (env := env) scope.names [] h
 unfold closureFor
 rw [<- q]
 first
  | rfl
  | simp
theorem a6Z {cells : List (Str × Addr)} : ∀ (ns : List (Str × NameKind)) (acc : List (Str × Addr)) {x : Str} {c : Addr}, (∀ y d, acc.lookup y = some d -> cells.lookup y = some d) -> (clOf cells ns acc).lookup x = some c -> cells.lookup x = some c
 | [], acc, x, c, ha, h => ha x c h
 | (n, k) :: r, acc, x, c, ha, h => by
  unfold clOf at h
  refine a6Z r _ (fun y d hy => ?_) h
  split at hy
  ·split at hy
   ·rename_i c' hc'
    rw [List.lookup_cons] at hy
    split at hy
    ·rename_i e
     have e' : y = n := by simpa using e
     subst e'
     rw [hc']; exact hy
    ·exact ha y d hy
   ·exact ha y d hy
  ·exact ha y d hy
theorem b0T {cells : List (Str × Addr)} : ∀ (ns : List (Str × NameKind)) (acc : List (Str × Addr)) {x : Str}, (∃ c, acc.lookup x = some c) -> ∃ c, (clOf cells ns acc).lookup x = some c
 | [], acc, x, h => h
 | (n, k) :: r, acc, x, h => by
  unfold clOf
  refine b0T r _ ?_
  split
  ·split
   ·rw [List.lookup_cons]
    split
    ·exact ⟨_, rfl⟩
    ·exact h
   ·exact h
  ·exact h
theorem a9M {cells : List (Str × Addr)} : ∀ (ns : List (Str × NameKind)) (acc : List (Str × Addr)) {x : Str}, (x, NameKind.free) ∈ ns -> (∃ c, cells.lookup x = some c) -> ∃ c, (clOf cells ns acc).lookup x = some c
 | [], acc, x, h, _ => nomatch h
 | (n, k) :: r, acc, x, h, hc => by
  unfold clOf
  rcases List.mem_cons.mp h with e | h
  ·cases e
   obtain ⟨c, hc⟩ := hc
   refine b0T r _ ?_
   simp [hc]
  ·exact a9M r _ h hc
end L2
namespace L2
open PySem PySem.Spec PyProof.Rows
theorem Inv.track {X : Cx} {pins : List (Addr × Obj)} {σ : St} {H : Hp} {s : Shared} {a : Addr} {o : HO} (I : Inv X pins σ H s) (hn : H a = none) (h0 : X.s₀.heap.objs.size <= a) (hL : a ≠ X.env.locals)
  (hc : ∀ x c, X.env.cells.lookup x = some c -> c ≠ a) (hp : ∀ p ∈ X.pn ++ pins, p.1 ≠ a) (new : ObjOk X.prog X.w (upd H a o) s.heap a o) : Inv X pins σ (upd H a o) s := by
 have ne : ∀ b u, H b = some u -> b ≠ a := fun b u e => a1F e hn
 have q := I.step (g' := s.gens) (d' := s.drawn) (t' := s.toks) (h' := s.heap) (H' := upd H a o) (ch := [a]) (fun b hb => ?_) (fun b ob _ _ _ e _ => e) (fun b ob _ _ _ e _ => ⟨ob.slots, e⟩) (fun b ob hb _ n => ?_)
  (fun b ob _ e => ⟨ob, e⟩) (fun b xs e => by rw [a1M (ne b _ e)]; exact e) (fun b ob u e => by rw [a1M (ne b _ e)]; exact e) (fun b ps e => ⟨#[], by rw [a1M (ne b _ e), e]; simp⟩) (fun m hm => hm) (fun b u e => ?_) I.bare
 ·exact q
 ·have e : b = a := by simpa using hb
  subst e
  exact ⟨.inr h0, hL, hc, hp⟩
 ·rw [a1M (fun z => hb (by simp [z]))]; exact n
 ·by_cases hb : b = a
  ·subst hb; rw [a4U] at e; cases e; exact new
  ·rw [a1M hb] at e
   exact (I.hok b u e).stay (fun c v _ q => q) (fun c q => by rw [a1M (a1F q hn)]; exact q) fun c xs q => by rw [a1M (a1F q hn)]; exact q
def a3V (X : Cx) (N' : List Str) (scope : Scope) (C : Addr) (s : Shared) (H : Hp) (fp : List Addr) (xe : Value -> Shared -> Prop) : Cx :=
 { X with N := N', s₀ := s, H₀ := H, env := compEnvC scope (clOf X.env.cells scope.names []) C X.env, outer := X.stack, ex := fp, fn := fun _ => false, xe := xe }
structure BlkOk (X : Cx) (N' : List Str) (ix : List (Option Nat)) (scope : Scope) : Prop where
 kind : scope.kind = .function
 nocell : ∀ y ∈ scope.names, y.2 ≠ .cell
 locs : ∀ y ∈ scope.names, y.2 = .local -> scope.names.lookup y.1 = some .local
 free : ∀ y ∈ scope.names, y.2 = .free -> X.env.kindOf y.1 = some .cell \/ X.env.kindOf y.1 = some .free
 len : ix.length = N'.length
 cap : ∀ (i j : Nat), ix[i]? = some (some j) -> ∃ x, N'[i]? = some x /\ X.N[j]? = some x /\ scope.names.lookup x = some .free
def capt (ix : List (Option Nat)) (σ : St) : St := ix.map fun o => o.bind fun j => (σ[j]?).join
theorem a6F {env : Env} {x : Str} : ∀ {names : List (Str × NameKind)}, names.lookup x = some .free -> (names.map fun (n, k) => if (k == NameKind.free && env.scope.kind == .function && env.kindOf n == some .cell) then (n, NameKind.cell) else (n, k)).lookup x = some .cell \/ (names.map fun (n, k) => if (k == NameKind.free && env.scope.kind == .function && env.kindOf n == some .cell) then (n, NameKind.cell) else (n, k)).lookup x = some .free
 | [], h => by simp at h
 | (n, k) :: r, h => by
  have ih := @a6F env x r
  simp only [List.map_cons]
  cases hx : x == n with
  | true =>
   simp only [List.lookup_cons, hx] at h
   cases h
   by_cases hc : (NameKind.free == NameKind.free && env.scope.kind == .function && env.kindOf n == some .cell) = true
   ·rw [if_pos hc]; left; simp [List.lookup_cons, hx]
   ·rw [if_neg hc]; right; simp [List.lookup_cons, hx]
  | false =>
   simp only [List.lookup_cons, hx] at h
   by_cases hc : (k == NameKind.free && env.scope.kind == .function && env.kindOf n == some .cell) = true
   ·rw [if_pos hc]; simp only [List.lookup_cons, hx]; exact ih h
   ·rw [if_neg hc]; simp only [List.lookup_cons, hx]; exact ih h
theorem a6G {env : Env} {x : Str} : ∀ {names : List (Str × NameKind)}, (∀ y ∈ names, y.2 ≠ .cell) -> ((names.map fun (n, k) => if (k == NameKind.free && env.scope.kind == .function && env.kindOf n == some .cell) then (n, NameKind.cell) else (n, k)).lookup x = some .cell \/ (names.map fun (n, k) => if (k == NameKind.free && env.scope.kind == .function && env.kindOf n == some .cell) then (n, NameKind.cell) else (n, k)).lookup x = some .free) -> (x, NameKind.free) ∈ names
 | [], _, h => by simp at h
 | (n, k) :: r, hn, h => by
  have ih := @a6G env x r fun y hy => hn y (List.mem_cons_of_mem _ hy)
  simp only [List.map_cons] at h
  cases hx : x == n with
  | true =>
   have e : x = n := by simpa using hx
   subst e
   have hk := hn (x, k) List.mem_cons_self
   by_cases hc : (k == NameKind.free && env.scope.kind == .function && env.kindOf x == some .cell) = true
   ·have hf : k = .free := by
     simp only [Bool.and_eq_true, beq_iff_eq] at hc
     exact hc.1.1
    subst hf
    exact List.mem_cons_self
   ·rw [if_neg hc] at h
    simp only [List.lookup_cons, hx] at h
    rcases h with h | h
    ·exact absurd (Option.some.inj h) hk
    ·have hf : k = .free := Option.some.inj h
     subst hf
     exact List.mem_cons_self
  | false =>
   refine List.mem_cons_of_mem _ (ih ?_)
   by_cases hc : (k == NameKind.free && env.scope.kind == .function && env.kindOf n == some .cell) = true
   ·rw [if_pos hc] at h; simpa only [List.lookup_cons, hx] using h
   ·rw [if_neg hc] at h; simpa only [List.lookup_cons, hx] using h
theorem b0U {X : Cx} {pins : List (Addr × Obj)} {σ : St} {H : Hp} {s : Shared} {N' : List Str} {ix : List (Option Nat)} {scope : Scope} {i : Nat} {x : Str} {v : V} (B : BlkOk X N' ix scope) (I : Inv X pins σ H s)
  (h1 : N'[i]? = some x) (h2 : (capt ix σ)[i]? = some (some v)) : ∃ u c, RelV v u /\ (clOf X.env.cells scope.names []).lookup x = some c /\ X.env.cells.lookup x = some c /\ s.heap.IsCell c (some u) /\
   ((relabel scope X.env).names.lookup x = some .cell \/ (relabel scope X.env).names.lookup x = some .free) := by
 have clB : ∀ x c, (clOf X.env.cells scope.names []).lookup x = some c -> X.env.cells.lookup x = some c := fun x c h => a6Z scope.names [] (fun _ _ z => by simp at z) h
 obtain ⟨j, hj, hv⟩ : ∃ j, ix[i]? = some (some j) /\ σ[j]? = some (some v) := by
  unfold capt at h2
  rw [List.getElem?_map] at h2
  cases e : ix[i]? with
  | none => rw [e] at h2; cases h2
  | some o =>
   rw [e] at h2
   cases o with
   | none => cases h2
   | some j =>
    refine ⟨j, rfl, ?_⟩
    have h2' : (σ[j]?).join = some v := Option.some.inj h2
    cases e2 : σ[j]? with
    | none => rw [e2] at h2'; cases h2'
    | some o2 => rw [e2] at h2'; have : o2 = some v := h2'; rw [this]
 obtain ⟨x', hx1, hx2, hx3⟩ := B.cap i j hj
 have exx : x' = x := by
  have h1' : N'[i]? = some x := h1
  rw [hx1] at h1'; exact Option.some.inj h1'
 subst exx
 have hmem := PySem.mem_of_lookup hx3
 have hout := B.free _ hmem rfl
 obtain ⟨m0, _, hl⟩ := I.loc
 obtain ⟨u, r, l⟩ := hl j x' v hx2 hv (by
  rcases hout with e | e
  ·exact .inr (.inl e)
  ·exact .inr (.inr e))
 rcases l with ⟨k, _⟩ | ⟨k, c, e, z⟩
 ·rcases hout with e | e
  ·rw [e] at k; cases k
  ·rw [e] at k; cases k
 ·obtain ⟨c', hc'⟩ := a9M scope.names [] hmem (I.ok.has x' hout)
  have := clB x' c' hc'
  rw [e] at this; cases this
  exact ⟨u, c, r, hc', e, z, a6F hx3⟩
theorem b6V {X : Cx} {pins : List (Addr × Obj)} {σ : St} {H : Hp} {s s4 : Shared} {N' : List Str} {ix : List (Option Nat)} {scope : Scope} {C : Addr} {fp : List Addr} {xe : Value -> Shared -> Prop} {m : Str -> Option Value}
  (B : BlkOk X N' ix scope) (I : Inv X pins σ H s) (hf : ∀ b ∈ fp, FpOk X pins H b) (hC : s.heap.objs.size <= C) (hfs : ∀ b ∈ fp, b < s.heap.objs.size)
  (ho : s4.os = s.os) (hg : s4.gens = s.gens) (hk : ∀ b o, s.heap.get? b = some o -> s4.heap.get? b = some o) (hns : s4.heap.Ns C m) :
  Inv (a3V X N' scope C s H fp xe) pins (capt ix σ) H s4 := by
 have clB : ∀ x c, (clOf X.env.cells scope.names []).lookup x = some c -> X.env.cells.lookup x = some c := fun x c h => a6Z scope.names [] (fun _ _ z => by simp at z) h
 have hfree : H C = none := I.hok.fresh hC
 have neC : ∀ b o, s.heap.get? b = some o -> b ≠ C := fun b o e => Nat.ne_of_lt (Nat.lt_of_lt_of_le (Heap.lt_size e) hC)
 refine ⟨⟨I.ok.mod, B.kind, I.ok.glob, I.ok.blt, hC, fun x y c h1 h2 => I.ok.inj x y c (clB x c h1) (clB y c h2), fun x hx => ?_, fun x c h => absurd (show false = true from h) Bool.false_ne_true, I.ok.hd, I.ok.frames, .inl rfl, fun b hb => ⟨?_, fun x c e => ?_⟩, I.bs, ?_, fun b o e hb => ?_, fun b hb z => ?_, I.stack, I.stkFree⟩,
  ho, ?_, Un.kept hk, ⟨m, hns, fun i x v h1 h2 h3 => ?_⟩, fun x c e => ?_, hfree, fun x c e => I.freeC x c (clB x c e), fun p hp => ?_, I.hok.kept hk, ?_⟩
 ·have hx' := a6G (env := X.env) (x := x) B.nocell hx
  exact a9M scope.names [] hx' (I.ok.has x (B.free _ hx' rfl))
 ·exact Nat.ne_of_lt (Nat.lt_of_lt_of_le (hfs b hb) hC)
 ·exact (hf b hb).2.2.2.2.1 x c (clB x c e)
 ·exact Nat.le_trans I.ok.bsz I.sz
 ·obtain ⟨_, _, _, q, _⟩ := hf b hb
  rcases q with q | q
  ·exact I.ok.noex b o e q
  ·exact absurd (Nat.lt_of_lt_of_le (Heap.lt_size (I.ok.bs b o e).1) q) (Nat.lt_irrefl _)
 ·obtain ⟨_, q1, q2, _⟩ := hf b hb
  rcases List.mem_cons.mp (I.stkSub b z) with e | e
  ·exact q1 e
  ·exact q2 e
 ·rw [hg]; exact I.bare
 ·obtain ⟨u, c, r, hc1, _, ⟨oc, z1, z2⟩, hk'⟩ := b0U B I h1 h2
  exact ⟨u, r, .inr ⟨hk', c, hc1, oc, hk _ _ z1, z2⟩⟩
 ·obtain ⟨v, oc, h1, h2⟩ := I.cell x c (clB x c e)
  exact ⟨v, oc, hk _ _ h1, h2⟩
 ·obtain ⟨e, n, ne, nf, d⟩ := I.pin p hp
  refine ⟨hk _ _ e, n, neC _ _ e, fun z => ?_, d⟩
  rcases List.mem_cons.mp (I.stkSub p.1 z) with e' | e'
  ·exact ne e'
  ·exact nf e'
 ·show (ix.map _).length = N'.length
  rw [List.length_map]; exact B.len
end L2
namespace L2
open PySem PySem.Spec PyProof.Rows
theorem b2N {prog : Program} {w : World} {A : Around} {R : Result -> Shared -> Prop} {s : Shared} {elt target iter : Expr} {ifs : List Expr} {scope : Scope} {pos : Pos} {it acc : Value} {env : Env} (Iv : Nat -> Shared -> Prop)
  (turn : ∀ n s, Iv n s -> wpAny (model prog w) A (pyNext it) (fun r s₁ => match r with
   | none => R (.ok .next) s₁
   | some v => wpAny (model prog w) A (letOwnedTupleGo target it v) (fun _ s₁' => wpAny (model prog w) A (assign target env v) (fun _ s₂ =>
     wpAny (model prog w) A (forIn ifs true fun c r => if r = true then do let ok <- isTrue c env (eval c env); pure (ForInStep.yield ok) else pure (ForInStep.yield r)) (fun ok s₃ =>
      if ok = true then wpAny (model prog w) A (eval elt env) (fun x s₄ =>
       wpAny (model prog w) A (call (.builtin "list.append") [acc, x]) (fun _ s₅ => ∃ m, m < n /\ Iv m s₅) (notedBy (model prog w) A env fun e s' => R (.error e) s') s₄) (notedBy (model prog w) A env fun e s' => R (.error e) s') s₃
      else ∃ m, m < n /\ Iv m s₃) (notedBy (model prog w) A env fun e s' => R (.error e) s') s₂) (notedBy (model prog w) A env fun e s' => R (.error e) s') s₁') (notedBy (model prog w) A env fun e s' => R (.error e) s') s₁) (notedBy (model prog w) A env fun e s' => R (.error e) s') s)
  (n : Nat) (h : Iv n s) :
  codeAny (model prog w) A (.compLoop (.ListComp elt [⟨target, iter, ifs, 0⟩] scope pos) 0 it acc env) R s := by
 refine codeAny_loop rfl Iv (fun n s hI => ?_) n h
 show wpAny _ A ((compTurn (.ListComp elt [⟨target, iter, ifs, 0⟩] scope pos) 0 it acc env).onRaise (fun x => do noteFrame x env; theTreesLotGoes x)) _ _ s
 refine wpAny_noted ?_
 rw [compTurn_list]
 refine wpAny_bind (wpAny_standAt (wpAny_bind (wpAny_mono (turn n s hI) (fun r s₁ h₁ => ?_) fun _ _ h' => h')))
 cases r with
 | none => exact wpAny_pure h₁
 | some v =>
  refine wpAny_bind (wpAny_mono h₁ (fun _ s₁' h₁' => ?_) fun _ _ h' => h')
  refine wpAny_bind (wpAny_mono h₁' (fun _ s₂ h₂ => wpAny_bind (wpAny_mono h₂ (fun ok s₃ h₃ => ?_) fun _ _ h' => h')) fun _ _ h' => h')
  cases ok with
  | false => exact wpAny_pure ⟨rfl, h₃⟩
  | true =>
   exact wpAny_bind (wpAny_bind (wpAny_mono h₃ (fun x s₄ h₄ => wpAny_bind (wpAny_mono h₄ (fun _ s₅ h₅ => wpAny_pure (wpAny_pure ⟨rfl, h₅⟩)) fun _ _ h' => h')) fun _ _ h' => h'))
def PTs (X : Cx) (ifs : List Expr) (t : TT) : Prop :=
 ∀ (pins : List (Addr × Obj)) (s : Shared) (σ : St) (H : Hp) (Q : Bool -> Hp -> Prop), Inv X pins σ H s -> t σ H Q ->
  wpAny (model X.prog X.w) X.A (forIn ifs true fun c r => if r = true then do let ok <- isTrue c X.env (eval c X.env); pure (ForInStep.yield ok) else pure (ForInStep.yield r)) (TP X pins σ Q) X.xe s
def c6N : TT := fun _ H Q => Q true H
theorem a1G {X : Cx} : PTs X [] c6N := fun _ _ _ H _ I h => wpAny_tests_nil ⟨H, I, h⟩
theorem a4R {X : Cx} {c : Expr} {t : TT} (h : PT X c t) : PTs X [c] t := fun pins s σ H Q I hw => wpAny_tests_one (h pins s σ H Q I hw)
def a4K (ix : List (Option Nat)) (g : TG) (tt : TT) (te : TE) (σ : St) (H1 : Hp) (Q : VK) (J : It) : Prop := ∃ W : Nat -> Nat -> List V -> Hp -> Prop, (∃ m, W 0 m [] H1) /\ ∀ i m ys H, W i m ys H ->
 (J.stop i H /\ ys.length <= sizeLine /\ ∀ p, H p = none -> Q (.ref p) (upd H p (.lst ys))) \/
 (J.go i H /\ ys.length <= sizeLine /\ ∃ N : List V -> Hp -> Prop, (∀ ys' H', N ys' H' -> ∃ m', m' < m /\ W (i + 1) m' ys' H') /\ ∀ x H', J.yld i H x H' -> g x (capt ix σ) H' fun σ2 H2 => tt σ2 H2 fun b H3 => if b = true then te σ2 H3 fun v H4 => N (ys ++ [v]) H4 else N ys H3)
def tLC (ix : List (Option Nat)) (wi : TI) (g : TG) (tt : TT) (te : TE) : TE := fun σ H Q => wi σ H fun J H1 => a4K ix g tt te σ H1 Q J
section
variable {X : Cx} {elt tg iter : Expr} {ifs : List Expr} {scope : Scope} {pos : Pos} {N' : List Str} {ix : List (Option Nat)} {wi : TI} {g : TG} {tt : TT} {te : TE}
theorem c2N (B : BlkOk X N' ix scope) (hc : X.calm = true)
  (hg : ∀ C s H fp xe, PG (a3V X N' scope C s H fp xe) tg g) (ht : ∀ C s H fp xe, PTs (a3V X N' scope C s H fp xe) ifs tt) (he : ∀ C s H fp xe, PE (a3V X N' scope C s H fp xe) elt te)
  {pins : List (Addr × Obj)} {s2 : Shared} {σ : St} {H2 : Hp} {Q : VK} {it : Addr} {fp : List Addr} {tn : Nat -> Heap -> Prop} {J : It} {RR : Value -> Addr -> Result -> Shared -> Prop} {E : Value -> Shared -> Prop}
  (I2 : Inv X pins σ H2 s2) (T : Turn X.prog X.w X.K tg J fp it tn) (st2 : tn 0 s2.heap) (f2 : ∀ b ∈ fp, FpOk X pins H2 b)
  (q : ∃ W : Nat -> Nat -> List V -> Hp -> Prop, (∃ m, W 0 m [] H2) /\ ∀ i m ys H, W i m ys H ->
   (J.stop i H /\ ys.length <= sizeLine /\ ∀ p, H p = none -> Q (.ref p) (upd H p (.lst ys))) \/
   (J.go i H /\ ys.length <= sizeLine /\ ∃ N : List V -> Hp -> Prop, (∀ ys' H', N ys' H' -> ∃ m', m' < m /\ W (i + 1) m' ys' H') /\ ∀ x H', J.yld i H x H' -> g x (capt ix σ) H' fun σ2 H2 => tt σ2 H2 fun b H3 => if b = true then te σ2 H3 fun v H4 => N (ys ++ [v]) H4 else N ys H3))
  (hRR : ∀ D C s' H' ys, Inv X pins σ (upd H' D (.lst ys)) s' -> H' D = none -> Q (.ref D) (upd H' D (.lst ys)) -> (∃ m, s'.heap.Ns C m) -> upd H' D (.lst ys) C = none -> C ≠ X.env.locals -> X.s₀.heap.objs.size <= C -> (∀ x c, X.env.cells.lookup x = some c -> c ≠ C) -> (∀ p ∈ X.pn ++ pins, p.1 ≠ C) -> RR (.ref D) C (.ok .next) s') :
  wpAny (model X.prog X.w) X.A (newList []) (fun acc s₃ => wpAny (model X.prog X.w) X.A (newFunctionEnv scope X.env.globals (clOf X.env.cells scope.names []) [] X.env.qual none .none (some X.env)) (fun cenv s₄ =>
   codeAny (model X.prog X.w) X.A (.compStart (.ListComp elt [⟨tg, iter, ifs, 0⟩] scope pos) 0 (.ref it) acc { cenv with scope := relabel scope X.env }) (RR acc cenv.locals) s₄) E s₃) E s2 := by
 have hfs : ∀ b ∈ fp, b < s2.heap.objs.size := fun b hb => by
  obtain ⟨o, e, _⟩ := T.obj _ _ st2 b hb
  exact Heap.lt_size e
 refine wpAny_newObj_type (wpAny_newFunctionEnv B.nocell (by intro y hy; simp at hy) (fun h₁ hns₁ hsb₁ => ?_) B.kind)
 dsimp only at hns₁ hsb₁ ⊢
 generalize hH3 : s2.heap.push { cls := .type "list", dict := none, data := .seq ([] : List Value).toArray } = H3 at hns₁ hsb₁ ⊢
 have hC : H3.objs.size = s2.heap.objs.size + 1 := by rw [<- hH3, Heap.size_push]
 have hDC : s2.heap.objs.size ≠ H3.objs.size := by rw [hC]; exact Nat.ne_of_lt (Nat.lt_succ_self _)
 have below : ∀ b, b < s2.heap.objs.size -> b ≠ H3.objs.size /\ b ≠ s2.heap.objs.size := fun b hb => ⟨by rw [hC]; exact Nat.ne_of_lt (Nat.lt_succ_of_lt hb), Nat.ne_of_lt hb⟩
 have old : ∀ b o, s2.heap.get? b = some o -> h₁.get? b = some o := fun b o e => hsb₁.extBut b o (below b (Heap.lt_size e)).1 (Heap.get?_push_of_some _ (hH3 ▸ Heap.get?_push_of_some _ e))
 have hacc : h₁.get? s2.heap.objs.size = some { cls := .type "list", data := .seq ([] : List Value).toArray 0 } := hsb₁.extBut _ _ hDC (Heap.get?_push_of_some _ (hH3 ▸ Heap.get?_push_size _ rfl))
 have hCle : s2.heap.objs.size <= H3.objs.size := by rw [hC]; exact Nat.le_succ _
 generalize hD : s2.heap.objs.size = D at *
 generalize hCC : H3.objs.size = C at *
 obtain ⟨W, ⟨m0, w0⟩, turn⟩ := q
 let xe : Value -> Shared -> Prop := notedBy (model X.prog X.w) X.A (compEnvC scope (clOf X.env.cells scope.names []) C X.env) fun e s' => RR (.ref D) C (.error e) s'
 let X' : Cx := a3V X N' scope C s2 H2 fp xe
 have DL : D ∉ frs X.stack := fun z => by
  rcases List.mem_cons.mp (I2.stkSub D z) with e | e
  ·exact absurd I2.lt (by rw [<- e, hD]; exact Nat.lt_irrefl _)
  ·exact I2.nofs (by rw [hD]; exact Nat.le_refl _) e
 have cellLt : ∀ x c, X.env.cells.lookup x = some c -> c < D := fun x c e => by
  obtain ⟨v, oc, h, _⟩ := I2.cell x c e
  rw [<- hD]; exact Heap.lt_size h
 have clB : ∀ x c, (clOf X.env.cells scope.names []).lookup x = some c -> X.env.cells.lookup x = some c := fun x c h => a6Z scope.names [] (fun _ _ z => by simp at z) h
 have pinLt : ∀ p ∈ X.pn ++ pins, p.1 < D := fun p hp => by rw [<- hD]; exact Heap.lt_size (I2.pin p hp).1
 have fpX : ∀ {pl : List (Addr × Obj)} {H' : Hp}, (∀ b ∈ fp, H' b = none) -> (∀ p ∈ pl, p ∈ pins \/ p.1 = D) -> ∀ b ∈ fp, FpOk X' pl H' b := fun {pl H'} hn hpl b hb => by
  obtain ⟨_, q1, q2, q3, q4, q5⟩ := f2 b hb
  refine ⟨hn b hb, (below b (hfs b hb)).1, fun z => ?_, .inl hb, fun x c e => q4 x c (clB x c e), fun p hp => ?_⟩
  ·rcases List.mem_cons.mp (I2.stkSub b z) with e | e
   ·exact q1 e
   ·exact q2 e
  ·rcases List.mem_append.mp hp with hp | hp
   ·exact q5 p (List.mem_append_left _ hp)
   ·rcases hpl p hp with z | z
    ·exact q5 p (List.mem_append_right _ z)
    ·rw [z]; exact Ne.symm (below b (hfs b hb)).2
 have loop : ∀ s₃ : Shared, s₃ = { s2 with heap := h₁, toks := s2.toks + ([] : List (Str × Value)).length } ->
   codeAny (model X.prog X.w) X.A (.compLoop (.ListComp elt [⟨tg, iter, ifs, 0⟩] scope pos) 0 (.ref it) (.ref D) (compEnvC scope (clOf X.env.cells scope.names []) C X.env)) (RR (.ref D) C) s₃ := by
  rintro s₃ rfl
  refine b2N (fun n s' => ∃ i H' ys its k, Inv X' pins (capt ix σ) H' s' /\ tn i s'.heap /\ (∀ b ∈ fp, H' b = none) /\ H' D = none /\ s'.heap.get? D = some { cls := .type "list", data := .seq (List.toArray its) k } /\ Vals ys its /\ W i n ys H') ?_ m0
   ⟨0, H2, [], [], 0, b6V B I2 f2 (by rw [hD]; exact hCle) (fun b hb => by rw [hD]; exact hfs b hb) rfl rfl old hns₁, T.keep _ _ _ st2 fun b _ o e => old b o e, fun b hb => (f2 b hb).1, I2.hok.fresh (by rw [hD]; exact Nat.le_refl _), hacc, .nil, w0⟩
  rintro n s' ⟨i, H', ys, its, k, I', st', fr', hDn, hDo, rv, w'⟩
  have hDX : ∀ v, ({ cls := .type "list", data := .seq (List.toArray its) k } : Obj).data ≠ .cell v := fun v z => by
   have z' : Data.seq (List.toArray its) k = Data.cell v := z
   cases z'
  have pinD : ∀ {σ' : St} {H'' : Hp} {s'' : Shared} {its' : List Value} {k' : Nat}, Inv X' pins σ' H'' s'' -> H'' D = none -> s''.heap.get? D = some { cls := .type "list", data := .seq (List.toArray its') k' } -> Inv X' (pins ++ [(D, { cls := .type "list", data := .seq (List.toArray its') k' })]) σ' H'' s'' := fun {σ' H'' s'' its' k'} J hn ho =>
   J.pins_of fun p hp => (List.mem_append.mp hp).elim (fun z => J.pin p (List.mem_append_right _ z)) fun z => by
    have e : p = (D, { cls := .type "list", data := .seq (List.toArray its') k' }) := by simpa using z
    subst e
    exact ⟨ho, hn, hDC, DL, fun v z => by
     have z' : Data.seq (List.toArray its') k' = Data.cell v := z
     cases z'⟩
  have plD : ∀ {its' : List Value} {k' : Nat}, ∀ p ∈ pins ++ [(D, ({ cls := .type "list", data := .seq (List.toArray its') k' } : Obj))], p ∈ pins \/ p.1 = D := fun {its' k'} p hp => (List.mem_append.mp hp).elim .inl fun z => by
   have e : p = (D, { cls := .type "list", data := .seq (List.toArray its') k' }) := by simpa using z
   subst e
   exact .inr rfl
  have unD : ∀ {pl : List (Addr × Obj)} {σ' : St} {H'' : Hp} {s'' : Shared}, Inv X' (pins ++ pl) σ' H'' s'' -> Inv X' pins σ' H'' s'' := fun J => J.pins_of fun p hp => J.pin p (List.mem_append_right _ (List.mem_append_left _ hp))
  have I'p := pinD I' hDn hDo
  rcases turn i n ys H' w' with ⟨stop, hsz, fin⟩ | ⟨go, hsz, N, hN, step⟩
  ·refine wpAny_mono (T.done X' rfl rfl rfl hc i _ s' (capt ix σ) H' X'.xe I'p (fpX fr' plD) st' stop) (fun r s5 ⟨hr, I5⟩ => ?_) fun _ _ z => z
   subst hr
   have hDo5 : s5.heap.get? D = some { cls := .type "list", data := .seq (List.toArray its) k } := (I5.pin (D, _) (List.mem_append_right _ (List.mem_append_right _ (List.mem_singleton.mpr rfl)))).1
   have sz0 : X.s₀.heap.objs.size <= D := by rw [<- hD]; exact I2.sz
   have J : Inv X pins σ H' s5 := I2.call' (ch := fp) I5.os I5.base I5.hok I5.bare fun b hb => by
    obtain ⟨_, q1, _, q3, q4, q5⟩ := f2 b hb
    exact ⟨q3, q1, q4, q5⟩
   have nL : X.env.locals < D := by rw [<- hD]; exact I2.lt
   have J2 : Inv X pins σ (upd H' D (.lst ys)) s5 := Inv.track J hDn sz0 (Nat.ne_of_gt nL) (fun x c e => Nat.ne_of_lt (cellLt x c e)) (fun p hp => Nat.ne_of_lt (pinLt p hp)) ⟨hsz, its, k, rv, hDo5⟩
   obtain ⟨mC, hnC, _⟩ := I5.loc
   have DltC : D < C := Nat.lt_of_le_of_ne hCle hDC
   refine hRR D C s5 H' ys J2 hDn (fin D hDn) ⟨mC, hnC⟩ ?_ (Nat.ne_of_gt (Nat.lt_trans nL DltC)) (Nat.le_trans sz0 hCle) (fun x c e => Nat.ne_of_lt (Nat.lt_trans (cellLt x c e) DltC)) fun p hp => Nat.ne_of_lt (Nat.lt_trans (pinLt p hp) DltC)
   rw [a1M (Ne.symm hDC)]
   exact I5.free
  ·refine wpAny_mono (T.item X' rfl rfl rfl hc i _ s' (capt ix σ) H' X'.xe I'p (fpX fr' plD) st' go) (fun r s5 ⟨u, hr, h5⟩ => ?_) fun _ _ z => z
   subst hr
   refine wpAny_mono h5 (fun _ s6 ⟨x, H6, I6, r6, y6, st6, fr6⟩ => ?_) fun _ _ z => z
   have I6' := I6.pinned (fpX fr6 plD) (T.obj _ _ st6)
   refine wpAny_mono (hg C s2 H2 fp xe _ s6 (capt ix σ) H6 x u _ I6' r6 (step x H6 y6)) (fun _ s7 ⟨σ7, H7, I7, q7⟩ => ?_) fun _ _ z => z
   have after : ∀ {σ8 : St} {H8 : Hp} {s8 : Shared}, Inv X' ((pins ++ [(D, { cls := .type "list", data := .seq (List.toArray its) k })]) ++ a7J fp s6.heap) σ8 H8 s8 ->
     Inv X' pins (capt ix σ) H8 s8 /\ tn (i + 1) s8.heap /\ (∀ b ∈ fp, H8 b = none) /\ H8 D = none /\ s8.heap.get? D = some { cls := .type "list", data := .seq (List.toArray its) k } := fun {σ8 H8 s8} I8 => by
    have pD := I8.pin (D, { cls := .type "list", data := .seq (List.toArray its) k }) (List.mem_append_right _ (List.mem_append_left _ (List.mem_append_right _ (List.mem_singleton.mpr rfl))))
    have fpP : ∀ b ∈ fp, ∀ o, s6.heap.get? b = some o -> s8.heap.get? b = some o /\ H8 b = none := fun b hb o e => by
     have z := I8.pin (b, o) (List.mem_append_right _ (List.mem_append_right _ (a4F hb e)))
     exact ⟨z.1, z.2.1⟩
    refine ⟨⟨I8.ok, I8.os, I8.bare, I8.base, ?_, I8.cell, I8.free, I8.freeC, fun p hp => ?_, I8.hok, ?_⟩, T.keep _ _ _ st6 fun b hb o e => (fpP b hb o e).1, fun b hb => ?_, pD.2.1, pD.1⟩
    ·obtain ⟨m8, hn8, _⟩ := I8.loc
     refine ⟨m8, hn8, fun i x v h1 h2 h3 => ?_⟩
     obtain ⟨u, c, r, hc1, hc2, ⟨oc, z1, z2⟩, hk'⟩ := b0U B I2 h1 h2
     obtain ⟨sl, e8⟩ := I8.base.any z1 (I2.freeC x c hc2) fun z => (f2 c z).2.2.2.2.1 x c hc2 rfl
     exact ⟨u, r, .inr ⟨hk', c, hc1, _, e8, z2⟩⟩
    ·rcases List.mem_append.mp hp with hp | hp
     ·exact I8.pin p (List.mem_append_left _ hp)
     ·exact I8.pin p (List.mem_append_right _ (List.mem_append_left _ (List.mem_append_left _ hp)))
    ·show (capt ix σ).length = N'.length
     unfold capt
     rw [List.length_map]; exact B.len
    ·obtain ⟨o, e, _⟩ := T.obj _ _ st6 b hb
     exact (fpP b hb o e).2
   refine wpAny_mono (ht C s2 H2 fp xe _ s7 σ7 H7 _ I7 q7) (fun b s8 ⟨H8, I8, q8⟩ => ?_) fun _ _ z => z
   cases b with
   | false =>
    rw [if_neg Bool.false_ne_true] at q8 ⊢
    obtain ⟨m', hm, w8⟩ := hN _ _ q8
    obtain ⟨J, tn8, f8, d8, o8⟩ := after I8
    exact ⟨m', hm, i + 1, H8, ys, its, k, J, tn8, f8, d8, o8, rv, w8⟩
   | true =>
    rw [if_pos rfl] at q8 ⊢
    refine wpAny_mono (he C s2 H2 fp xe _ s8 σ7 H8 _ I8 q8) (fun v s9 ⟨y, H9, I9, r9, q9⟩ => ?_) fun _ _ z => z
    obtain ⟨J, tn9, f9, d9, o9⟩ := after I9
    obtain ⟨m', hm, w9⟩ := hN _ _ q9
    refine append_at (hsz := by rw [List.size_toArray, <- rv.length]; exact hsz) o9 fun h10 hs10 hD10 => ?_
    refine ⟨m', hm, i + 1, H9, ys ++ [y], its ++ [v], k + 1, ?_, T.keep _ _ _ tn9 fun b hb o e => hs10.extBut b o (fun z => ?_) e, f9, d9, by rw [List.push_toArray] at hD10; exact hD10, rv.append (.cons r9 .nil), w9⟩
    ·refine J.turned (t' := s9.toks) (it := D) (fun b o hb e => hs10.extBut b o hb e) d9 hDC (.inr (by show s2.heap.objs.size <= D; rw [hD]; exact Nat.le_refl _)) (fun x c e => Nat.ne_of_lt (cellLt x c (clB x c e))) fun p hp => Nat.ne_of_lt (pinLt p hp)
    ·exact (below b (hfs b hb)).2 z
 exact codeAny_compStart_list (loop _ rfl) (T.self X.A 0 _ _ _ (T.keep _ _ _ st2 fun b _ o e => old b o e) (loop _ rfl))
end
end L2
namespace L2
open PySem PySem.Spec PyProof.Rows
def a7A (outer : Scope) (N N' : List Str) (ix : List (Option Nat)) (scope : Scope) : Bool :=
 (scope.kind == .function) && (scope.names.all fun y => y.2 != .cell) && (scope.names.all fun y => y.2 != .local || scope.names.lookup y.1 == some .local) &&
 (scope.names.all fun y => y.2 != .free || outer.names.lookup y.1 == some .cell || outer.names.lookup y.1 == some .free) && (ix.length == N'.length) &&
 (List.range ix.length).all fun i => match ix[i]? with
  | some (some j) => (match N'[i]? with | some x => N[j]? == some x && scope.names.lookup x == some .free | none => false)
  | _ => true
theorem c2O {X : Cx} {N' : List Str} {ix : List (Option Nat)} {scope : Scope} (h : a7A X.env.scope X.N N' ix scope = true) : BlkOk X N' ix scope := by
 unfold a7A at h
 simp only [Bool.and_eq_true] at h
 obtain ⟨⟨⟨⟨⟨h1, h2⟩, h3⟩, h4⟩, h5⟩, h6⟩ := h
 refine ⟨?_, fun y hy => ?_, fun y hy hl => ?_, fun y hy hl => ?_, by simpa using h5, fun i j e => ?_⟩
 ·simpa using h1
 ·have := List.all_eq_true.mp h2 y hy
  simpa using this
 ·have := List.all_eq_true.mp h3 y hy
  rw [hl] at this
  simpa using this
 ·have := List.all_eq_true.mp h4 y hy
  rw [hl] at this
  simp at this
  exact this
 ·have hi : i < ix.length := (List.getElem?_eq_some_iff.mp e).1
  have := List.all_eq_true.mp h6 i (List.mem_range.mpr hi)
  rw [e] at this
  simp only at this
  cases q : N'[i]? with
  | none => rw [q] at this; simp at this
  | some x =>
   rw [q] at this
   simp at this
   exact ⟨x, rfl, this.1, this.2⟩
section
variable {X : Cx} {elt tg iter : Expr} {ifs : List Expr} {scope : Scope} {pos : Pos} {N' : List Str} {ix : List (Option Nat)} {wi : TI} {g : TG} {tt : TT} {te : TE}
theorem a3W (N' : List Str) (ix : List (Option Nat)) (hB : a7A X.env.scope X.N N' ix scope = true) (hc : X.calm = true) (hi : PI X tg iter wi)
  (hg : ∀ C s H fp xe, PG (a3V X N' scope C s H fp xe) tg g) (ht : ∀ C s H fp xe, PTs (a3V X N' scope C s H fp xe) ifs tt) (he : ∀ C s H fp xe, PE (a3V X N' scope C s H fp xe) elt te)
  (hs : ∀ x, foldedSetIterable iter X.env x = pure x := by intro _; rfl) : PE X (.ListComp elt [⟨tg, iter, ifs, 0⟩] scope pos) (tLC ix wi g tt te) := by
 intro pins s σ H Q I h
 have B := c2O hB
 rw [eval_ListComp]
 refine wpAny_comprehension_free (use := none) rfl hs (a8X fun y hy hf => I.ok.has y.1 (B.free y hy hf)) B.kind B.locs (thn (hi pins s σ H _ I h) fun v s1 h1 => thn h1 fun itv s2 h2 => ?_)
 obtain ⟨it, fp, tn, J, H2, e, I2, T, st2, f2, q⟩ := h2
 subst e
 refine c2N B hc hg ht he I2 T st2 f2 q ?_
 intro D C s' H' ys J2 hDn hq ⟨m, hn⟩ hC1 hC2 hC3 hC4 hC5
 refine ⟨m, hn, fun h' hs' => ?_⟩
 exact ⟨.ref D, _, J2.turned (t' := s'.toks) (it := C) (fun b o hb e => hs'.extBut b o hb e) hC1 hC2 (.inr hC3) hC4 hC5, rfl, hq⟩
theorem a1W {i : Nat} {x : Str} {pos' spos : Pos} (N' : List Str) (ix : List (Option Nat)) (hN : X.N.Nodup) (hi' : X.N[i]? = some x) (hx : X.env.scope.names.lookup x = some .local)
  (hB : a7A X.env.scope X.N N' ix scope = true) (hc : X.calm = true) (hi : PI X tg iter wi)
  (hg : ∀ C s H fp xe, PG (a3V X N' scope C s H fp xe) tg g) (ht : ∀ C s H fp xe, PTs (a3V X N' scope C s H fp xe) ifs tt) (he : ∀ C s H fp xe, PE (a3V X N' scope C s H fp xe) elt te)
  (hsw : swapsWith (.ListComp elt [⟨tg, iter, ifs, 0⟩] scope pos) (some (.Name x pos')) spos.line X.env = pure true)
  (hs : ∀ x, foldedSetIterable iter X.env x = pure x := by intro _; rfl) : PS X (.Assign [.Name x pos'] (.ListComp elt [⟨tg, iter, ifs, 0⟩] scope pos) spos) (tAsg (tLC ix wi g tt te) (b2L i)) := by
 intro pins s σ H D0 I h
 have B := c2O hB
 rw [exec_Assign_Name_used _ _ _ _ hsw]
 refine wpAny_bind (wpAny_standAt (wpAny_bind ?_))
 show wpAny _ X.A (do let _ <- comprehension (.ListComp elt [⟨tg, iter, ifs, 0⟩] scope pos) scope X.env _ (newList []) false (eval iter X.env) (some (assign (.Name x pos') X.env))) _ _ s
 refine wpAny_bind (wpAny_mono (wpAny_comprehension_free (use := some (assign (.Name x pos') X.env)) (Q := fun _ s' => SP X pins D0 .next s') rfl hs (a8X fun y hy hf => I.ok.has y.1 (B.free y hy hf)) B.kind B.locs
  (thn (hi pins s σ H _ I h) fun v s1 h1 => thn h1 fun itv s2 h2 => ?_)) (fun _ s' hq => wpAny_pure (wpAny_pure hq)) fun _ _ e => e)
 obtain ⟨it, fp, tn, J, H2, e, I2, T, st2, f2, q⟩ := h2
 subst e
 refine c2N (Q := fun x H1 => b2L i x σ H1 D0.nx) B hc hg ht he I2 T st2 f2 q ?_
 intro D C s' H' ys J2 hDn hq ⟨m, hn⟩ hC1 hC2 hC3 hC4 hC5
 show wpAny _ X.A (assign (.Name x pos') X.env (.ref D)) _ _ _
 refine wpAny_assign_Name (b0E (v := .ref D) J2 hN hi' (.inl hx) rfl (fun s'' I'' hsb => ?_) (.inr hx))
 obtain ⟨a, hsb, ha⟩ := hsb
 have aC : C ≠ a := by
  rcases ha with rfl | ha
  ·exact hC2
  ·exact fun z => hC4 x a ha z.symm
 refine ⟨m, hn.sameBut hsb aC, fun h'' hs'' => ?_⟩
 exact ⟨_, _, I''.turned (t' := s''.toks) (it := C) (fun b o hb e => hs''.extBut b o hb e) hC1 hC2 (.inr hC3) hC4 hC5, hq⟩
end
section
variable {K : Φρ} {a : Addr} {xs : List V} {ix : List (Option Nat)} {g : TG} {tt : TT} {te : TE} {σ : St} {H1 : Hp} {Q : VK}
theorem a5U (Pv : Nat -> List V -> Hp -> Prop) (h0 : Pv 0 [] H1) (hl : ∀ i ys H, i <= xs.length -> Pv i ys H -> SqL K H a xs /\ ys.length <= sizeLine)
  (hs : ∀ i x ys H, xs[i]? = some x -> Pv i ys H -> g x (capt ix σ) H fun σ2 H2 => tt σ2 H2 fun b H3 => if b = true then te σ2 H3 fun v H4 => Pv (i + 1) (ys ++ [v]) H4 else Pv (i + 1) ys H3)
  (hd : ∀ ys H, Pv xs.length ys H -> ∀ p, H p = none -> Q (.ref p) (upd H p (.lst ys))) : a4K ix g tt te σ H1 Q (Itl K a) := by
 refine ⟨fun i m ys H => m = xs.length - i /\ i <= xs.length /\ Pv i ys H, ⟨xs.length, by simp, Nat.zero_le _, h0⟩, ?_⟩
 rintro i m ys H ⟨rfl, hi, p⟩
 obtain ⟨q, z⟩ := hl i ys H hi p
 by_cases hlt : i < xs.length
 ·refine .inr ⟨⟨xs, xs[i], q, by simp [hlt]⟩, z, Pv (i + 1), fun ys' H' p' => ⟨xs.length - (i + 1), by omega, rfl, hlt, p'⟩, fun x H' y => ?_⟩
  obtain ⟨e, y⟩ := y
  subst e
  exact hs i x ys _ (y xs q) p
 ·have e : i = xs.length := by omega
  subst e
  exact .inl ⟨⟨xs, q, Nat.le_refl _⟩, z, hd ys H p⟩
theorem c0I {lo : Int} {n : Nat} (Pv : Nat -> List V -> Hp -> Prop) (h0 : Pv 0 [] H1) (hl : ∀ i ys H, i <= n -> Pv i ys H -> ys.length <= sizeLine)
  (hs : ∀ i ys H, i < n -> Pv i ys H -> g (.int (lo + i)) (capt ix σ) H fun σ2 H2 => tt σ2 H2 fun b H3 => if b = true then te σ2 H3 fun v H4 => Pv (i + 1) (ys ++ [v]) H4 else Pv (i + 1) ys H3)
  (hd : ∀ ys H, Pv n ys H -> ∀ p, H p = none -> Q (.ref p) (upd H p (.lst ys))) : a4K ix g tt te σ H1 Q (Itr lo n) := by
 refine ⟨fun i m ys H => m = n - i /\ i <= n /\ Pv i ys H, ⟨n, by simp, Nat.zero_le _, h0⟩, ?_⟩
 rintro i m ys H ⟨rfl, hi, p⟩
 have z := hl i ys H hi p
 by_cases hlt : i < n
 ·refine .inr ⟨hlt, z, Pv (i + 1), fun ys' H' p' => ⟨n - (i + 1), by omega, rfl, hlt, p'⟩, fun x H' y => ?_⟩
  obtain ⟨e, y⟩ := y
  subst e y
  exact hs i ys _ hlt p
 ·have e : i = n := by omega
  subst e
  exact .inl ⟨Nat.le_refl _, z, hd ys H p⟩
end
theorem c3M {K : Φρ} {a : Addr} {xs : List V} {ix : List (Option Nat)} {g : TG} {tt : TT} {te : TE} {σ : St} {H1 : Hp} {Q : VK} (f : V -> Option V) (hx : SqL K H1 a xs) (hz : xs.length <= sizeLine)
  (hs : ∀ x H (N : Option V -> Hp -> Prop), x ∈ xs -> Same H1 H -> (∀ H', Same H1 H' -> N (f x) H') -> g x (capt ix σ) H fun σ2 H2 => tt σ2 H2 fun b H3 => if b = true then te σ2 H3 fun v H4 => N (some v) H4 else N none H3)
  (hd : ∀ H p, Same H1 H -> H p = none -> Q (.ref p) (upd H p (.lst (xs.filterMap f)))) : a4K ix g tt te σ H1 Q (Itl K a) := by
 refine a5U (K := K) (a := a) (xs := xs) (fun i ys H => ys = (xs.take i).filterMap f /\ Same H1 H) ⟨rfl, Same.refl _⟩ (fun i ys H hi ⟨e, s⟩ => ⟨s.seq hx, ?_⟩) (fun i x ys H hi ⟨e, s⟩ => ?_) fun ys H ⟨e, s⟩ p hp => ?_
 ·subst e
  refine Nat.le_trans (List.length_filterMap_le _ _) (Nat.le_trans ?_ hz)
  rw [List.length_take]; exact Nat.min_le_right _ _
 ·have hm : x ∈ xs := List.mem_of_getElem? hi
  obtain ⟨hil, hix⟩ := List.getElem?_eq_some_iff.mp hi
  have et : xs.take (i + 1) = xs.take i ++ [x] := by rw [List.take_succ_eq_append_getElem hil, hix]
  refine hs x H (fun o H' => match o with | some v => (ys ++ [v] = (xs.take (i + 1)).filterMap f /\ Same H1 H') | none => (ys = (xs.take (i + 1)).filterMap f /\ Same H1 H')) hm s fun H' s' => ?_
  cases ef : f x with
  | some v =>
   refine ⟨?_, s'⟩
   rw [e, et, List.filterMap_append]
   simp [ef]
  | none =>
   refine ⟨?_, s'⟩
   rw [e, et, List.filterMap_append]
   simp [ef]
 ·subst e
  rw [List.take_length]
  exact hd H p s hp
theorem b6W {lo : Int} {n : Nat} {ix : List (Option Nat)} {g : TG} {tt : TT} {te : TE} {σ : St} {H1 : Hp} {Q : VK} (f : Nat -> Option V) (hz : n <= sizeLine)
  (hs : ∀ i H (N : Option V -> Hp -> Prop), i < n -> Same H1 H -> (∀ H', Same H1 H' -> N (f i) H') -> g (.int (lo + i)) (capt ix σ) H fun σ2 H2 => tt σ2 H2 fun b H3 => if b = true then te σ2 H3 fun v H4 => N (some v) H4 else N none H3)
  (hd : ∀ H p, Same H1 H -> H p = none -> Q (.ref p) (upd H p (.lst ((List.range n).filterMap f)))) : a4K ix g tt te σ H1 Q (Itr lo n) := by
 refine c0I (fun i ys H => ys = (List.range i).filterMap f /\ Same H1 H) ⟨rfl, Same.refl _⟩ (fun i ys H hi ⟨e, s⟩ => ?_) (fun i ys H hi ⟨e, s⟩ => ?_) fun ys H ⟨e, s⟩ p hp => ?_
 ·subst e
  refine Nat.le_trans (List.length_filterMap_le _ _) (Nat.le_trans ?_ hz)
  rw [List.length_range]; exact hi
 ·refine hs i H (fun o H' => match o with | some v => (ys ++ [v] = (List.range (i + 1)).filterMap f /\ Same H1 H') | none => (ys = (List.range (i + 1)).filterMap f /\ Same H1 H')) hi s fun H' s' => ?_
  cases ef : f i with
  | some v =>
   refine ⟨?_, s'⟩
   rw [e, List.range_succ, List.filterMap_append]
   simp [ef]
  | none =>
   refine ⟨?_, s'⟩
   rw [e, List.range_succ, List.filterMap_append]
   simp [ef]
 ·subst e
  exact hd H p s hp
end L2
namespace L2
open PySem PySem.Spec PyProof.Rows
mutual
inductive IsD (K : Φρ) (H : Hp) : V -> PyData -> Prop
 | non : IsD K H .non .none
 | bl (b : Bool) : IsD K H (.bl b) (.bool b)
 | int (i : Int) : IsD K H (.int i) (.int i)
 | str (x : Str) : IsD K H (.str x) (.str x)
 | lst {a : Addr} {xs : List V} {ds : List PyData} : SqL K H a xs -> IsDs K H xs ds -> IsD K H (.ref a) (.list ds)
 | tup {a : Addr} {xs : List V} {ds : List PyData} : SqT K H a xs -> IsDs K H xs ds -> IsD K H (.ref a) (.tuple ds)
inductive IsDs (K : Φρ) (H : Hp) : List V -> List PyData -> Prop
 | nil : IsDs K H [] []
 | cons {x : V} {xs : List V} {d : PyData} {ds : List PyData} : IsD K H x d -> IsDs K H xs ds -> IsDs K H (x :: xs) (d :: ds)
end
theorem Same.tupq {K : Φρ} {H H' : Hp} {a : Addr} {xs : List V} (e : Same H H') (h : SqT K H a xs) : SqT K H' a xs := by
 rcases h with (h | ⟨o, h⟩) | h
 ·exact .inl (.inl (e _ _ h))
 ·exact .inl (.inr ⟨o, e _ _ h⟩)
 ·exact .inr h
mutual
theorem IsD.reads {X : Cx} {pins : List (Addr × Obj)} {σ : St} {H : Hp} {s : Shared} (I : Inv X pins σ H s) : ∀ {v : V} {d : PyData} {u : Value}, IsD X.K H v d -> RelV v u -> ∃ as, Reads s.heap u d as
 | _, _, _, .non, r => by cases r; exact ⟨_, .none⟩
 | _, _, _, .bl b, r => by cases r; exact ⟨_, .bool b⟩
 | _, _, _, .int i, r => by obtain ⟨t, rfl⟩ := r; exact ⟨_, .int i t⟩
 | _, _, _, .str x, r => by obtain ⟨t, rfl⟩ := r; exact ⟨_, .str x t⟩
 | _, _, _, .lst h q, r => by
  cases r
  obtain ⟨its, rv, ⟨o, n, e, c, _, d⟩, _⟩ := I.list h
  obtain ⟨as, ra⟩ := IsDs.reads I q rv
  exact ⟨_, .list e c d (by simpa using ra)⟩
 | _, _, _, .tup h q, r => by
  cases r
  obtain ⟨its, rv, ⟨o, e, c, n, d⟩, _⟩ := I.tuple h
  obtain ⟨as, ra⟩ := IsDs.reads I q rv
  exact ⟨_, .tuple e c d (by simpa using ra)⟩
theorem IsDs.reads {X : Cx} {pins : List (Addr × Obj)} {σ : St} {H : Hp} {s : Shared} (I : Inv X pins σ H s) : ∀ {xs : List V} {ds : List PyData} {us : List Value}, IsDs X.K H xs ds -> Vals xs us -> ∃ as, ReadsAll s.heap us ds as
 | _, _, _, .nil, .nil => ⟨_, .nil⟩
 | _, _, _, .cons h q, .cons r t => by
  obtain ⟨as, ra⟩ := IsD.reads I h r
  obtain ⟨bs, rb⟩ := IsDs.reads I q t
  exact ⟨_, .cons ra rb⟩
end
theorem IsDs.ints {K : Φρ} {H : Hp} : ∀ ns : List Int, IsDs K H (ns.map V.int) (ns.map PyData.int)
 | [] => .nil
 | n :: ns => .cons (.int n) (IsDs.ints ns)
section
variable {X : Cx}
def rEqD (K : Φρ) (neg : Bool) : R2 := fun x y H Q => ∃ d d', IsD K H x d /\ IsD K H y d' /\ SeqAt.shaped d = true /\ SeqAt.shaped d' = true /\ Q (.bl (if neg then !PyData.eqv d d' else PyData.eqv d d')) H
theorem c6O (hu : X.A.units + 64 < cLine) : OpR X (compareOp .NotEq) (rEqD X.K true) := by
 intro pins s σ H x y v u Q I rx ry h
 obtain ⟨d, d', h1, h2, s1, s2, q⟩ := h
 obtain ⟨as, ra⟩ := h1.reads I rx
 obtain ⟨bs, rb⟩ := h2.reads I ry
 exact ne_dataH ra rb s1 s2 hu ⟨.bl _, H, I, rfl, q⟩
def rInD (K : Φρ) (neg : Bool) : R2 := fun x y H Q => ∃ d ds, IsD K H x d /\ IsD K H y (.list ds) /\ SeqAt.shaped d = true /\ SeqAt.shaped (.list ds) = true /\ Q (.bl (if neg then !ds.any (fun e => PyData.eqv e d) else ds.any (fun e => PyData.eqv e d))) H
theorem c6P (hu : X.A.units + 65 < cLine) : OpR X (compareOp .In) (rInD X.K false) := by
 intro pins s σ H x y v u Q I rx ry h
 obtain ⟨d, ds, h1, h2, s1, s2, q⟩ := h
 obtain ⟨as, ra⟩ := h1.reads I rx
 obtain ⟨bs, rb⟩ := h2.reads I ry
 exact SeqAt.in_list_reads rb ra (SeqAt.canLay_of_shaped s2) (SeqAt.canLay_of_shaped s1) (room_in_shaped s1 hu) ⟨.bl _, H, I, rfl, q⟩
theorem b6X (hu : X.A.units + 65 < cLine) : OpR X (compareOp .NotIn) (rInD X.K true) := by
 intro pins s σ H x y v u Q I rx ry h
 obtain ⟨d, ds, h1, h2, s1, s2, q⟩ := h
 obtain ⟨as, ra⟩ := h1.reads I rx
 obtain ⟨bs, rb⟩ := h2.reads I ry
 exact SeqAt.notIn_list_reads rb ra (SeqAt.canLay_of_shaped s2) (SeqAt.canLay_of_shaped s1) (room_in_shaped s1 hu) ⟨.bl _, H, I, rfl, q⟩
def clsV : V -> Option Value
 | .ty n => some (.type n)
 | .ref a => some (.ref a)
 | _ => none
theorem c0J {c : V} {cv u : Value} (h : clsV c = some cv) (r : RelV c u) : u = cv := by
 cases c with
 | ty n => cases h; exact r
 | ref a => cases h; exact r
 | _ => cases h
theorem b2O : CallR X (.builtin "isinstance") (fun xs H Q => ∃ x c cv t b, xs = [x, c] /\ clsV c = some cv /\ TyOf X.K H x t /\ PySem.W.kitOne X.K t cv = some b /\ Q (.bl b) H) := by
 intro pins s σ H xs us Q I r h
 obtain ⟨x, c, cv, t, b, rfl, hc, ty, hk, q⟩ := h
 obtain ⟨u1, u2, rfl, r1, r2⟩ := c3D r
 obtain rfl := c0J hc r2
 exact b6O I r1 ty hk fun tk => ⟨.bl b, H, I.tok tk, rfl, q⟩
abbrev Cx.in1 (X : Cx) : Cx := { X with A := X.A.in1 }
theorem Inv.in1 {pins : List (Addr × Obj)} {σ : St} {H : Hp} {s : Shared} (I : Inv X pins σ H s) : Inv X.in1 pins σ H s :=
 ⟨⟨I.ok.mod, I.ok.kind, I.ok.glob, I.ok.blt, I.ok.above, I.ok.inj, I.ok.has, I.ok.cab, I.ok.hd, I.ok.frames, I.ok.stk, I.ok.exf, I.ok.bs, I.ok.bsz, I.ok.noex, I.ok.exfs, I.ok.funs, I.ok.frf⟩, I.os, I.bare, I.base, I.loc, I.cell, I.free, I.freeC, I.pin, I.hok, I.len⟩
theorem Inv.of_in1 {pins : List (Addr × Obj)} {σ : St} {H : Hp} {s : Shared} (I : Inv X.in1 pins σ H s) : Inv X pins σ H s :=
 ⟨⟨I.ok.mod, I.ok.kind, I.ok.glob, I.ok.blt, I.ok.above, I.ok.inj, I.ok.has, I.ok.cab, I.ok.hd, I.ok.frames, I.ok.stk, I.ok.exf, I.ok.bs, I.ok.bsz, I.ok.noex, I.ok.exfs, I.ok.funs, I.ok.frf⟩, I.os, I.bare, I.base, I.loc, I.cell, I.free, I.freeC, I.pin, I.hok, I.len⟩
def Truths (K : Φρ) (H : Hp) (xs : List V) (bs : List Bool) : Prop := Paired (fun x b => TruV K x H b) xs bs
theorem Truths.get {K : Φρ} {H : Hp} : ∀ {xs : List V} {bs : List Bool} {i : Nat} {x : V}, Truths K H xs bs -> xs[i]? = some x -> ∃ b, bs[i]? = some b /\ TruV K x H b
 | _, _, _, _, .nil, h => by simp at h
 | _, _, 0, _, .cons h r, e => by
  simp at e; subst e
  exact ⟨_, rfl, h⟩
 | _, _, i + 1, _, .cons h r, e => by
  obtain ⟨d, e1, q⟩ := Truths.get (i := i) r (by simpa using e)
  exact ⟨d, by simpa using e1, q⟩
theorem Truths.bls {K : Φρ} {H : Hp} : ∀ bs : List Bool, Truths K H (bs.map V.bl) bs
 | [] => .nil
 | b :: bs => .cons rfl (Truths.bls bs)
theorem c0K {pins : List (Addr × Obj)} {σ : St} {H : Hp} {p it : Addr} {ys : List V} {bs : List Bool} {R : Result -> Shared -> Prop} (hc : X.calm = true) (hq : SqL X.K H p ys) (ht : Truths X.K H ys bs) (f : FpOk X pins H it) :
  ∀ (k i : Nat) (s : Shared), ys.length - i = k -> Inv X pins σ H s -> s.heap.IsListIter it p i -> (∀ s', Inv X pins σ H s' -> R (.ok (.ret (.bool ((bs.drop i).all id)))) s') ->
  codeAny (model X.prog X.w) X.A (.builtin "all.loop" ⟨[.ref it], []⟩) R s := by
 obtain ⟨f0, f1, f2, f3, f4, f5⟩ := f
 intro k
 induction k with
 | zero =>
  intro i s hk I st hR
  obtain ⟨its, rv, pl, hz⟩ := I.list hq
  have hl := rv.length
  refine codeAny_builtin F.entry_all_loop ?_
  rw [Around.under_plainId F.plain_all_loop _]
  show wpAny _ X.A.in1 (pyNext (.ref it) >>= _) _ _ s
  refine wpAny_bind (wpAny_pyNext_list_end (I.ok.hd hc) st pl.isList (by simp; omega) fun h' eb => ?_)
  refine wpAny_bind (wpAny_rule (wpAny_pure ?_))
  have q := hR _ (I.turned (t' := s.toks) (fun b o hb e => eb b o hb e) f0 f1 f3 f4 f5)
  have hlb : bs.length = ys.length := (Paired.length ht).symm
  rw [List.drop_of_length_le (by omega)] at q
  exact q
 | succ k ih =>
  intro i s hk I st hR
  obtain ⟨its, rv, pl, hz⟩ := I.list hq
  have hl := rv.length
  have hlt : i < ys.length := by omega
  have hx : ys[i]? = some ys[i] := by simp [hlt]
  obtain ⟨u, hu, ru⟩ := rv.get hx
  obtain ⟨b, hb, tb⟩ := ht.get hx
  refine codeAny_builtin F.entry_all_loop ?_
  rw [Around.under_plainId F.plain_all_loop _]
  show wpAny _ X.A.in1 (pyNext (.ref it) >>= _) _ _ s
  refine wpAny_bind (wpAny_pyNext_list_item st pl.isList (x := u) (by simpa using hu) fun h' st' sb => ?_)
  have I1 : Inv X pins σ H { s with heap := h' } := I.turned (t' := s.toks) (fun b o hb e => (sb.2 b hb).trans e) f0 f1 f3 f4 f5
  have hdb : bs.drop i = b :: bs.drop (i + 1) := by
   obtain ⟨hlb, eb⟩ := List.getElem?_eq_some_iff.mp hb
   rw [List.drop_eq_getElem_cons hlb, eb]
  rw [hdb] at hR
  have I1p : Inv X (pins ++ a7J [it] h') σ H { s with heap := h' } := I1.pinned (fp := [it]) (fun c hcc => by rw [List.mem_singleton.mp hcc]; exact ⟨f0, f1, f2, f3, f4, f5⟩) fun c hcc => by
   rw [List.mem_singleton.mp hcc]
   obtain ⟨o, e, c', d⟩ := st'
   exact ⟨o, e, fun v z => by rw [d] at z; cases z⟩
  refine wpAny_bind (wpAny_holding (wpAny_mono (c2K (X := X.in1.nox) _ _ σ H ys[i] u (fun c H' => c = b /\ H' = H) ((Inv.in1 I1p).wish _) ru ⟨b, tb, rfl, rfl⟩) (fun c s2 ⟨H', I2, e1, e2⟩ => ?_) fun _ _ z => False.elim z))
  rw [e2] at I2
  subst e1
  have I2' : Inv X (pins ++ a7J [it] h') σ H s2 := Inv.of_in1 I2.unwish
  have I2'' : Inv X pins σ H s2 := I2'.unpinned
  have st2 : s2.heap.IsListIter it p (i + 1) := st'.at fun o e => (I2'.pin (it, o) (List.mem_append_right _ (List.mem_append_right _ (a4F (List.mem_singleton.mpr rfl) e)))).1
  refine wpAny_bind (wpAny_letGo ?_)
  cases c with
  | true =>
   simp only [if_true]
   exact wpAny_pure ⟨plainId_quiet F.plain_all_loop _, ih (i + 1) s2 (by omega) I2'' st2 fun s' I' => by simpa using hR s' I'⟩
  | false =>
   simp only [Bool.false_eq_true, if_false]
   refine wpAny_bind (wpAny_rule (wpAny_pure ?_))
   simpa using hR s2 I2''
theorem b6Y (hc : X.calm = true) : CallR X (.builtin "all") (fun xs H Q => ∃ p ys bs, xs = [.ref p] /\ SqL X.K H p ys /\ Truths X.K H ys bs /\ Q (.bl (bs.all id)) H) := by
 intro pins s σ H xs us Q I r h
 obtain ⟨p, ys, bs, rfl, hq, ht, q⟩ := h
 obtain ⟨u, rfl, rx⟩ := b0J r
 cases rx
 refine call_function_tree F.kind_all F.plain_all F.entry_all (F.args_all1 _) ?_
 unfold Builtin.«all»
 refine wpAny_bind (m := oneArg "all" _) (wpAny_pure ?_)
 obtain ⟨its, rv, pl, hz⟩ := I.list hq
 refine wpAny_bind (wpAny_pyIter_list pl.isList ?_)
 have I1 : Inv X pins σ H { s with heap := s.heap.push { cls := .type "list_iterator", data := .fields #[.ref p, .int 0 0] } } := I.kept (t' := s.toks) fun b o e => Heap.get?_push_of_some _ e
 refine wpAny_pure ⟨plainId_quiet F.plain_all_loop _, c0K hc hq ht (I.fpOk (Nat.le_refl _) (I.hok.fresh (Nat.le_refl _))) ys.length 0 _ (Nat.sub_zero _) I1 ⟨_, Heap.get?_push_size _ rfl, rfl, rfl⟩ fun s' I' => ?_⟩
 exact ⟨.bl _, H, I', rfl, by simpa using q⟩
end
end L2
namespace L2
open PySem PySem.Spec PyProof.Rows
structure Dn (K : Φρ) (mg : Str -> Option Value) (x : Str) (st : Stmt) (ps : List Str) where
 f : Addr
 fd : FuncData
 F : Fun K x x st f fd
 b : Binds K fd ps []
 m : mg x = some (.ref f)
 bd : ∀ (s : Shared) (us : List Value), us.length = ps.length -> BindsTo s fd ⟨us, []⟩ (ps.zip us)
structure Bl (mg : Str -> Option Value) : Prop where
 get : ∀ x : Str, x ∈ (["len", "range", "list", "isinstance", "int", "bool", "str", "all", "any", "sorted", "set", "min", "max", "tuple", "enumerate", "dict", "ValueError"] : List Str) -> mg x = none
theorem Bl.len {mg : Str -> Option Value} (B : Bl mg) : mg "len" = none := B.get _ (by decide +kernel)
theorem Bl.range {mg : Str -> Option Value} (B : Bl mg) : mg "range" = none := B.get _ (by decide +kernel)
theorem Bl.list {mg : Str -> Option Value} (B : Bl mg) : mg "list" = none := B.get _ (by decide +kernel)
theorem Bl.isinstance {mg : Str -> Option Value} (B : Bl mg) : mg "isinstance" = none := B.get _ (by decide +kernel)
theorem Bl.int {mg : Str -> Option Value} (B : Bl mg) : mg "int" = none := B.get _ (by decide +kernel)
theorem Bl.bool {mg : Str -> Option Value} (B : Bl mg) : mg "bool" = none := B.get _ (by decide +kernel)
theorem Bl.str {mg : Str -> Option Value} (B : Bl mg) : mg "str" = none := B.get _ (by decide +kernel)
theorem Bl.all {mg : Str -> Option Value} (B : Bl mg) : mg "all" = none := B.get _ (by decide +kernel)
theorem Bl.sorted {mg : Str -> Option Value} (B : Bl mg) : mg "sorted" = none := B.get _ (by decide +kernel)
theorem Bl.set {mg : Str -> Option Value} (B : Bl mg) : mg "set" = none := B.get _ (by decide +kernel)
theorem Bl.min {mg : Str -> Option Value} (B : Bl mg) : mg "min" = none := B.get _ (by decide +kernel)
theorem Bl.max {mg : Str -> Option Value} (B : Bl mg) : mg "max" = none := B.get _ (by decide +kernel)
theorem Bl.tuple {mg : Str -> Option Value} (B : Bl mg) : mg "tuple" = none := B.get _ (by decide +kernel)
theorem Bl.enumerate {mg : Str -> Option Value} (B : Bl mg) : mg "enumerate" = none := B.get _ (by decide +kernel)
theorem b2P {K : Φρ} : PySem.W.kitOne K (.type "int") (.type "int") = some true := by rfl
theorem b0V {K : Φρ} : PySem.W.kitOne K (.type "int") (.type "bool") = some false := by rfl
theorem b2Q {K : Φρ} : PySem.W.kitOne K (.type "NoneType") (.type "int") = some false := by rfl
theorem b0W {K : Φρ} : PySem.W.kitOne K (.type "NoneType") (.type "bool") = some false := by rfl
end L2
namespace L2
open PySem PySem.Spec PyProof.Rows
section
variable {X : Cx} {K : Φρ}
theorem a0P (e : X.K = K) : IxR X (rIxL K) := by subst e; exact c3I
theorem a2A (e : X.K = K) : IxR X (rIxT K) := by subst e; exact c6K
theorem a9N (e : X.K = K) (hu : X.A.units + 64 < cLine) : OpR X (compareOp .NotEq) (rEqD K true) := by subst e; exact c6O hu
theorem b2R (e : X.K = K) (hu : X.A.units + 65 < cLine) : OpR X (compareOp .In) (rInD K false) := by subst e; exact c6P hu
theorem a4G (e : X.K = K) (hu : X.A.units + 65 < cLine) : OpR X (compareOp .NotIn) (rInD K true) := by subst e; exact b6X hu
def rLen (K : Φρ) : List V -> Hp -> VK -> Prop := fun xs H Q => ∃ p ys, xs = [.ref p] /\ (SqL K H p ys \/ SqT K H p ys) /\ Q (.int ys.length) H
theorem a0S (e : X.K = K) : CallR X (.builtin "len") (rLen K) := by subst e; exact b0Q
def c3N (K : Φρ) : List V -> Hp -> VK -> Prop := fun xs H Q => ∃ p ys, xs = [.ref p] /\ (SqL K H p ys \/ SqT K H p ys) /\ ∀ l, H l = none -> Q (.ref l) (upd H l (.lst ys))
theorem b5K (e : X.K = K) : CallR X (.type "list") (c3N K) := by subst e; exact b0R
def c8O (K : Φρ) : List V -> Hp -> VK -> Prop := fun xs H Q => ∃ x c cv t b, xs = [x, c] /\ clsV c = some cv /\ TyOf K H x t /\ PySem.W.kitOne K t cv = some b /\ Q (.bl b) H
theorem a1B (e : X.K = K) : CallR X (.builtin "isinstance") (c8O K) := by subst e; exact b2O
def rAll (K : Φρ) : List V -> Hp -> VK -> Prop := fun xs H Q => ∃ p ys bs, xs = [.ref p] /\ SqL K H p ys /\ Truths K H ys bs /\ Q (.bl (bs.all id)) H
theorem b0X (e : X.K = K) (hc : X.calm = true) : CallR X (.builtin "all") (rAll K) := by subst e; exact b6Y hc
theorem a0R {tg l : Expr} {tl : TE} (e : X.K = K) (hl : PE X l tl) : PI X tg l (c6E K tl) := by subst e; exact c3C hl
def tTru (K : Φρ) (ta : TE) : TT := fun σ H Q => ta σ H fun x H' => ∃ k, TruV K x H' k /\ Q k H'
theorem a0T {a : Expr} {ta : TE} (e : X.K = K) (ha : PE X a ta) (he : ∀ whole, isTrue a X.env whole = (do let v <- whole; standAt a.pos; holding [v] (truthy v))) : PT X a (tTru K ta) := by subst e; exact c0E ha he
theorem a2R {es : List Expr} {k : Nat} {t : TGs} {n : Nat} {pos : Pos} (e : X.K = K) (hc : X.calm = true) (h : PGs X es t)
  (hn : (assignEach es X.env).length = n := by rfl) (hst : (assignEach es X.env).findIdx? (·.1) = none := by rfl) : PG X (.Tuple es k pos) (gTup K n t) := by subst e; exact c6B hc h hn hst
theorem b6Z {o : Expr} {to : TE} {name : Str} {apos cpos : Pos} {T id : String} {r : V -> List V -> Hp -> VK -> Prop} (e : X.K = K) (pa : PlainAttrs T) (slot : Slot T name id) (hty : typeOf (.builtin id) = pure (.type "method_descriptor")) (hm : MtR X id r) (ho : PE X o to)
  (hbase : attributeBase o name X.env (eval o X.env) = eval o X.env := by rfl) (hline : (apos.endLine == cpos.line) = true := by rfl) : PE X (.Call (.Attribute o name apos) [] [] cpos) (tBM0 K T r to) := by subst e; exact c6L pa slot hty hm ho hbase hline
theorem a3R {o e : Expr} {es : List Expr} {to : TE} {t : TA} {name : Str} {apos cpos : Pos} {T id : String} {r : V -> List V -> Hp -> VK -> Prop} (e0 : X.K = K) (pa : PlainAttrs T) (slot : Slot T name id) (hty : typeOf (.builtin id) = pure (.type "method_descriptor")) (hm : MtR X id r) (ho : PE X o to) (ha : PA X (e :: es) t)
  (hbase : attributeBase o name X.env (eval o X.env) = eval o X.env := by rfl)
  (hfew : ((backTo cpos (starEach (e :: es) X.env)).all (fun x => !x.1) && (backToKw cpos (keywordEach [] X.env)).all (fun x => x.1.isSome)
   && decide ((e :: es).length + ([] : List Keyword).length + (if ([] : List Keyword).isEmpty then 0 else 1) < 30)) = true := by rfl)
  (hline : (apos.endLine == cpos.line) = true := by rfl) (hs : starEach (e :: es) X.env = (false, eval e X.env) :: starEach es X.env := by rfl) (hplain : (backTo cpos (starEach es X.env)).any (·.1) = false := by rfl) :
  PE X (.Call (.Attribute o name apos) (e :: es) [] cpos) (tBM K T r to t) := by subst e0; exact c8N pa slot hty hm ho ha hbase hfew hline hs hplain
def c3O : V -> List V -> Hp -> VK -> Prop := fun x vs H Q => ∃ l xs i y, x = .ref l /\ vs = [.int i, y] /\ H l = some (.lst xs) /\ xs.length < 1000 /\ 0 <= i /\ i <= (xs.length : Int) /\ Q .non (upd H l (.lst (xs.take i.toNat ++ y :: xs.drop i.toNat)))
theorem mt_insert : MtM X "list.insert" c3O := by
 intro pins s σ H x vs v us Q I rx rv h
 obtain ⟨l, xs, i, y, rfl, rfl, hH, hz, h0, h1, q⟩ := h
 cases rx
 obtain ⟨u1, u2, rfl, ru1, ru2⟩ := rv.two
 obtain ⟨t, rfl⟩ := ru1
 obtain ⟨z, its, n, r, hl, e⟩ := I.lstM hH
 have hlen := r.length
 have hs : sizeLine = 16777216 := sizeLine_eq
 have hfit : ¬(!Builtin.List.listFitsIndex i) = true := by
  unfold Builtin.List.listFitsIndex
  simp
  omega
 refine call_meets F.slot_list_insert ⟨_, e, rfl⟩ F.entry_list_insert (F.args_list_insert_3 _ _ _) (AutoSeq1.list_insert_list_int_val_1 l its.toArray n i t u2 hfit (by rw [List.size_toArray]; omega)) ⟨e, ?_⟩
 refine ⟨.non, _, I.lset (its' := its.take i.toNat ++ u2 :: its.drop i.toNat) hH e ?_ ((r.take i.toNat).append (.cons ru2 (r.drop i.toNat))) ?_, rfl, q⟩
 ·have hk : min i.toNat its.length = i.toNat := by omega
  simp [show ¬ i < 0 by omega, hk]
  exact List.take_of_length_le (by simp)
 ·rw [List.length_append, List.length_cons, List.length_take, List.length_drop]
  omega
end
end L2
namespace L2
open PySem PySem.Spec PyProof.Rows
def tCut (t u : TS) : TS := fun D σ H => ∃ J : St -> Hp -> Prop, t { D with nx := J } σ H /\ ∀ σ' H', J σ' H' -> u D σ' H'
theorem a5V {X : Cx} {st : Stmt} {rest : List Stmt} {t u : TS} (h1 : PS X st t) (h2 : PSs X rest u) : PSs X (st :: rest) (tCut t u) := by
 intro pins s σ H D I h
 obtain ⟨J, q1, q2⟩ := h
 refine wpAny_execs_cons (thn (h1 pins s σ H { D with nx := J } I q1) fun f s1 q => ?_)
 cases f with
 | next =>
  obtain ⟨σ', H', I', q⟩ := q
  exact h2 pins s1 σ' H' D I' (q2 σ' H' q)
 | ret v => exact q
 | brk => exact q
 | cont => exact q
end L2
namespace L2
open PySem PySem.Spec PyProof.Rows
structure New (H : Hp) (p : Addr) (o : HO) (H' : Hp) : Prop where
 fresh : H p = none
 here : H' p = some o
 rest : ∀ b, b ≠ p -> H' b = H b
theorem New.mk0 {H : Hp} {p : Addr} {o : HO} (h : H p = none) : New H p o (upd H p o) := ⟨h, a4U, fun _ hb => a1M hb⟩
theorem New.same {H H' : Hp} {p : Addr} {o : HO} (n : New H p o H') : Same H H' := fun b u e => (n.rest b (a1F e n.fresh)).trans e
theorem New.ne {H H' : Hp} {p b : Addr} {o u : HO} (n : New H p o H') (h : H b = some u) : b ≠ p := a1F h n.fresh
structure Chg (H : Hp) (l : Addr) (o : HO) (H' : Hp) : Prop where
 here : H' l = some o
 rest : ∀ b, b ≠ l -> H' b = H b
theorem Chg.mk0 {H : Hp} {l : Addr} {o : HO} : Chg H l o (upd H l o) := ⟨a4U, fun _ hb => a1M hb⟩
section
variable {X : Cx} {K : Φρ} {es : List Expr} {t : TA} {pos : Pos}
def c8P (t : TA) : TE := fun σ H Q => t σ H fun xs H1 => xs.length <= 1000 /\ ∀ p H', New H1 p (.tup xs) H' -> Q (.ref p) H'
def c8Q (t : TA) : TE := fun σ H Q => t σ H fun xs H1 => xs.length <= 1000 /\ ∀ p H', New H1 p (.lst xs) H' -> Q (.ref p) H'
theorem a3K {x1} (h : PA X es t) : PE X (.Tuple es x1 pos) (c8P t) := by
 intro pins s σ H Q I hq
 refine wpAny_Tuple_spliced (thn (h pos pins s σ H _ I hq) fun us s1 ⟨xs, H1, I1, r, z, q⟩ => ?_)
 have z' : xs.length <= sizeLine := Nat.le_of_lt (a1R z)
 refine ⟨by rw [<- r.length]; exact z', ?_⟩
 have hf : H1 s1.heap.objs.size = none := I1.hok.fresh (Nat.le_refl _)
 refine ⟨.ref s1.heap.objs.size, upd H1 s1.heap.objs.size (.tup xs), I1.laid (t' := s1.toks) (fun b u e => Heap.get?_push_of_some _ e) (Nat.le_refl _) ?_, rfl, q _ _ (New.mk0 hf)⟩
 exact ⟨z', us, r, ⟨_, Heap.get?_push_size _ rfl, rfl, _, rfl⟩⟩
theorem a2S (h : PA X es t) : PE X (.List es pos) (c8Q t) := by
 intro pins s σ H Q I hq
 refine wpAny_List_spliced (thn (h pos pins s σ H _ I hq) fun us s1 ⟨xs, H1, I1, r, z, q⟩ => ?_)
 have z' : xs.length <= sizeLine := Nat.le_of_lt (a1R z)
 refine ⟨by rw [<- r.length]; exact z', ?_⟩
 have hf : H1 s1.heap.objs.size = none := I1.hok.fresh (Nat.le_refl _)
 refine ⟨.ref s1.heap.objs.size, upd H1 s1.heap.objs.size (.lst xs), I1.laid (t' := s1.toks) (fun b u e => Heap.get?_push_of_some _ e) (Nat.le_refl _) ?_, rfl, q _ _ (New.mk0 hf)⟩
 exact ⟨z', us, 0, r, Heap.get?_push_size _ rfl⟩
theorem OpR.weak {f : Value -> Value -> Sem Value} {r r' : R2} (h : OpR X f r) (m : ∀ x y H Q, r' x y H Q -> r x y H Q) : OpR X f r' := fun pins s σ H x y v u Q I rx ry q => h pins s σ H x y v u Q I rx ry (m x y H Q q)
theorem CallR.weak {f : Value} {r r' : List V -> Hp -> VK -> Prop} (h : CallR X f r) (m : ∀ xs H Q, r' xs H Q -> r xs H Q) : CallR X f r' := fun pins s σ H xs us Q I rs q => h pins s σ H xs us Q I rs (m xs H Q q)
def c8R : R2 := fun x y H Q => ∃ l b xs zs, x = .ref l /\ y = .ref b /\ H l = some (.lst xs) /\ H b = some (.lst zs) /\ xs.length + zs.length <= 1000 /\ ∀ p H', New H p (.lst (xs ++ zs)) H' -> Q (.ref p) H'
theorem c3P : OpR X (binaryOp .Add) c8R := op_cat.weak fun x y H Q ⟨l, b, xs, zs, e1, e2, h1, h2, z, q⟩ => ⟨l, b, xs, zs, e1, e2, h1, h2, Nat.le_of_lt (a1R z), fun p hp => q p _ (New.mk0 hp)⟩
def rSlN (K : Φρ) : V -> Option Int -> Option Int -> Hp -> VK -> Prop := fun x lo hi H Q => ∃ a xs, x = .ref a /\ SqL K H a xs /\ ∀ p H', New H p (.lst (cutV xs lo hi)) H' -> Q (.ref p) H'
theorem a7B (e : X.K = K) : SlR X (rSlN K) := by
 subst e
 exact fun pins s σ H x v vl vu lo hi sl Q I rx hs pl pu ⟨a, xs, e, h, q⟩ => c3J pins s σ H x v vl vu lo hi sl Q I rx hs pl pu ⟨a, xs, e, h, fun p hp => q p _ (New.mk0 hp)⟩
def c2P (K : Φρ) : List V -> Hp -> VK -> Prop := fun xs H Q => ∃ p ys, xs = [.ref p] /\ (SqL K H p ys \/ SqT K H p ys) /\ ∀ l H', New H l (.lst ys) H' -> Q (.ref l) H'
theorem a3I (e : X.K = K) : CallR X (.type "list") (c2P K) := (b5K e).weak fun xs H Q ⟨p, ys, e, h, q⟩ => ⟨p, ys, e, h, fun l hl => q l _ (New.mk0 hl)⟩
theorem MtM.weak {id : String} {r r' : V -> List V -> Hp -> VK -> Prop} (h : MtM X id r) (m : ∀ x xs H Q, r' x xs H Q -> r x xs H Q) : MtM X id r' := fun pins s σ H x xs v us Q I rx rs q => h pins s σ H x xs v us Q I rx rs (m x xs H Q q)
def c8S : V -> List V -> Hp -> VK -> Prop := fun x vs H Q => ∃ l xs y, x = .ref l /\ vs = [y] /\ H l = some (.lst xs) /\ xs.length < 1000 /\ ∀ H', Chg H l (.lst (xs ++ [y])) H' -> Q .non H'
theorem a1X : MtM X "list.append" c8S := mt_append.weak fun x vs H Q ⟨l, xs, y, e1, e2, h, z, q⟩ => ⟨l, xs, y, e1, e2, h, a1R (Nat.le_of_lt z), q _ Chg.mk0⟩
def c8T : V -> List V -> Hp -> VK -> Prop := fun x vs H Q => ∃ l xs i y, x = .ref l /\ vs = [.int i, y] /\ H l = some (.lst xs) /\ xs.length < 1000 /\ 0 <= i /\ i <= (xs.length : Int) /\ ∀ H', Chg H l (.lst (xs.take i.toNat ++ y :: xs.drop i.toNat)) H' -> Q .non H'
theorem b5L : MtM X "list.insert" c8T := mt_insert.weak fun x vs H Q ⟨l, xs, i, y, e1, e2, h, z, h0, h1, q⟩ => ⟨l, xs, i, y, e1, e2, h, z, h0, h1, q _ Chg.mk0⟩
end
theorem a4L {K : Φρ} {a : Addr} {xs : List V} {ix : List (Option Nat)} {g : TG} {tt : TT} {te : TE} {σ : St} {H1 : Hp} {Q : VK} (f : V -> Option V) (hx : SqL K H1 a xs) (hz : xs.length <= 1000)
  (hs : ∀ x H (N : Option V -> Hp -> Prop), x ∈ xs -> Same H1 H -> (∀ H', Same H1 H' -> N (f x) H') -> g x (capt ix σ) H fun σ2 H2 => tt σ2 H2 fun b H3 => if b = true then te σ2 H3 fun v H4 => N (some v) H4 else N none H3)
  (hd : ∀ H p H', Same H1 H -> New H p (.lst (xs.filterMap f)) H' -> Q (.ref p) H') : a4K ix g tt te σ H1 Q (Itl K a) :=
 c3M f hx (Nat.le_of_lt (a1R hz)) hs fun H p s hp => hd H p _ s (New.mk0 hp)
theorem a7N {lo : Int} {n : Nat} {ix : List (Option Nat)} {g : TG} {tt : TT} {te : TE} {σ : St} {H1 : Hp} {Q : VK} (f : Nat -> Option V) (hz : n <= 1000)
  (hs : ∀ i H (N : Option V -> Hp -> Prop), i < n -> Same H1 H -> (∀ H', Same H1 H' -> N (f i) H') -> g (.int (lo + i)) (capt ix σ) H fun σ2 H2 => tt σ2 H2 fun b H3 => if b = true then te σ2 H3 fun v H4 => N (some v) H4 else N none H3)
  (hd : ∀ H p H', Same H1 H -> New H p (.lst ((List.range n).filterMap f)) H' -> Q (.ref p) H') : a4K ix g tt te σ H1 Q (Itr lo n) :=
 b6W f (Nat.le_of_lt (a1R hz)) hs fun H p s hp => hd H p _ s (New.mk0 hp)
end L2
namespace Lw
open PySem L2
theorem a3X {α β : Type} {f : α -> Option β} {g : α -> β} : ∀ {l : List α}, (∀ x ∈ l, f x = some (g x)) -> l.filterMap f = l.map g
 | [], _ => rfl
 | x :: r, h => by
  rw [List.filterMap_cons_some (h x List.mem_cons_self), List.map_cons, a3X fun y hy => h y (List.mem_cons_of_mem _ hy)]
theorem c3Q {f : V -> Option V} {g : Int -> V} {ns : List Int} (h : ∀ v ∈ ns, f (.int v) = some (g v)) : (ns.map V.int).filterMap f = ns.map g := by
 rw [List.filterMap_map]
 exact a3X h
def a2L (ns : List Int) (k : Int) : Int :=
 if k < (ns.length : Int) then ns.getD k.toNat 0
 else
  let z : Int := if (ns.length : Int) > 0 then (ns.getD (k * 7 % (ns.length : Int)).toNat 0) % 2147483647 * 48271 + k * 7919 else k * 7919 + 5
  z * z % 2147483629
def mixF (c m : Int) : Int := c % 2 ^ 64 * 11400714819323198485 % 2 ^ 64 / 2 ^ 11 % m
theorem c3R {c m : Int} (h : 0 < m) : 0 <= mixF c m := Int.emod_nonneg _ (by omega)
theorem c3S {c m : Int} (h : 0 < m) : mixF c m < m := Int.emod_lt_of_pos _ h
theorem a9O {ns : List Int} {k : Int} (h0 : 0 <= k) (h : k < (ns.length : Int)) : atI (ns.map V.int) k = some (.int (ns.getD k.toNat 0)) := by
 have hk : k.toNat < ns.length := by omega
 have ek : k = ((k.toNat : Nat) : Int) := by omega
 have q : atI (ns.map V.int) ((k.toNat : Nat) : Int) = some (.int (ns.getD k.toNat 0)) := a2Q (by
  rw [List.getElem?_map, List.getElem?_eq_getElem hk, τα, List.getElem?_eq_getElem hk]; rfl)
 rw [<- ek] at q
 exact q
def Scr (K : Φρ) (H : Hp) (a : Addr) (ns : List Int) : Prop := (∃ o, H a = some (.frz o (.lst (ns.map V.int)))) \/
 ∃ (o : Obj) (its : Array Value) (n : Nat), K.lookup a = some o /\ o.cls = .type "list" /\ o.dict = none /\ o.data = .seq its n /\ its.size <= sizeLine /\ Vals (ns.map V.int) its.toList
theorem Scr.seq {K : Φρ} {H : Hp} {a : Addr} {ns : List Int} (h : Scr K H a ns) : SqL K H a (ns.map V.int) := by
 rcases h with ⟨o, h⟩ | h
 ·exact .inl (.inr ⟨o, h⟩)
 ·exact .inr h
theorem Scr.of {K : Φρ} {H : Hp} {a : Addr} {ns : List Int} (hO : Only H) (h : SqL K H a (ns.map V.int)) : Scr K H a ns := by
 rcases h with (h | ⟨o, h⟩) | h
 ·rcases hO a with z | ⟨ob, xs, z⟩
  ·rw [z] at h; cases h
  ·rw [z] at h; cases h
 ·exact .inl ⟨o, h⟩
 ·exact .inr h
theorem Scr.same {K : Φρ} {H H' : Hp} {a : Addr} {ns : List Int} (e : Same H H') (h : Scr K H a ns) : Scr K H' a ns := by
 rcases h with ⟨o, h⟩ | h
 ·exact .inl ⟨o, e _ _ h⟩
 ·exact .inr h
def c6Q (K : Φρ) : Sp := fun vs H Q _ => ∃ (a : Addr) (ns : List Int) (k : Int), vs = [.ref a, .int k] /\ SqL K H a (ns.map V.int) /\ ns.length <= 63 /\ 0 <= k /\ k <= 1000 /\ Q (.int (a2L ns k)) H
def c8U : Sp := fun vs H Q _ => ∃ (c m : Int), vs = [.int c, .int m] /\ 0 < m /\ Q (.int (mixF c m)) H
def spLaw (K : Φρ) : Sp := fun vs H Q _ => ∃ (a : Addr) (ns : List Int), vs = [.ref a] /\ Scr K H a ns /\ ns.length <= 63 /\ ∀ H', Q (.bl true) H'
theorem b5M (c k : Int) (h0 : 0 <= k) (h1 : k <= 1000) : -(2 ^ 64) < c % 2147483647 * 48271 + k * 7919 /\ c % 2147483647 * 48271 + k * 7919 < 2 ^ 64 := by
 have a1 := Int.emod_nonneg c (show (2147483647 : Int) ≠ 0 by decide)
 have a2 := Int.emod_lt_of_pos c (show (0 : Int) < 2147483647 by decide)
 omega
end Lw
namespace L2
open PySem PySem.Spec PyProof.Rows
theorem b7A {K : Φρ} {h : Heap} {mg : Str -> Option Value} {x : Str} {st : Stmt} {ps : List Str} {f : Addr} {oc : Value} {od an : Option Addr} {osl : Array (Option Value)} {kV doc pm cdv ct : Value} (X : K.In h) (G : h.Ns mainGlobals mg)
  (a : PySem.W.nsIn K mainGlobals x = some (some (.ref f))) (l : K.lookup f = some ⟨oc, od, .func (PySem.W.fnOf x x (a1K st) (a1H st) (a0F st) .none kV doc pm an cdv ct), osl⟩) (c : PySem.W.codeIn K cdv x = true) (k : PySem.W.keepIn K (.ref f) = true)
  (hb : ∀ (kV doc pm : Value) (an : Option Addr) (cdv ct : Value) (us : List Value), us.length = ps.length -> bindArgs (PySem.W.fnOf x x (a1K st) (a1H st) (a0F st) .none kV doc pm an cdv ct) ⟨us, []⟩ = pure (ps.zip us)) :
  Nonempty (Dn K mg x st ps) :=
 have F := c6M (st := st) l c k
 ⟨⟨f, _, F, F.binds hb, PySem.W.mg_of X G a, fun s us hl => .of_eq (hb _ _ _ _ _ _ us hl)⟩⟩
theorem bl_mk {K : Φρ} {h : Heap} {mg : Str -> Option Value} (X : K.In h) (G : h.Ns mainGlobals mg)
  (z1 : PySem.W.nsIn K mainGlobals "len" = some none) (z2 : PySem.W.nsIn K mainGlobals "range" = some none) (z3 : PySem.W.nsIn K mainGlobals "list" = some none) (z4 : PySem.W.nsIn K mainGlobals "isinstance" = some none) (z5 : PySem.W.nsIn K mainGlobals "int" = some none)
  (z6 : PySem.W.nsIn K mainGlobals "bool" = some none) (z7 : PySem.W.nsIn K mainGlobals "str" = some none) (z8 : PySem.W.nsIn K mainGlobals "all" = some none) (z9 : PySem.W.nsIn K mainGlobals "any" = some none) (z10 : PySem.W.nsIn K mainGlobals "sorted" = some none)
  (z11 : PySem.W.nsIn K mainGlobals "set" = some none) (z12 : PySem.W.nsIn K mainGlobals "min" = some none) (z13 : PySem.W.nsIn K mainGlobals "max" = some none) (z14 : PySem.W.nsIn K mainGlobals "tuple" = some none) (z15 : PySem.W.nsIn K mainGlobals "enumerate" = some none)
  (z16 : PySem.W.nsIn K mainGlobals "dict" = some none) (z17 : PySem.W.nsIn K mainGlobals "ValueError" = some none) : Bl mg := by
 refine ⟨fun x hx => ?_⟩
 simp only [List.mem_cons, List.not_mem_nil, or_false] at hx
 rcases hx with rfl | rfl | rfl | rfl | rfl | rfl | rfl | rfl | rfl | rfl | rfl | rfl | rfl | rfl | rfl | rfl | rfl
 ·exact PySem.W.mg_none_of X G z1
 ·exact PySem.W.mg_none_of X G z2
 ·exact PySem.W.mg_none_of X G z3
 ·exact PySem.W.mg_none_of X G z4
 ·exact PySem.W.mg_none_of X G z5
 ·exact PySem.W.mg_none_of X G z6
 ·exact PySem.W.mg_none_of X G z7
 ·exact PySem.W.mg_none_of X G z8
 ·exact PySem.W.mg_none_of X G z9
 ·exact PySem.W.mg_none_of X G z10
 ·exact PySem.W.mg_none_of X G z11
 ·exact PySem.W.mg_none_of X G z12
 ·exact PySem.W.mg_none_of X G z13
 ·exact PySem.W.mg_none_of X G z14
 ·exact PySem.W.mg_none_of X G z15
 ·exact PySem.W.mg_none_of X G z16
 ·exact PySem.W.mg_none_of X G z17
theorem law_at {P : Program} {w : World} {K : Φρ} {mg : Str -> Option Value} {fa : Addr} {st : Stmt} {k : Nat} {sp : Sp} {x : Str} (hfa : mg "law" = some (.ref fa)) (d : Dn K mg "law" st [x]) (F : ∀ base : Heap, FnOk P w K mg base CX0 k d.f d.fd [x] sp) :
  ∃ fd : FuncData, (∀ (s : Shared) (u : Value), BindsTo s fd ⟨[u], []⟩ [(x, u)]) /\ ∀ base : Heap, K.In base -> base.Ns mainGlobals mg -> FnOk P w K mg base CX0 k fa fd [x] sp := by
 have e : fa = d.f := by
  have := hfa.symm.trans d.m
  have := Option.some.inj this
  cases this
  rfl
 subst e
 exact ⟨d.fd, fun s u => d.bd s [u] rfl, fun base _ _ => F base⟩
end L2
namespace L2
open PySem PySem.Spec PyProof.Rows
def Ite (K : Φρ) (a : Addr) : It :=
 ⟨fun i H => ∃ xs x, SqL K H a xs /\ xs[i]? = some x, fun i H x H' => ∃ p y, x = .ref p /\ New H p (.tup [.int i, y]) H' /\ ∀ xs, SqL K H a xs -> xs[i]? = some y, fun i H => ∃ xs, SqL K H a xs /\ xs.length <= i⟩
theorem b7B {P : Program} {w : World} {K : Φρ} {elts : List Expr} {k : Nat} {pos : Pos} (a it e : Addr) (hei : e ≠ it) : Turn P w K (.Tuple elts k pos) (Ite K a) [e, it] e (fun i h => (∃ old, IsEnum h e it i old) /\ h.IsListIter it a i) where
 mem := by simp
 obj := fun i h st b hb => by
  obtain ⟨⟨old, he⟩, hit⟩ := st
  rcases List.mem_cons.mp hb with rfl | hb
  ·exact ⟨_, he, fun v z => by
    have z' : Data.fields _ = Data.cell v := z
    cases z'⟩
  ·rw [List.mem_singleton.mp hb]
   obtain ⟨o, e1, c, d⟩ := hit
   exact ⟨o, e1, fun v z => by rw [d] at z; cases z⟩
 keep := fun i h h' st kk => by
  obtain ⟨⟨old, he⟩, hit⟩ := st
  exact ⟨⟨old, kk e (by simp) _ he⟩, hit.at fun o q => kk it (by simp) o q⟩
 item := by
  intro X hP hw hK hc i pins s σ H E I hf st hg
  subst hP hw hK
  obtain ⟨xs, x, hq, hx⟩ := hg
  obtain ⟨its, rv, pl, hz⟩ := I.list hq
  obtain ⟨u, hu, ru⟩ := rv.get hx
  obtain ⟨⟨old, he⟩, hit⟩ := st
  obtain ⟨f0, f1, f2, f3, f4, f5⟩ := hf e (by simp)
  obtain ⟨g0, g1, g2, g3, g4, g5⟩ := hf it (by simp)
  refine wpAny_pyNext_enum_item he hit pl.isList (x := u) (by simpa using hu) hei fun h' ho hit' hT hsz hk => ?_
  refine ⟨_, rfl, wpAny_letOwnedTupleGo_enum ho fun h2 he2 hs2 => ?_⟩
  have eT : s.heap.objs.size ≠ e := Nat.ne_of_gt (Heap.lt_size he)
  have iT : s.heap.objs.size ≠ it := by
   obtain ⟨o, e1, _⟩ := hit
   exact Nat.ne_of_gt (Heap.lt_size e1)
  have hT2 : h2.get? s.heap.objs.size = some { cls := .type "tuple", data := .seq #[.int i s.toks, u] } := (hs2.2 _ eT).trans hT
  have kp : ∀ b o, b ≠ e -> b ≠ it -> s.heap.get? b = some o -> h2.get? b = some o := fun b o h1 h2' q => (hs2.2 b h1).trans (hk b o h1 h2' q)
  have I1 : Inv X pins σ H { s with heap := h2, toks := s.toks + 1 } := by
   refine I.step (g' := s.gens) (d' := s.drawn) (H' := H) (ch := [e, it]) (fun b hb => ?_) (fun b o _ _ hc q _ => kp b o (fun z => hc (by simp [z])) (fun z => hc (by simp [z])) q) (fun b o _ _ hc q _ => ⟨o.slots, kp b o (fun z => hc (by simp [z])) (fun z => hc (by simp [z])) q⟩) (fun _ _ _ _ n => n)
    (fun b o hc q => ⟨o, kp b o (fun z => hc (by simp [z])) (fun z => hc (by simp [z])) q⟩) (fun _ _ q => q) (fun _ _ _ q => q) (fun b ps q => ⟨#[], by rw [q]; simp⟩) (fun m hm => ?_) (fun b o q => ?_) I.bare
   ·rcases List.mem_cons.mp hb with rfl | hb
    ·exact ⟨f3, f1, f4, f5⟩
    ·rw [List.mem_singleton.mp hb]; exact ⟨g3, g1, g4, g5⟩
   ·obtain ⟨o, es, ep, q, r⟩ := hm
    exact ⟨o, es, ep, kp _ o (Ne.symm f1) (Ne.symm g1) q, r⟩
   ·have nb : ∀ c v, H c = some v -> c ≠ e /\ c ≠ it := fun c v q => ⟨a1F q f0, a1F q g0⟩
    refine (I.hok b o q).stay (fun c v hcc r => kp c v ?_ ?_ r) (fun _ q => q) fun _ _ q => q
    ·rcases hcc with z | z
     ·rw [z]; exact (nb b o q).1
     ·exact (nb c _ z).1
    ·rcases hcc with z | z
     ·rw [z]; exact (nb b o q).2
     ·exact (nb c _ z).2
  have hfree : H s.heap.objs.size = none := I.hok.fresh (Nat.le_refl _)
  have I2 : Inv X pins σ (upd H s.heap.objs.size (.tup [.int i, x])) { s with heap := h2, toks := s.toks + 1 } := by
   refine Inv.track I1 hfree I.sz (Nat.ne_of_gt I.lt) (fun y c q => ?_) (fun p hp => Nat.ne_of_lt (Heap.lt_size (I.pin p hp).1)) ?_
   ·obtain ⟨v, oc, q1, _⟩ := I.cell y c q
    exact Nat.ne_of_lt (Heap.lt_size q1)
   ·exact ⟨(by show 2 <= sizeLine; decide), [.int i s.toks, u], .cons ⟨_, rfl⟩ (.cons ru .nil), ⟨_, hT2, rfl, _, rfl⟩⟩
  refine ⟨.ref s.heap.objs.size, _, I2, rfl, ⟨_, x, rfl, New.mk0 hfree, fun ys hy => by rw [I.list_inj hy hq]; exact hx⟩, ⟨⟨u, ?_⟩, hit'.at fun o q => (hs2.2 it (Ne.symm hei)).trans q⟩, fun b hb => ?_⟩
  ·have e1 : ((i + 1 : Nat) : Int) = (i : Int) + 1 := by omega
   show IsEnum h2 e it ((i + 1 : Nat) : Int) u
   rw [e1]; exact he2
  ·rcases List.mem_cons.mp hb with rfl | hb
   ·rw [a1M (Ne.symm eT)]; exact f0
   ·rw [List.mem_singleton.mp hb, a1M (Ne.symm iT)]; exact g0
 done := by
  intro X hP hw hK hc i pins s σ H E I hf st hg
  subst hP hw hK
  obtain ⟨xs, hq, hx⟩ := hg
  obtain ⟨its, rv, pl, hz⟩ := I.list hq
  obtain ⟨⟨old, he⟩, hit⟩ := st
  obtain ⟨g0, g1, g2, g3, g4, g5⟩ := hf it (by simp)
  have hl := rv.length
  exact wpAny_pyNext_enum_end (I.ok.hd hc) he hit pl.isList (by simp; omega) fun h' eb => ⟨rfl, I.turned (t' := s.toks) (fun b o hb q => eb b o hb q) g0 g1 g3 g4 g5⟩
 self := fun _ _ _ _ _ st h => by
  obtain ⟨⟨old, he⟩, _⟩ := st
  exact wpAny_pyIter_enum he h
section
variable {X : Cx} {K : Φρ}
def c6R (K : Φρ) (ta : TA) : TI := fun σ H R => ta σ H fun vs H1 => ∃ a, vs = [.ref a] /\ (∃ xs, SqL K H1 a xs) /\ R (Ite K a) H1
theorem a3Y {elts : List Expr} {k : Nat} {tpos : Pos} {l : Expr} {ta : TA} {p pos : Pos} (e0 : X.K = K) (hg : Gl X "enumerate") (hm : X.mg "enumerate" = none) (ha : PA X [l] ta) (hs : starEach [l] X.env = [(false, eval l X.env)] := by rfl) :
  PI X (.Tuple elts k tpos) (.Call (.Name "enumerate" p) [l] [] pos) (c6R K ta) := by
 subst e0
 intro pins s σ H R I h
 refine wpAny_Call_Name_kw (a6B I hg hm boot_enumerate ?_)
 refine PyProof.Rows.callWith_type1 (thn (ha pos pins s σ H _ I h) fun us s1 ⟨vs, H1, I1, r1, q1⟩ => ?_) hs (by rfl)
 obtain ⟨a, e, ⟨xs, hq⟩, q⟩ := q1
 subst e
 obtain ⟨u, rfl, ru⟩ := b0J r1
 cases ru
 obtain ⟨its, rv, pl, hz⟩ := I1.list hq
 refine call_enumerate_list pl.isList fun h' he hit hsz hk => ?_
 refine wpAny_pyIter_enum he ?_
 have I2 : Inv X pins σ H1 { s1 with heap := h' } := I1.kept (t' := s1.toks) hk
 refine ⟨s1.heap.objs.size + 1, [s1.heap.objs.size + 1, s1.heap.objs.size], _, _, H1, rfl, I2, b7B a s1.heap.objs.size (s1.heap.objs.size + 1) (Nat.ne_of_gt (Nat.lt_succ_self _)), ⟨⟨_, he⟩, hit⟩, fun b hb => ?_, q⟩
 have hb' : s1.heap.objs.size <= b := by
  rcases List.mem_cons.mp hb with rfl | hb
  ·exact Nat.le_succ _
  ·rw [List.mem_singleton.mp hb]; exact Nat.le_refl _
 exact I1.fpOk hb' (I1.hok.fresh hb')
end
theorem a3L {K : Φρ} {a : Addr} {xs : List V} {g : TG} {tb : TS} {D : Ends} {σ : St} {H : Hp} (Pv : Nat -> St -> Hp -> Prop) (h0 : Pv 0 σ H) (hl : ∀ i σ H, i <= xs.length -> Pv i σ H -> SqL K H a xs)
  (hs : ∀ (i : Nat) x σ H p H', xs[i]? = some x -> Pv i σ H -> New H p (.tup [.int i, x]) H' -> g (.ref p) σ H' fun σ2 H2 => tb { D with nx := Pv (i + 1), ct := Pv (i + 1), bk := D.nx } σ2 H2) (hd : ∀ σ H, Pv xs.length σ H -> D.nx σ H) :
  ∃ W : Nat -> Nat -> St -> Hp -> Prop, (∃ m, W 0 m σ H) /\ ∀ i m σ H, W i m σ H ->
   ((Ite K a).stop i H /\ D.nx σ H) \/ ((Ite K a).go i H /\ ∃ N : St -> Hp -> Prop, (∀ σ' H', N σ' H' -> ∃ m', m' < m /\ W (i + 1) m' σ' H') /\ ∀ x H', (Ite K a).yld i H x H' -> g x σ H' fun σ2 H2 => tb { D with nx := N, ct := N, bk := D.nx } σ2 H2) := by
 refine ⟨fun i m σ H => m = xs.length - i /\ i <= xs.length /\ Pv i σ H, ⟨xs.length, by simp, Nat.zero_le _, h0⟩, ?_⟩
 rintro i m σ H ⟨rfl, hi, p⟩
 have q := hl i σ H hi p
 by_cases hlt : i < xs.length
 ·refine .inr ⟨⟨xs, xs[i], q, by simp [hlt]⟩, Pv (i + 1), fun σ' H' p' => ⟨xs.length - (i + 1), by omega, rfl, hlt, p'⟩, fun x H' y => ?_⟩
  obtain ⟨pp, y0, rfl, nw, ex⟩ := y
  exact hs i y0 σ H pp H' (ex xs q) p nw
 ·have e : i = xs.length := by omega
  subst e
  exact .inl ⟨⟨xs, q, Nat.le_refl _⟩, hd σ H p⟩
theorem a7O {K : Φρ} {a : Addr} {xs : List V} {ix : List (Option Nat)} {g : TG} {tt : TT} {te : TE} {σ : St} {H1 : Hp} {Q : VK} (f : Nat -> Option V) (hx : SqL K H1 a xs) (hz : xs.length <= 1000)
  (hs : ∀ (i : Nat) x H (N : Option V -> Hp -> Prop), xs[i]? = some x -> Same H1 H -> (∀ H', Same H1 H' -> N (f i) H') -> g x (capt ix σ) H fun σ2 H2 => tt σ2 H2 fun b H3 => if b = true then te σ2 H3 fun v H4 => N (some v) H4 else N none H3)
  (hd : ∀ H p H', Same H1 H -> New H p (.lst ((List.range xs.length).filterMap f)) H' -> Q (.ref p) H') : a4K ix g tt te σ H1 Q (Itl K a) := by
 refine a5U (K := K) (a := a) (xs := xs) (fun i ys H => ys = (List.range i).filterMap f /\ Same H1 H) ⟨rfl, Same.refl _⟩ (fun i ys H hi ⟨e, s⟩ => ⟨s.seq hx, ?_⟩) (fun i x ys H hi ⟨e, s⟩ => ?_) fun ys H ⟨e, s⟩ p hp => ?_
 ·subst e
  refine Nat.le_trans (List.length_filterMap_le _ _) ?_
  rw [List.length_range]; exact Nat.le_trans hi (Nat.le_of_lt (a1R hz))
 ·refine hs i x H (fun o H' => match o with | some v => (ys ++ [v] = (List.range (i + 1)).filterMap f /\ Same H1 H') | none => (ys = (List.range (i + 1)).filterMap f /\ Same H1 H')) hi s fun H' s' => ?_
  cases ef : f i with
  | some v =>
   refine ⟨?_, s'⟩
   rw [e, List.range_succ, List.filterMap_append]
   simp [ef]
  | none =>
   refine ⟨?_, s'⟩
   rw [e, List.range_succ, List.filterMap_append]
   simp [ef]
 ·subst e
  exact hd H p _ s (New.mk0 hp)
end L2
namespace Bg
open PySem L2 Lw
def b0Y (ns : List Int) : Bool := (List.range (ns.length - 1)).all fun i => decide (ns.getD i 0 < ns.getD (i + 1) 0)
def setF (n : Int) (ns : List Int) : Bool := (ns.all fun v => decide (0 <= v /\ v < n)) && b0Y ns
def a7P (n : Int) : Option Int -> Bool
 | none => false
 | some i => decide (0 <= i /\ i < n)
inductive Flt where
 | ok | row (k : Nat) | place (v : Nat) | tie (a b : Int) | apart (v j k : Nat)
 deriving DecidableEq
def upV : Option Int -> V
 | none => .non
 | some i => .int i
def TieV (K : Φρ) (H : Hp) (v : V) (t : Int × Int) : Prop := ∃ p, v = .ref p /\ SqT K H p [.int t.1, .int t.2]
def TiesAt (K : Φρ) (H : Hp) (a : Addr) (ts : List ζζ) : Prop := ∃ xs, SqL K H a xs /\ Paired (TieV K H) xs ts /\ ts.length <= 1000
def GraphV (K : Φρ) (H : Hp) (v : V) (n : Int) (ts : List ζζ) : Prop := ∃ p a, v = .ref p /\ SqT K H p [.int n, .ref a] /\ TiesAt K H a ts
theorem TiesAt.same {K : Φρ} {H H' : Hp} {a : Addr} {ts : List ζζ} (e : Same H H') (h : TiesAt K H a ts) : TiesAt K H' a ts := by
 obtain ⟨xs, h1, h2, h3⟩ := h
 exact ⟨xs, e.seq h1, Paired.mapP h2 fun _ _ ⟨p, q1, q2⟩ => ⟨p, q1, e.tupq q2⟩, h3⟩
theorem GraphV.same {K : Φρ} {H H' : Hp} {v : V} {n : Int} {ts : List ζζ} (e : Same H H') (h : GraphV K H v n ts) : GraphV K H' v n ts := by
 obtain ⟨p, a, h1, h2, h3⟩ := h
 exact ⟨p, a, h1, e.tupq h2, h3.same e⟩
theorem a0X {α β : Type} {F : α -> β -> Prop} : ∀ {xs : List α} {ys : List β} {i : Nat} {x : α}, Paired F xs ys -> xs[i]? = some x -> ∃ y, ys[i]? = some y /\ F x y
 | _, _, _, _, .nil, h => by simp at h
 | _, _, 0, _, .cons h r, e => by
  simp at e; subst e
  exact ⟨_, rfl, h⟩
 | _, _, i + 1, _, .cons h r, e => by
  obtain ⟨d, e1, q⟩ := a0X (i := i) r (by simpa using e)
  exact ⟨d, by simpa using e1, q⟩
theorem b7C (ns : List Int) (v : Int) : (ns.map PyData.int).any (fun e => PyData.eqv e (.int v)) = decide (v ∈ ns) := by
 induction ns with
 | nil => rfl
 | cons a r ih =>
  rw [List.map_cons, List.any_cons, ih, PyData.eqv]
  by_cases h : a = v
  ·subst h; simp
  ·have h' : ¬ v = a := fun z => h z.symm
   simp [h, h']
theorem a8Y (ns : List Int) : PyData.depthAll (ns.map PyData.int) = 0 := by
 induction ns with
 | nil => rfl
 | cons a r ih => rw [List.map_cons, PyData.depthAll, ih]; rfl
theorem b3Y (ns : List Int) : PyData.canLayAll0 (ns.map PyData.int) = true := by
 induction ns with
 | nil => rfl
 | cons a r ih => rw [List.map_cons, PyData.canLayAll0, ih]; rfl
theorem a1O (ns : List Int) : SeqAt.shaped (.list (ns.map PyData.int)) = true := by
 unfold SeqAt.shaped
 rw [PyData.canLay0, b3Y, PyData.depth, a8Y]
 decide
theorem c2Q {K : Φρ} {H : Hp} {b : Addr} {ns : List Int} {v : Int} {Q : VK} (hS : SqL K H b (ns.map V.int)) (q : Q (.bl (decide (v ∈ ns))) H) : rInD K false (.int v) (.ref b) H Q :=
 ⟨_, _, .int v, .lst hS (IsDs.ints ns), rfl, a1O ns, by rw [b7C]; exact q⟩
theorem b0Z {K : Φρ} {H : Hp} {b : Addr} {ns : List Int} {v : Int} {Q : VK} (hS : SqL K H b (ns.map V.int)) (q : Q (.bl (!decide (v ∈ ns))) H) : rInD K true (.int v) (.ref b) H Q :=
 ⟨_, _, .int v, .lst hS (IsDs.ints ns), rfl, a1O ns, by rw [b7C]; exact q⟩
end Bg
namespace L2
open PySem PySem.Spec PyProof.Rows
def c6S : V -> V -> V -> Hp -> (Hp -> Prop) -> Prop := fun o i v H Q => ∃ p xs k j, o = .ref p /\ i = .int k /\ H p = some (.lst xs) /\ ixN xs.length k = some j /\ ∀ H', Chg H p (.lst (xs.set j v)) H' -> Q H'
theorem a2M {X : Cx} : PSet X c6S := fun pins s σ H o i v ov iv u Q I ro ri rv ⟨p, xs, k, j, e1, e2, h1, h2, q⟩ => c0G pins s σ H o i v ov iv u Q I ro ri rv ⟨p, xs, k, j, e1, e2, h1, h2, q _ Chg.mk0⟩
theorem a3Z {n j : Nat} (h : j < n) : ixN n (j : Int) = some j := by
 unfold ixN
 rw [if_pos (by omega), if_pos (by omega)]; simp
theorem Same.chg {H H' : Hp} {l : Addr} {o : HO} {H0 : Hp} (s : Same H0 H) (h0 : H0 l = none) (c : Chg H l o H') : Same H0 H' := fun b u e => (c.rest b (a1F e h0)).trans (s b u e)
end L2
namespace Bg
open PySem L2 Lw
theorem b7D (a b : Int) (r : List Int) : b0Y (a :: b :: r) = (decide (a < b) && b0Y (b :: r)) := by
 unfold b0Y
 have e : (a :: b :: r).length - 1 = (b :: r).length - 1 + 1 := by simp
 rw [e, List.range_succ_eq_map, List.all_cons, List.all_map]
 rfl
theorem b3Z : ∀ ls : List Int, b0Y ls = true ↔ ls.Pairwise (· < ·)
 | [] => by simp [b0Y]
 | [a] => by simp [b0Y]
 | a :: b :: r => by
  rw [b7D, Bool.and_eq_true, b3Z (b :: r), decide_eq_true_iff, List.pairwise_cons (a := a)]
  constructor
  ·rintro ⟨h1, h2⟩
   refine ⟨fun c hc => ?_, h2⟩
   rcases List.mem_cons.mp hc with rfl | hc
   ·exact h1
   ·exact Int.lt_trans h1 ((List.pairwise_cons.mp h2).1 c hc)
  ·rintro ⟨h1, h2⟩
   exact ⟨h1 b List.mem_cons_self, h2⟩
theorem c3T (n : Int) (ls : List Int) : setF n ls = true ↔ (∀ v ∈ ls, 0 <= v /\ v < n) /\ ls.Pairwise (· < ·) := by
 unfold setF
 rw [Bool.and_eq_true, b3Z, List.all_eq_true]
 constructor
 ·rintro ⟨h1, h2⟩
  exact ⟨fun v hv => of_decide_eq_true (h1 v hv), h2⟩
 ·rintro ⟨h1, h2⟩
  exact ⟨fun v hv => decide_eq_true (h1 v hv), h2⟩
def TieL (H : Hp) (v : V) (t : Int × Int) : Prop := ∃ p, v = .ref p /\ H p = some (.tup [.int t.1, .int t.2])
theorem TieL.v {K : Φρ} {H : Hp} {v : V} {t : Int × Int} (h : TieL H v t) : TieV K H v t := by
 obtain ⟨p, e, q⟩ := h
 exact ⟨p, e, SqT.of q⟩
theorem TieL.same {H H' : Hp} {v : V} {t : Int × Int} (s : Same H H') (h : TieL H v t) : TieL H' v t := by
 obtain ⟨p, e, q⟩ := h
 exact ⟨p, e, s _ _ q⟩
theorem TieL.chg {H H' : Hp} {l : Addr} {xs ys : List V} {v : V} {t : Int × Int} (hl : H l = some (.lst xs)) (c : Chg H l (.lst ys) H') (h : TieL H v t) : TieL H' v t := by
 obtain ⟨p, e, q⟩ := h
 exact ⟨p, e, (c.rest p (c8C q hl (by intro z; cases z))).trans q⟩
theorem a2I {α β : Type} {F : α -> β -> Prop} : ∀ {xs : List α} {ys : List β} {x : α} {y : β}, Paired F xs ys -> F x y -> Paired F (xs ++ [x]) (ys ++ [y])
 | _, _, _, _, .nil, h => .cons h .nil
 | _, _, _, _, .cons h r, q => .cons h (a2I r q)
def tieD (t : Int × Int) : PyData := .tuple [.int t.1, .int t.2]
theorem TieV.isD {K : Φρ} {H : Hp} {v : V} {t : Int × Int} (h : TieV K H v t) : IsD K H v (tieD t) := by
 obtain ⟨p, rfl, q1⟩ := h
 exact .tup q1 (.cons (.int _) (.cons (.int _) .nil))
theorem b7E {K : Φρ} {H : Hp} {α : Type} {F : V -> α -> Prop} {f : α -> PyData} (hf : ∀ v x, F v x -> IsD K H v (f x)) : ∀ {xs : List V} {ys : List α}, Paired F xs ys -> IsDs K H xs (ys.map f)
 | _, _, .nil => .nil
 | _, _, .cons h r => .cons (hf _ _ h) (b7E hf r)
def b5N (ts : List ζζ) : PyData := .list (ts.map tieD)
theorem TiesAt.isD {K : Φρ} {H : Hp} {a : Addr} {ts : List ζζ} (h : TiesAt K H a ts) : IsD K H (.ref a) (b5N ts) := by
 obtain ⟨xs, h1, h2, _⟩ := h
 exact .lst h1 (b7E (fun v x q => q.isD) h2)
def webD (n : Int) (ts : List ζζ) : PyData := .tuple [.int n, b5N ts]
theorem GraphV.isD {K : Φρ} {H : Hp} {v : V} {n : Int} {ts : List ζζ} (h : GraphV K H v n ts) : IsD K H v (webD n ts) := by
 obtain ⟨p, a, rfl, q1, q2⟩ := h
 exact .tup q1 (.cons (.int _) (.cons q2.isD .nil))
theorem b2S {α : Type} {f : α -> PyData} (h : ∀ x, (f x).canLay0 = true) : ∀ l : List α, PyData.canLayAll0 (l.map f) = true
 | [] => rfl
 | x :: r => by rw [List.map_cons, PyData.canLayAll0, h x, b2S h r]; rfl
theorem a4X {α : Type} {f : α -> PyData} {k : Nat} (h : ∀ x, (f x).depth <= k) : ∀ l : List α, PyData.depthAll (l.map f) <= k
 | [] => Nat.zero_le _
 | x :: r => by
  rw [List.map_cons, PyData.depthAll]
  exact Nat.max_le.mpr ⟨h x, a4X h r⟩
theorem c3U (t : Int × Int) : (tieD t).canLay0 = true := rfl
theorem b1A (t : Int × Int) : (tieD t).depth <= 1 := by
 unfold tieD
 simp [PyData.depth, PyData.depthAll]
theorem b2T (ts : List ζζ) : SeqAt.shaped (b5N ts) = true := by
 unfold SeqAt.shaped b5N
 rw [PyData.canLay0, b2S c3U, PyData.depth, Bool.true_and]
 exact decide_eq_true (by have := a4X b1A ts; omega)
theorem a5W (n : Int) (ts : List ζζ) : SeqAt.shaped (webD n ts) = true := by
 have h := b2T ts
 unfold SeqAt.shaped at h ⊢
 rw [Bool.and_eq_true] at h
 have h2 : (b5N ts).depth <= 2 := by
  unfold b5N
  rw [PyData.depth]
  have := a4X b1A ts; omega
 unfold webD
 rw [PyData.canLay0, PyData.canLayAll0, PyData.canLayAll0, h.1, PyData.depth, PyData.depthAll, PyData.depthAll, PyData.depthAll, PyData.depth]
 simp only [PyData.canLay0, PyData.canLayAll0, Bool.and_true, Bool.true_and]
 refine decide_eq_true ?_
 omega
theorem a7C {d : PyData} (h : SeqAt.shaped d = true) : PyData.eqv d d = true := SeqAt.eqv_refl d (SeqAt.canLay_of_shaped h)
end Bg
set_option maxHeartbeats 4100000
namespace L2
open PySem PySem.Spec PyProof.Rows
section
variable {X : Cx} {K : Φρ} {a b : Expr} {rest : List Expr} {pos : Pos} {ta tb : TE}
end
end L2
set_option maxHeartbeats 4100000
namespace L2
open PySem PySem.Spec PyProof.Rows
section
variable {X : Cx} {K : Φρ} {a b : Expr} {rest : List Expr} {pos : Pos} {ta tb : TE}
end
end L2
set_option maxHeartbeats 4100000
namespace L2
open PySem PySem.Spec PyProof.Rows
section
variable {K : Φρ} {a : Addr} {xs : List V} {ix : List (Option Nat)} {g : TG} {tt : TT} {te : TE} {σ : St} {H1 : Hp} {Q : VK}
end
section
variable {X : Cx} {K : Φρ}
end
end L2
namespace Srt
open PySem PySem.W PyProof.Rows
section
variable {n : Nat} {key : Nat -> Int} {α β : Type}
end
end Srt
set_option maxHeartbeats 4100000
namespace Srt
open PySem PyProof.Rows PySem.Calls PySem.W
section
variable {prog : Program} {wo : World} {A : Around} {E : Value -> Shared -> Prop} {s : Shared}
end
end Srt
set_option maxHeartbeats 4100000
namespace Srt
open PySem PyProof.Rows PySem.Calls PySem.W
theorem countP_le {α : Type} {p q : α -> Bool} (h : ∀ x, p x = true -> q x = true) (l : List α) : l.countP p <= l.countP q := by
 induction l with
 | nil => exact Nat.le_refl _
 | cons a r ih =>
  rw [List.countP_cons, List.countP_cons]
  by_cases c : p a = true
  ·rw [if_pos c, if_pos (h a c)]; omega
  ·rw [if_neg c]; omega
theorem countP_lt {α : Type} {p q : α -> Bool} (h : ∀ x, p x = true -> q x = true) {x : α} : ∀ {l : List α}, x ∈ l -> p x = false -> q x = true -> l.countP p < l.countP q
 | a :: r, hx, h1, h2 => by
  rw [List.countP_cons, List.countP_cons]
  have le := countP_le h r
  rcases List.mem_cons.mp hx with rfl | hx
  ·rw [if_neg (by rw [h1]; exact Bool.false_ne_true), if_pos h2]; omega
  ·have ih := countP_lt h hx h1 h2
   by_cases c : p a = true
   ·rw [if_pos c, if_pos (h a c)]; omega
   ·rw [if_neg c]; omega
section
variable {prog : Program} {w : World} {A : Around} {E : Value -> Shared -> Prop} {s : Shared} {Q : Bool -> Shared -> Prop}
end
end Srt
set_option maxHeartbeats 4100000
namespace L2
open PySem PySem.Spec PyProof.Rows Bg Srt
theorem a9P : ∀ {ns : List Int} {us : List Value}, Vals (ns.map V.int) us -> IntsAre us ns
 | [], _, .nil => .nil
 | n :: ns, _, .cons r t => by
  obtain ⟨k, rfl⟩ := r
  exact .cons n k (a9P t)
section
variable {X : Cx} {K : Φρ}
end
end L2
set_option maxHeartbeats 4100000
namespace Srt
open PySem PySem.W PySem.Calls PySem.Spec PyProof.Rows PySem.MeetsSeq
end Srt
namespace L2
open PySem PySem.Spec PyProof.Rows Srt
section
variable {X : Cx} {K : Φρ}
end
end L2
set_option maxHeartbeats 4100000
namespace L2
open PySem PySem.Spec PyProof.Rows
section
variable {X : Cx} {K : Φρ}
end
end L2
namespace L2
open PySem PySem.Spec PyProof.Rows
section
variable {X : Cx} {K : Φρ}
theorem a7Q (l : List Int) (f : Nat -> Int) (h : ∀ i, i < l.length -> f i = l.getD i 0) : ∀ k, k <= l.length -> preSum f k = (l.take k).sum
 | 0, _ => rfl
 | k + 1, hk => by
  show preSum f k + f k = _
  rw [a7Q l f h k (by omega), h k (by omega), List.take_succ_eq_append_getElem (by omega), List.sum_append, τα, List.getElem?_eq_getElem (by omega)]
  simp
def c8V (K : Φρ) : List V -> Hp -> VK -> Prop := fun xs H Q => ∃ p ns, xs = [.ref p] /\ SqL K H p (List.map V.int ns) /\ Q (.int ns.sum) H
theorem b1B (e : X.K = K) (cm : X.calm = true) : CallR X (.builtin "sum") (c8V K) := by
 subst e
 intro pins s σ H xs us Q I r h
 obtain ⟨p, ns, rfl, hL, q⟩ := h
 obtain ⟨u, rfl, rx⟩ := b0J r
 cases rx
 obtain ⟨its, r', pl, hz⟩ := I.list hL
 have hi := a9P r'
 have hlen := hi.length
 obtain ⟨zs, ez⟩ := hi.allInts.items
 have en : zs.toList.map (·.1) = ns := by
  rw [<- nums_intItems, <- ez]
  exact hi.numsOf
 have e2 : (intItems zs).size = zs.size := by simp [intItems]
 have hsz : zs.size = ns.length := by rw [<- en, List.length_map, Array.length_toList]
 refine call_sum_walkG (iter_intList (xs := zs) (by rw [<- ez]; exact pl.isList) fun s₂ es st hfp hlI => ?_)
 subst es
 refine ⟨_, _, _, _, _, _, numAt zs, rfl, Walks.list (A := X.A.in1) (I.ok.hd cm) s.heap.objs.size p hlI (intItems zs), st, hfp, fun i v hv => intItems_at hv, fun h' tk t' hk => ?_⟩
 rw [e2, hsz, a7Q ns (numAt zs) (fun i hi => by rw [numAt_eq, <- en]) ns.length (Nat.le_refl _), List.take_length]
 refine ⟨.int _, H, ?_, ⟨t', rfl⟩, q⟩
 exact I.kept fun b o eb => hk b o (fun z => by
  have z' : b = s.heap.objs.size := by simpa using z
  exact absurd (Heap.lt_size eb) (by rw [z']; exact Nat.lt_irrefl _)) (Heap.get?_push_of_some _ eb)
end
end L2
set_option maxHeartbeats 4100000
namespace L2
open PySem PySem.Spec PyProof.Rows
section
variable {prog : Program} {w : World} {A : Around} {R : Result -> Shared -> Prop} {I : Addr} {fp wr : List Addr} {n : Nat} {P : Nat -> Value -> Prop} {St : Nat -> Heap -> Prop} {kw : List (Str × Value)}
end
section
variable {prog : Program} {w : World} {A : Around} {E : Value -> Shared -> Prop} {s : Shared} {xs : Array (Int × Tok)} {l : Addr}
end
section
variable {X : Cx} {K : Φρ}
end
end L2
set_option maxHeartbeats 4100000
namespace L2
open PySem PySem.Spec PyProof.Rows
section
variable {prog : Program} {w : World} {A : Around} {R : Result -> Shared -> Prop} {I : Addr} {fp wr : List Addr} {n : Nat} {P : Nat -> Value -> Prop} {St : Nat -> Heap -> Prop} {kw : List (Str × Value)}
end
section
variable {prog : Program} {w : World} {A : Around} {E : Value -> Shared -> Prop} {s : Shared} {xs : Array (Int × Tok)} {l : Addr}
end
section
variable {X : Cx} {K : Φρ}
end
end L2
namespace L2
open PySem PySem.Spec PySem.Calls PyProof.Rows
section
variable {X : Cx}
end
end L2
namespace L2
open PySem PySem.Spec PyProof.Rows
section
variable {X : Cx}
def c8W : V -> List V -> Hp -> VK -> Prop := fun x vs H Q => ∃ m : Nat, x = .int (m : Int) /\ vs = [] /\ Q (.int ((Builtin.Int.intBits (m : Int) : Nat) : Int)) H
theorem b7F : MtR X "int.bit_length" c8W := by
 intro pins s σ H x xs v us Q I rx rs h
 obtain ⟨m, rfl, rfl, q⟩ := h
 obtain ⟨t, rfl⟩ := (show ∃ t, v = Value.int (m : Int) t from rx)
 cases rs
 exact call_int_bit_length ⟨.int _, H, I.tok _, ⟨_, rfl⟩, q⟩
end
theorem a3M (a b : Nat) : Builtin.bitAnd (a : Int) (b : Int) = ((a &&& b : Nat) : Int) := by
 unfold Builtin.bitAnd
 simp
theorem a4M (a b : Nat) : Builtin.bitOr (a : Int) (b : Int) = ((a ||| b : Nat) : Int) := by
 unfold Builtin.bitOr Builtin.bitAnd Builtin.bitNot
 rw [decide_eq_false (show ¬ (0 : Int) <= -(a : Int) - 1 by omega), decide_eq_false (show ¬ (0 : Int) <= -(b : Int) - 1 by omega)]
 dsimp only
 rw [show (-(-(a : Int) - 1) - 1).toNat = a by omega, show (-(-(b : Int) - 1) - 1).toNat = b by omega]
 omega
theorem b2U {m k : Nat} (h : m < 2 ^ k) : Builtin.Int.intBits (m : Int) <= k := by
 unfold Builtin.Int.intBits
 split
 ·exact Nat.zero_le _
 ·rename_i c
  have hm : m ≠ 0 := fun z => c (by rw [z]; rfl)
  rw [Int.natAbs_natCast]
  exact (Nat.log2_lt hm).mpr h
theorem b1C {m v : Nat} (h : m.testBit v = true) : v < Builtin.Int.intBits (m : Int) := by
 unfold Builtin.Int.intBits
 have hm : m ≠ 0 := fun z => by rw [z] at h; simp at h
 have hc : ¬ (((m : Int) == 0) = true) := by simpa using hm
 rw [if_neg hc, Int.natAbs_natCast]
 have := Nat.ge_two_pow_of_testBit h
 exact Nat.lt_succ_of_le ((Nat.le_log2 hm).mpr this)
def a0L (m : Nat) : List Nat := (List.range 10).filter (m.testBit ·)
theorem b2V {m : Nat} (h : m < 2 ^ 10) : (List.range (Builtin.Int.intBits (m : Int))).filter (m.testBit ·) = a0L m := by
 unfold a0L
 have hk := b2U h
 obtain ⟨d, ed⟩ : ∃ d, 10 = Builtin.Int.intBits (m : Int) + d := ⟨10 - Builtin.Int.intBits (m : Int), by omega⟩
 rw [ed, List.range_add, List.filter_append]
 have : ((List.range d).map (fun x => Builtin.Int.intBits (m : Int) + x)).filter (m.testBit ·) = [] := by
  rw [List.filter_eq_nil_iff]
  intro x hx hb
  obtain ⟨y, _, rfl⟩ := List.mem_map.mp hx
  have := b1C hb
  omega
 rw [this, List.append_nil]
theorem a9Q (m v : Nat) : (m &&& 2 ^ v = 0) ↔ m.testBit v = false := by
 constructor
 ·intro h
  have : (m &&& 2 ^ v).testBit v = false := by rw [h]; simp
  rw [Nat.testBit_and, Nat.testBit_two_pow_self, Bool.and_true] at this
  exact this
 ·intro h
  refine Nat.eq_of_testBit_eq fun i => ?_
  rw [Nat.testBit_and, Nat.zero_testBit, Nat.testBit_two_pow]
  by_cases c : v = i
  ·subst c; rw [h]; rfl
  ·rw [decide_eq_false c, Bool.and_false]
theorem a1C {m v k : Nat} (h : m < 2 ^ k) (hv : k <= v) : m.testBit v = false :=
 Nat.testBit_lt_two_pow (Nat.lt_of_lt_of_le h (Nat.pow_le_pow_right (by decide) hv))
theorem a2W {m v : Nat} (h : m.testBit v = true) : ∀ u, (m - 2 ^ v).testBit u = (m.testBit u && !decide (u = v)) := by
 induction v generalizing m with
 | zero =>
  intro u
  have h1 : m % 2 = 1 := by rw [Nat.testBit_zero] at h; exact of_decide_eq_true h
  cases u with
  | zero =>
   rw [Nat.testBit_zero, Nat.testBit_zero]
   have : (m - 2 ^ 0) % 2 = 0 := by omega
   rw [this]; simp
  | succ u =>
   rw [Nat.testBit_succ, Nat.testBit_succ]
   have : (m - 2 ^ 0) / 2 = m / 2 := by omega
   rw [this]; simp
 | succ v ih =>
  intro u
  rw [Nat.testBit_succ] at h
  have le : 2 ^ v <= m / 2 := Nat.ge_two_pow_of_testBit h
  have e2 : 2 ^ (v + 1) = 2 * 2 ^ v := by rw [Nat.pow_succ, Nat.mul_comm]
  cases u with
  | zero =>
   rw [Nat.testBit_zero, Nat.testBit_zero]
   have : (m - 2 ^ (v + 1)) % 2 = m % 2 := by omega
   rw [this]; simp
  | succ u =>
   rw [Nat.testBit_succ, Nat.testBit_succ]
   have : (m - 2 ^ (v + 1)) / 2 = m / 2 - 2 ^ v := by omega
   rw [this, ih h u]
   simp
structure BagsM (n : Nat) (ms : List Nat) (R : Nat -> Nat -> Bool) : Prop where
 len : ms.length = n
 n10 : n <= 10
 lt : ∀ m ∈ ms, m < 2 ^ 10
 bit : ∀ v < n, ∀ u, (ms.getD v 0).testBit u = R v u
 far : ∀ v u, R v u = true -> v < n /\ u < n
theorem BagsM.get {n : Nat} {ms : List Nat} {R : Nat -> Nat -> Bool} (b : BagsM n ms R) {v : Nat} (h : v < n) : ms[v]? = some (ms.getD v 0) := by
 have : v < ms.length := by rw [b.len]; exact h
 rw [τα, List.getElem?_eq_getElem this]; rfl
theorem a1T {m k : Nat} (h : ∀ u, m.testBit u = true -> u < k) : m < 2 ^ k := Nat.lt_pow_two_of_testBit m fun i hi => by
 cases e : m.testBit i with
 | false => rfl
 | true => have := h i e; omega
def a8L (v : Nat) (R : Nat -> Nat -> Bool) : Nat -> Nat -> Bool := fun x u => if x = v then false else if R x v = true then (R x u || R v u) && !decide (u = v) else R x u
def b1D (v : Nat) (ms : List Nat) : List Nat := (ms.map fun m => if m &&& 2 ^ v = 0 then m else (m ||| ms.getD v 0) - 2 ^ v).set v 0
theorem c3V {n : Nat} {ms : List Nat} {R : Nat -> Nat -> Bool} {v : Nat} (b : BagsM n ms R) (hv : v < n) : BagsM n (b1D v ms) (a8L v R) := by
 have far : ∀ x u, a8L v R x u = true -> x < n /\ u < n := fun x u h => by
  unfold a8L at h
  split at h
  ·cases h
  ·split at h
   ·rename_i c
    rw [Bool.and_eq_true, Bool.or_eq_true] at h
    rcases h.1 with z | z
    ·exact b.far _ _ z
    ·exact ⟨(b.far _ _ c).1, (b.far _ _ z).2⟩
   ·exact b.far _ _ h
 have bit : ∀ x < n, ∀ u, ((b1D v ms).getD x 0).testBit u = a8L v R x u := fun x hx u => by
  unfold b1D a8L
  by_cases c : x = v
  ·subst c
   rw [if_pos rfl, τα, List.getElem?_set_self (by rw [List.length_map, b.len]; exact hx)]
   simp
  ·rw [if_neg c, τα, List.getElem?_set_ne (Ne.symm c), List.getElem?_map, b.get hx]
   simp only [Option.map_some, Option.getD_some]
   have ab := a9Q (ms.getD x 0) v
   rw [b.bit x hx] at ab
   by_cases d : R x v = true
   ·rw [if_pos d, if_neg (fun z => by rw [ab.mp z] at d; cases d)]
    have ht : (ms.getD x 0 ||| ms.getD v 0).testBit v = true := by rw [Nat.testBit_or, b.bit x hx, d]; rfl
    rw [a2W ht, Nat.testBit_or, b.bit x hx, b.bit v hv]
   ·rw [if_neg d, if_pos (ab.mpr (by simpa using d)), b.bit x hx]
 refine ⟨by unfold b1D; rw [List.length_set, List.length_map]; exact b.len, b.n10, fun m hm => ?_, bit, far⟩
 obtain ⟨j, hj, ej⟩ := List.getElem_of_mem hm
 have jn : j < n := by
  unfold b1D at hj
  rw [List.length_set, List.length_map, b.len] at hj
  exact hj
 have e : (b1D v ms).getD j 0 = m := by rw [τα, List.getElem?_eq_getElem hj, ej]; rfl
 refine a1T fun u hu => ?_
 rw [<- e, bit j jn] at hu
 have := far j u hu
 have := b.n10
 omega
theorem b2W {n : Nat} {ms : List Nat} {R : Nat -> Nat -> Bool} {v : Nat} (b : BagsM n ms R) (hv : v < n) : a0L (ms.getD v 0) = (List.range n).filter (R v ·) := by
 unfold a0L
 have hn := b.n10
 obtain ⟨d, ed⟩ : ∃ d, 10 = n + d := ⟨10 - n, by omega⟩
 rw [ed, List.range_add, List.filter_append]
 have e1 : ((List.range d).map (fun x => n + x)).filter ((ms.getD v 0).testBit ·) = [] := by
  rw [List.filter_eq_nil_iff]
  intro x hx hb
  obtain ⟨y, _, rfl⟩ := List.mem_map.mp hx
  rw [b.bit v hv] at hb
  have := (b.far _ _ hb).2
  omega
 rw [e1, List.append_nil]
 exact List.filter_congr fun u _ => b.bit v hv u
def a3N (n : Nat) (ts : List ζζ) : Nat -> Nat -> Bool := fun v u => decide (v < n /\ u < n) && (decide (u = v) || decide (((v : Int), (u : Int)) ∈ ts) || decide (((u : Int), (v : Int)) ∈ ts))
end L2
namespace L2
open PySem PySem.Spec PyProof.Rows
end L2
set_option maxHeartbeats 1000000
namespace Sm
open PySem
def b7G (xs : Array Nat) (j k : Nat) : Prop := k <= xs.size /\ ∀ i (h : i < xs.size), xs[i] < j ↔ i < k
theorem c0L {xs : Array Nat} (h : xs.toList.Pairwise (· < ·)) {i k : Nat} (hi : i < xs.size) (hk : k < xs.size) (ik : i < k) : xs[i] < xs[k] := by
 have := List.pairwise_iff_getElem.mp h i k (by simpa using hi) (by simpa using hk) ik
 simpa using this
theorem c8X {xs : Array Nat} {j : Nat} (h : xs.toList.Pairwise (· < ·)) : ∀ (fuel lo hi : Nat), hi - lo <= fuel -> lo <= hi -> hi <= xs.size ->
  (∀ i (z : i < xs.size), i < lo -> xs[i] < j) -> (∀ i (z : i < xs.size), hi <= i -> j <= xs[i]) -> b7G xs j (SetTable.below.go xs j fuel lo hi) := by
 intro fuel
 induction fuel with
 | zero =>
  intro lo hi a b c d e
  unfold SetTable.below.go
  have : lo = hi := by omega
  subst this
  exact ⟨c, fun i z => ⟨fun q => by
   rcases Nat.lt_or_ge i lo with g | g
   ·exact g
   ·have := e i z g
    omega, fun q => d i z q⟩⟩
 | succ f ih =>
  intro lo hi a b c d e
  unfold SetTable.below.go
  by_cases q : lo < hi
  ·rw [if_pos q]
   dsimp only
   have m1 : lo <= (lo + hi) / 2 := by omega
   have m2 : (lo + hi) / 2 < hi := by omega
   have m3 : (lo + hi) / 2 < xs.size := by omega
   have ge : xs.getD ((lo + hi) / 2) j = xs[(lo + hi) / 2] := by simp [Array.getD, m3]
   rw [ge]
   by_cases r : xs[(lo + hi) / 2] < j
   ·rw [if_pos r]
    refine ih _ _ (by omega) (by omega) c (fun i z hi' => ?_) e
    rcases Nat.lt_or_ge i ((lo + hi) / 2) with g | g
    ·have := c0L h z m3 g
     omega
    ·have : i = (lo + hi) / 2 := by omega
     subst this
     exact r
   ·rw [if_neg r]
    refine ih _ _ (by omega) (by omega) (by omega) d (fun i z hi' => ?_)
    rcases Nat.lt_or_ge ((lo + hi) / 2) i with g | g
    ·have := c0L h m3 z g
     omega
    ·have : i = (lo + hi) / 2 := by omega
     subst this
     omega
  ·rw [if_neg q]
   have : lo = hi := by omega
   subst this
   exact ⟨c, fun i z => ⟨fun q => by
    rcases Nat.lt_or_ge i lo with g | g
    ·exact g
    ·have := e i z g
     omega, fun q => d i z q⟩⟩
theorem a7D {xs : Array Nat} (h : xs.toList.Pairwise (· < ·)) (j : Nat) : b7G xs j (SetTable.below xs j) :=
 c8X h _ _ _ (by omega) (Nat.zero_le _) (Nat.le_refl _) (fun i z q => absurd q (Nat.not_lt_zero _)) (fun i z q => absurd z (by omega))
theorem c0M {xs : Array Nat} (h : xs.toList.Pairwise (· < ·)) {k : Nat} (hk : k < xs.size) : SetTable.below xs (xs[k]) = k := by
 obtain ⟨a, b⟩ := a7D h xs[k]
 rcases Nat.lt_trichotomy (SetTable.below xs xs[k]) k with g | g | g
 ·have c := (b (SetTable.below xs xs[k]) (by omega)).mp (c0L h (by omega) hk g)
  omega
 ·exact g
 ·have c := (b k hk).mpr g
  omega
theorem b5O {xs : Array Nat} (h : xs.toList.Pairwise (· < ·)) : SetTable.below xs 0 = 0 := by
 obtain ⟨a, b⟩ := a7D h 0
 rcases Nat.eq_zero_or_pos (SetTable.below xs 0) with g | g
 ·exact g
 ·have := (b 0 (by omega)).mpr g
  omega
theorem b5P {xs : Array Nat} (h : xs.toList.Pairwise (· < ·)) {k : Nat} (hk : k < xs.size) : SetTable.below xs (xs[k] + 1) = k + 1 := by
 obtain ⟨a, b⟩ := a7D h (xs[k] + 1)
 have c := (b k hk).mp (by omega)
 rcases Nat.lt_or_ge (k + 1) (SetTable.below xs (xs[k] + 1)) with g | g
 ·have e := (b (k + 1) (by omega)).mpr g
  have := c0L h hk (show k + 1 < xs.size by omega) (Nat.lt_succ_self _)
  omega
 ·omega
theorem b7H (j : Nat) : SetTable.has #[] j = false := by
 unfold SetTable.has
 simp
theorem a5X {t : SetTable} (dm : t.dummies = #[]) {j : Nat} (h : j ∉ t.place.toList) : t.slot j = .empty := by
 unfold SetTable.slot
 have e : (t.place[SetTable.below t.place j]? == some j) = false := by
  rw [beq_eq_false_iff_ne]
  intro c
  exact h (by simpa using Array.mem_of_getElem? c)
 dsimp only
 rw [e, dm, b7H]
 rfl
theorem b7I {t : SetTable} (up : t.place.toList.Pairwise (· < ·)) {j : Nat} (h : j ∈ t.place.toList) : ∃ i, t.slot j = .live i := by
 obtain ⟨k, hk, e⟩ := List.getElem_of_mem h
 have hk' : k < t.place.size := by simpa using hk
 have e' : t.place[k] = j := by simpa using e
 unfold SetTable.slot
 have q : SetTable.below t.place j = k := by rw [<- e']; exact c0M up hk'
 dsimp only
 rw [q]
 have : (t.place[k]? == some j) = true := by simp [hk', e']
 rw [this]
 exact ⟨k, rfl⟩
def adv (mask : Nat) (p : SetTable.Probe) : SetTable.Probe :=
 if 0 < p.more then { p with more := p.more - 1, j := p.j + 1 } else
 { p with j := (SetTable.leap mask p.i p.perturb).1, more := SetTable.runEnd mask (SetTable.leap mask p.i p.perturb).1 - (SetTable.leap mask p.i p.perturb).1, i := (SetTable.leap mask p.i p.perturb).1, perturb := (SetTable.leap mask p.i p.perturb).2 }
theorem c6T (t : SetTable) (p : SetTable.Probe) : t.advance p = adv t.mask p := by
 unfold SetTable.advance adv
 rfl
def nth (mask : Nat) (p : SetTable.Probe) : Nat -> SetTable.Probe
 | 0 => p
 | k + 1 => nth mask (adv mask p) k
theorem b7J (m : Nat) (p : SetTable.Probe) : (adv m p).dummy = p.dummy := by
 unfold adv
 split <;> rfl
theorem c0N {t : SetTable} (dm : t.dummies = #[]) (up : t.place.toList.Pairwise (· < ·)) (h : Int) : ∀ (k fuel : Nat) (p : SetTable.Probe), k < fuel -> p.dummy = none -> (nth t.mask p k).j ∉ t.place.toList ->
  ∃ j, j ∉ t.place.toList /\ SetTable.probe.go t (fun _ => h + 1) h fuel p = some (.empty j none) := by
 intro k
 induction k with
 | zero =>
  intro fuel p hf hd hn
  obtain ⟨f, rfl⟩ : ∃ f, fuel = f + 1 := ⟨fuel - 1, by omega⟩
  unfold SetTable.probe.go
  have hn' : p.j ∉ t.place.toList := hn
  refine ⟨p.j, hn', ?_⟩
  rw [a5X dm hn', hd]
 | succ k ih =>
  intro fuel p hf hd hn
  obtain ⟨f, rfl⟩ : ∃ f, fuel = f + 1 := ⟨fuel - 1, by omega⟩
  unfold SetTable.probe.go
  by_cases c : p.j ∈ t.place.toList
  ·obtain ⟨i, e⟩ := b7I up c
   rw [e]
   dsimp only
   have : (h + 1 == h) = false := by rw [beq_eq_false_iff_ne]; omega
   rw [this]
   rw [c6T]
   exact ih f (adv t.mask p) (by omega) (by rw [b7J]; exact hd) hn
  ·rw [a5X dm c, hd]
   exact ⟨p.j, c, rfl⟩
def b7K (v : Nat) : SetTable.Probe := { j := v % 8, more := 0, i := v % 8, perturb := v, dummy := none }
theorem c8Y : ∀ v, v < 16 -> ∀ j, j < 8 -> ∃ k, k < 16 /\ (nth 7 (b7K v) k).j = j := by decide +kernel
theorem b2X {v : Nat} (h : v < 16) : SetTable.bits (v : Int) = v := by
 unfold SetTable.bits
 omega
theorem c3W {t : SetTable} (dm : t.dummies = #[]) (up : t.place.toList.Pairwise (· < ·)) {v k : Nat} (hk : k < 10 * SetTable.turns t.mask) (hn : (nth t.mask (t.probeStart (v : Int)) k).j ∉ t.place.toList) :
  ∃ j, j ∉ t.place.toList /\ t.freeSlot (v : Int) = some (j, false) := by
 obtain ⟨j, hj, e⟩ := c0N dm up (v : Int) k (10 * SetTable.turns t.mask) (t.probeStart (v : Int)) hk rfl hn
 refine ⟨j, hj, ?_⟩
 unfold SetTable.freeSlot SetTable.probe
 rw [e]
 rfl
theorem b7L : ∀ (l m : List Nat), l.Nodup -> (∀ x ∈ l, x ∈ m) -> l.length <= m.length
 | [], _, _, _ => Nat.zero_le _
 | a :: r, m, nd, h => by
  have am : a ∈ m := h a List.mem_cons_self
  obtain ⟨n1, n2⟩ := List.nodup_cons.mp nd
  have q := b7L r (m.erase a) n2 fun x hx => (List.mem_erase_of_ne (fun e => n1 (by rw [<- e]; exact hx))).mpr (h x (List.mem_cons_of_mem _ hx))
  rw [List.length_erase_of_mem am] at q
  have := List.length_pos_of_mem am
  rw [List.length_cons]
  omega
theorem c6U {l : List Nat} (h : l.length <= 4) : ∃ j, j < 8 /\ j ∉ l := by
 apply Classical.byContradiction
 intro c
 have q : ∀ j, j < 8 -> j ∈ l := fun j hj => Classical.byContradiction fun d => c ⟨j, hj, d⟩
 have := b7L (List.range 8) l List.nodup_range (fun j hj => q j (List.mem_range.mp hj))
 rw [List.length_range] at this
 omega
theorem c0O {t : SetTable} (dm : t.dummies = #[]) {v : Nat} (hv : v < 16) (hm : 15 <= t.mask) (hn : v ∉ t.place.toList) : t.freeSlot (v : Int) = some (v, false) := by
 unfold SetTable.freeSlot SetTable.probe
 have e : (t.probeStart (v : Int)).j = v := by
  unfold SetTable.probeStart
  dsimp only
  rw [b2X hv]
  exact Nat.mod_eq_of_lt (by omega)
 obtain ⟨f, hf⟩ : ∃ f, 10 * SetTable.turns t.mask = f + 1 := ⟨10 * SetTable.turns t.mask - 1, by unfold SetTable.turns; omega⟩
 rw [hf]
 unfold SetTable.probe.go
 rw [e, a5X dm hn]
 rfl
def Es (es : Array (Int × Value)) (L : List Nat) : Prop := Paired (fun e v => e.1 = ((v : Nat) : Int) /\ ∃ tk, e.2 = Value.int ((v : Nat) : Int) tk) es.toList L
structure Tb (B : Bool) (t : SetTable) (L : List Nat) : Prop where
 dm : t.dummies = #[]
 pl : t.plain = true
 led : t.led = !B
 up : t.place.toList.Pairwise (· < ·)
 sz : t.place.size = L.length
 nd : L.Nodup
 lt : ∀ v ∈ L, v < 16
 sh : (t.mask = 7 /\ L.length <= 4) \/ (15 <= t.mask /\ t.place.toList = L /\ L.length * 5 < t.mask * 3)
theorem c6V {xs : Array Nat} (up : xs.toList.Pairwise (· < ·)) {j : Nat} (h : j ∉ xs.toList) : (SetTable.insertAt xs (SetTable.below xs j) j).toList.Pairwise (· < ·) := by
 obtain ⟨a, b⟩ := a7D up j
 rw [SetTable.toList_insertAt]
 have z : ∀ i (hi : i < xs.toList.length), xs.toList[i] < j ↔ i < SetTable.below xs j := fun i hi => by
  have := b i (by simpa using hi)
  simpa using this
 rw [List.pairwise_append]
 refine ⟨up.sublist (List.take_sublist _ _), ?_, ?_⟩
 ·rw [List.pairwise_cons]
  refine ⟨fun y hy => ?_, up.sublist (List.drop_sublist _ _)⟩
  obtain ⟨i, hi, e⟩ := List.getElem_of_mem hy
  rw [List.getElem_drop] at e
  have hl : SetTable.below xs j + i < xs.toList.length := by rw [List.length_drop] at hi; omega
  have q := z _ hl
  rw [e] at q
  have ne : y ≠ j := fun c => h (by rw [<- c, <- e]; exact List.getElem_mem hl)
  rcases Nat.lt_or_ge y j with g | g
  ·have := q.mp g
   omega
  ·omega
 ·intro x hx y hy
  obtain ⟨i, hi, e⟩ := List.getElem_of_mem hx
  rw [List.getElem_take] at e
  have hl : i < xs.toList.length := by rw [List.length_take] at hi; omega
  have hb : i < SetTable.below xs j := by rw [List.length_take] at hi; omega
  have x1 : x < j := by rw [<- e]; exact (z i hl).mpr hb
  rcases List.mem_cons.mp hy with rfl | hy
  ·exact x1
  ·obtain ⟨k, hk, e2⟩ := List.getElem_of_mem hy
   rw [List.getElem_drop] at e2
   have hl2 : SetTable.below xs j + k < xs.toList.length := by rw [List.length_drop] at hk; omega
   have q := z _ hl2
   rw [e2] at q
   rcases Nat.lt_or_ge y j with g | g
   ·have := q.mp g
    omega
   ·omega
theorem Es.len {es : Array (Int × Value)} {L : List Nat} (h : Es es L) : es.size = L.length := by
 have := Paired.length h
 simpa using this
theorem a7R {α β : Type} {R : α -> β -> Prop} : ∀ {xs : List α} {ys : List β} (n : Nat), Paired R xs ys -> Paired R (xs.take n) (ys.take n)
 | _, _, 0, _ => .nil
 | _, _, _ + 1, .nil => .nil
 | _, _, n + 1, .cons r t => .cons r (a7R n t)
theorem a7S {α β : Type} {R : α -> β -> Prop} : ∀ {xs : List α} {ys : List β} (n : Nat), Paired R xs ys -> Paired R (xs.drop n) (ys.drop n)
 | _, _, 0, r => r
 | _, _, _ + 1, .nil => .nil
 | _, _, n + 1, .cons _ t => a7S n t
theorem a8Z {α β : Type} {R : α -> β -> Prop} : ∀ {xs xs' : List α} {ys ys' : List β}, Paired R xs ys -> Paired R xs' ys' -> Paired R (xs ++ xs') (ys ++ ys')
 | _, _, _, _, .nil, s => s
 | _, _, _, _, .cons r t, s => .cons r (a8Z t s)
theorem a0X {α β : Type} {R : α -> β -> Prop} : ∀ {xs : List α} {ys : List β}, Paired R xs ys -> ∀ (i : Nat) (h : i < ys.length), ∃ x, xs[i]? = some x /\ R x ys[i]
 | _, _, .nil, i, h => by simp at h
 | _, _, .cons r t, 0, h => ⟨_, rfl, r⟩
 | _, _, .cons r t, i + 1, h => by
  obtain ⟨x, e, q⟩ := a0X t i (by simpa using h)
  exact ⟨x, by simpa using e, by simpa using q⟩
theorem c6W {B : Bool} {t : SetTable} {L : List Nat} {es : Array (Int × Value)} {v : Nat} {x : Value} (T : Tb B t L) (hE : Es es L) (hv : v < 16) (hn : v ∉ L) (hx : ∃ tk, x = Value.int ((v : Nat) : Int) tk) :
  ∃ t1 es1 p, layNew t es ((v : Nat) : Int) x = (es1, t1, false, false) /\ Es es1 (L.take p ++ v :: L.drop p) /\ t1.dummies = #[] /\ t1.plain = true /\ (t1.led = !B) /\ t1.mask = t.mask /\ t1.finger = t.finger /\ t1.moves = t.moves /\
   t1.place.toList.Pairwise (· < ·) /\ t1.place.size = L.length + 1 /\ (15 <= t.mask -> t1.place.toList = L.take p ++ v :: L.drop p) := by
 have main : ∃ j, j ∉ t.place.toList /\ t.freeSlot ((v : Nat) : Int) = some (j, false) /\ (15 <= t.mask -> j = v) := by
  rcases T.sh with ⟨m7, l4⟩ | ⟨m15, pe, fl⟩
  ·have lp : t.place.toList.length <= 4 := by rw [Array.length_toList, T.sz]; exact l4
   obtain ⟨j, hj, nj⟩ := c6U lp
   obtain ⟨k, hk, e⟩ := c8Y v hv j hj
   have st : t.probeStart ((v : Nat) : Int) = b7K v := by
    unfold SetTable.probeStart b7K
    rw [b2X hv, m7]
    unfold SetTable.runEnd
    have : ¬ v % (7 + 1) + 9 <= 7 := by omega
    simp only [if_neg this]
    simp
   obtain ⟨j', hj', e'⟩ := c3W (v := v) (k := k) T.dm T.up (by unfold SetTable.turns; omega) (by rw [st, m7, e]; exact nj)
   exact ⟨j', hj', e', fun c => by omega⟩
  ·have nv : v ∉ t.place.toList := by rw [pe]; exact hn
   exact ⟨v, nv, c0O T.dm hv m15 nv, fun _ => rfl⟩
 obtain ⟨j, nj, ef, ej⟩ := main
 have sz1 : (SetTable.insertAt t.place (SetTable.below t.place j) j).size = L.length + 1 := by
  have := congrArg List.length (SetTable.toList_insertAt t.place (SetTable.below t.place j) j)
  rw [Array.length_toList] at this
  rw [this, List.length_append, List.length_cons, List.length_take, List.length_drop, Array.length_toList, T.sz]
  omega
 have es1 : (SetTable.insertAt es (SetTable.below t.place j) (((v : Nat) : Int), x)).size = L.length + 1 := by
  have := congrArg List.length (SetTable.toList_insertAt es (SetTable.below t.place j) (((v : Nat) : Int), x))
  rw [Array.length_toList] at this
  rw [this, List.length_append, List.length_cons, List.length_take, List.length_drop, Array.length_toList, hE.len]
  omega
 have mk : L.length + 1 <= t.mask := by
  rcases T.sh with ⟨m7, l4⟩ | ⟨m15, pe, fl⟩ <;> omega
 refine ⟨{ t with place := SetTable.insertAt t.place (SetTable.below t.place j) j }, SetTable.insertAt es (SetTable.below t.place j) (((v : Nat) : Int), x), SetTable.below t.place j, ?_, ?_, T.dm, T.pl, T.led, rfl, rfl, rfl, c6V T.up nj, sz1, ?_⟩
 ·unfold layNew
  rw [ef]
  dsimp only
  unfold SetTable.put
  have hd : SetTable.has t.dummies j = false := by rw [T.dm]; exact b7H j
  dsimp only
  rw [hd]
  have ft : SetTable.fits { t with place := SetTable.insertAt t.place (SetTable.below t.place j) j } (SetTable.insertAt es (SetTable.below t.place j) (((v : Nat) : Int), x)).size = true := by
   unfold SetTable.fits SetTable.fill
   dsimp only
   rw [sz1, es1, T.dm]
   simp
   omega
  unfold SetTable.orStandIn
  simp only [if_false, Bool.false_eq_true]
  rw [if_pos ft, ft]
  rfl
 ·unfold Es
  rw [SetTable.toList_insertAt]
  exact a8Z (a7R _ hE) (.cons ⟨rfl, hx⟩ (a7S _ hE))
 ·intro hm
  dsimp only
  have := ej hm
  subst this
  rcases T.sh with ⟨m7, l4⟩ | ⟨m15, pe, fl⟩
  ·omega
  ·rw [SetTable.toList_insertAt, pe]
end Sm
set_option maxHeartbeats 1000000
namespace Sm
open PySem
def Owns (m : Nat) (owner : Array (Option Nat)) (L : List Nat) : Prop := owner.size = m + 1 /\ ∀ j, j <= m -> owner.getD j none = if j ∈ L then some (L.idxOf j) else none
theorem c0P {m : Nat} {owner : Array (Option Nat)} {L : List Nat} (O : Owns m owner L) {v f : Nat} (hv : v <= m) (hn : v ∉ L) : SetTable.layClean.free m owner (f + 1) v v = some v := by
 unfold SetTable.layClean.free
 obtain ⟨k, hk⟩ : ∃ k, SetTable.runEnd m v + 1 - v = k + 1 := ⟨SetTable.runEnd m v - v, by unfold SetTable.runEnd; split <;> omega⟩
 rw [hk, List.range_succ_eq_map]
 have g : owner.getD (v + 0) (some 0) = none := by
  have a := O.2 v hv
  rw [if_neg hn] at a
  have hs : v < owner.size := by rw [O.1]; omega
  simp [Array.getD, hs] at a ⊢
  exact a
 rw [List.find?_cons_of_pos (by rw [g]; rfl)]
 rfl
theorem c0Q {m : Nat} (hm : 15 <= m) : ∀ (R L : List Nat) (owner : Array (Option Nat)), Owns m owner L -> (L ++ R).Nodup -> (∀ v ∈ R, v < 16) ->
  ∃ owner', Owns m owner' (L ++ R) /\ (R.map fun v => ((v : Nat) : Int)).foldl (fun (acc : Option (Array (Option Nat) × Nat)) h => do
   let (owner, k) <- acc
   let j <- SetTable.layClean.free m owner (SetTable.turns m) (SetTable.bits h % (m + 1)) (SetTable.bits h)
   pure (owner.setIfInBounds j (some k), k + 1)) (some (owner, L.length)) = some (owner', (L ++ R).length) := by
 intro R
 induction R with
 | nil => intro L owner O _ _; exact ⟨owner, by simpa using O, by simp⟩
 | cons v R ih =>
  intro L owner O nd hlt
  have hv : v < 16 := hlt v List.mem_cons_self
  have hn : v ∉ L := fun c => by
   have := List.nodup_append.mp nd
   exact this.2.2 v c v List.mem_cons_self rfl
  have O' : Owns m (owner.setIfInBounds v (some L.length)) (L ++ [v]) := by
   refine ⟨by rw [Array.size_setIfInBounds]; exact O.1, fun j hj => ?_⟩
   have hs : v < owner.size := by rw [O.1]; omega
   have hs' : j < owner.size := by rw [O.1]; omega
   have a := O.2 j hj
   by_cases e : j = v
   ·subst e
    rw [if_pos (List.mem_append_right _ (List.mem_singleton.mpr rfl)), List.idxOf_append, if_neg hn]
    simp [Array.getD, hs]
   ·have e1 : (owner.setIfInBounds v (some L.length)).getD j none = owner.getD j none := by
     simp only [Array.getD, Array.size_setIfInBounds, hs']
     simp [Array.getElem_setIfInBounds, hs', Ne.symm e]
    rw [e1, a]
    by_cases c : j ∈ L
    ·rw [if_pos c, if_pos (List.mem_append_left _ c), List.idxOf_append, if_pos c]
    ·rw [if_neg c, if_neg]
     intro d
     rcases List.mem_append.mp d with d | d
     ·exact c d
     ·exact e (List.mem_singleton.mp d)
  obtain ⟨o2, O2, e2⟩ := ih (L ++ [v]) _ O' (by simpa using nd) (fun u hu => hlt u (List.mem_cons_of_mem _ hu))
  refine ⟨o2, by simpa using O2, ?_⟩
  rw [List.map_cons, List.foldl_cons]
  have st : (do
   let (owner, k) <- some (owner, L.length)
   let j <- SetTable.layClean.free m owner (SetTable.turns m) (SetTable.bits ((v : Nat) : Int) % (m + 1)) (SetTable.bits ((v : Nat) : Int))
   pure (owner.setIfInBounds j (some k), k + 1) : Option (Array (Option Nat) × Nat)) = some (owner.setIfInBounds v (some L.length), (L ++ [v]).length) := by
   rw [b2X hv, Nat.mod_eq_of_lt (by omega)]
   have : SetTable.turns m = (m + 14) + 1 := rfl
   rw [this]
   show (SetTable.layClean.free m owner (m + 14 + 1) v v).bind _ = _
   rw [c0P O (by omega) hn]
   simp
  rw [st]
  have e3 : (L ++ v :: R) = L ++ [v] ++ R := by simp
  rw [e3]
  exact e2
def upTo (m : Nat) (L : List Nat) : List Nat := (List.range (m + 1)).filter fun j => decide (j ∈ L)
theorem b2Y (m : Nat) (L : List Nat) : (upTo m L).Pairwise (· < ·) := List.Pairwise.filter _ List.pairwise_lt_range
theorem a7E {m : Nat} {L : List Nat} (h : ∀ v ∈ L, v <= m) {j : Nat} : j ∈ upTo m L ↔ j ∈ L := by
 unfold upTo
 rw [List.mem_filter, List.mem_range]
 constructor
 ·rintro ⟨_, b⟩; exact of_decide_eq_true b
 ·intro b; exact ⟨Nat.lt_succ_of_le (h j b), decide_eq_true b⟩
theorem a7T {L : List Nat} (h : L.Pairwise (· < ·)) : L.Nodup := h.imp fun h => Nat.ne_of_lt h
theorem a4Y {m : Nat} {L : List Nat} (h : ∀ v ∈ L, v <= m) (nd : L.Nodup) : (upTo m L).Perm L :=
 (List.perm_ext_iff_of_nodup (a7T (b2Y m L)) nd).mpr fun j => a7E h
theorem c3X {L : List Nat} (nd : L.Nodup) : L.map (fun v => L.idxOf v) = List.range L.length := by
 apply List.ext_getElem
 ·simp
 ·intro i h1 h2
  rw [List.getElem_map, List.getElem_range]
  exact List.Nodup.idxOf_getElem nd i _
theorem c3Y {α β : Type} (p : α -> Bool) (f : α -> β) : ∀ l : List α, l.filterMap (fun a => if p a = true then some (f a) else none) = (l.filter p).map f
 | [] => rfl
 | a :: r => by
  rw [List.filter_cons]
  cases e : p a with
  | true => rw [List.filterMap_cons_some (b := f a) (by rw [e]; rfl), c3Y p f r]; simp
  | false => rw [List.filterMap_cons_none (by rw [e]; rfl), c3Y p f r]; simp
theorem b4A {α β : Type} {f g : α -> Option β} : ∀ {l : List α}, (∀ a ∈ l, f a = g a) -> l.filterMap f = l.filterMap g
 | [], _ => rfl
 | a :: r, h => by
  have e := h a List.mem_cons_self
  have q := b4A (l := r) fun b hb => h b (List.mem_cons_of_mem _ hb)
  cases c : f a with
  | none => rw [List.filterMap_cons_none c, List.filterMap_cons_none (by rw [<- e]; exact c), q]
  | some b => rw [List.filterMap_cons_some c, List.filterMap_cons_some (by rw [<- e]; exact c), q]
theorem Es.hashes {es : Array (Int × Value)} {L : List Nat} (h : Es es L) : (es.map (·.1)).toList = L.map fun v => ((v : Nat) : Int) := by
 rw [Array.toList_map]
 unfold Es at h
 generalize es.toList = l at h
 induction h with
 | nil => rfl
 | cons r _ ih => rw [List.map_cons, List.map_cons, ih, r.1]
theorem Es.at {es : Array (Int × Value)} {L : List Nat} (h : Es es L) {v : Nat} (hv : v ∈ L) : ∃ e, es[L.idxOf v]? = some e /\ e.1 = ((v : Nat) : Int) /\ ∃ tk, e.2 = Value.int ((v : Nat) : Int) tk := by
 have hi := List.idxOf_lt_length_of_mem hv
 obtain ⟨x, e, q⟩ := a0X h (L.idxOf v) hi
 rw [List.getElem_idxOf hi] at q
 exact ⟨x, by simpa using e, q⟩
theorem c6X {es : Array (Int × Value)} {L : List Nat} (h : Es es L) : ∀ S : List Nat, (∀ v ∈ S, v ∈ L) -> Paired (fun e v => e.1 = ((v : Nat) : Int) /\ ∃ tk, e.2 = Value.int ((v : Nat) : Int) tk) ((S.map fun v => L.idxOf v).filterMap fun i => es[i]?) S
 | [], _ => .nil
 | v :: S, hs => by
  obtain ⟨e, a, b⟩ := h.at (hs v List.mem_cons_self)
  rw [List.map_cons, List.filterMap_cons_some a]
  exact .cons b (c6X h S fun u hu => hs u (List.mem_cons_of_mem _ hu))
theorem b2Z {es : Array (Int × Value)} {L : List Nat} {m f mv : Nat} {led plain : Bool} (hm : 15 <= m) (hE : Es es L) (nd : L.Nodup) (hlt : ∀ v ∈ L, v < 16) :
  ∃ order : Array Nat, SetTable.laid m f mv led plain (es.map (·.1)) = some ({ mask := m, place := (upTo m L).toArray, dummies := #[], finger := f, led := led, moves := mv, plain := plain }, order) /\
   Es (order.filterMap (es[·]?)) (upTo m L) /\ coversAll order es.size = true := by
 have hle : ∀ v ∈ L, v <= m := fun v hv => by have := hlt v hv; omega
 have O0 : Owns m (Array.replicate (m + 1) none) [] := ⟨by simp, fun j hj => by simp [Array.getD]⟩
 obtain ⟨ow, O, e⟩ := c0Q hm L [] _ O0 (by simpa using nd) hlt
 rw [List.nil_append] at O e
 have ec : SetTable.layClean m (es.map (·.1)) = some ow := by
  unfold SetTable.layClean
  rw [<- Array.foldl_toList, hE.hashes]
  have e' := e
  rw [List.length_nil] at e'
  show Option.map _ (List.foldl _ _ _) = _
  refine Eq.trans (congrArg (Option.map (·.1)) (Eq.trans ?_ e')) rfl
  rfl
 have lv : (List.range (m + 1)).filterMap (fun j => (ow.getD j none).map (fun k => (j, k))) = (upTo m L).map fun j => (j, L.idxOf j) := by
  unfold upTo
  rw [<- c3Y]
  apply b4A
  intro j hj
  rw [O.2 j (by have := List.mem_range.mp hj; omega)]
  by_cases c : j ∈ L
  ·simp [c]
  ·simp [c]
 refine ⟨((upTo m L).map fun j => L.idxOf j).toArray, ?_, ?_, ?_⟩
 ·unfold SetTable.laid
  rw [ec]
  show some _ = some _
  have : (List.range (m + 1)).filterMap (fun j => (ow.getD j none).map (j, ·)) = (upTo m L).map fun j => (j, L.idxOf j) := lv
  rw [this, List.map_map, List.map_map]
  have i1 : ((fun (x : Nat × Nat) => x.1) ∘ fun j => (j, L.idxOf j)) = fun j => j := rfl
  have i2 : ((fun (x : Nat × Nat) => x.2) ∘ fun j => (j, L.idxOf j)) = fun j => L.idxOf j := rfl
  rw [i1, i2, List.map_id']
 ·unfold Es
  rw [Array.toList_filterMap]
  exact c6X hE (upTo m L) fun v hv => (a7E hle).mp hv
 ·unfold coversAll
  rw [List.isPerm_iff, hE.len]
  have p := (a4Y hle nd).map fun v => L.idxOf v
  rw [c3X nd] at p
  exact p
theorem b7M {m : Nat} {L : List Nat} (h : ∀ v ∈ L, v < 16) (hm : 15 <= m) (nd : L.Nodup) : (upTo m L).length = L.length := (a4Y (fun v hv => by have := h v hv; omega) nd).length_eq
theorem a6H {n : Nat} (h : n < 2 ^ 40) : n < SetTable.sizeAbove n := by
 have go : ∀ fuel size, n < size * 2 ^ fuel -> n < SetTable.sizeAbove.go n fuel size := by
  intro fuel
  induction fuel with
  | zero => intro size h; unfold SetTable.sizeAbove.go; simpa using h
  | succ f ih =>
   intro size h
   unfold SetTable.sizeAbove.go
   split
   ·exact ih _ (by rw [Nat.pow_succ] at h; rw [Nat.mul_assoc, Nat.mul_comm 2]; exact h)
   ·omega
 exact go 64 8 (by omega)
theorem a6I {n : Nat} (h : 8 <= n) : 16 <= SetTable.sizeAbove n := by
 have go : ∀ fuel size, 16 <= size -> 16 <= SetTable.sizeAbove.go n fuel size := by
  intro fuel
  induction fuel with
  | zero => intro size h; unfold SetTable.sizeAbove.go; exact h
  | succ f ih =>
   intro size h
   unfold SetTable.sizeAbove.go
   split
   ·exact ih _ (by omega)
   ·exact h
 unfold SetTable.sizeAbove
 unfold SetTable.sizeAbove.go
 rw [if_pos h]
 exact go 63 _ (by omega)
theorem Tb.fits {B : Bool} {t : SetTable} {L : List Nat} (T : Tb B t L) : t.fits L.length = true := by
 unfold SetTable.fits SetTable.fill
 have := T.sz
 rw [T.dm]
 rcases T.sh with ⟨a, b⟩ | ⟨a, b, c⟩ <;> simp [this] <;> omega
theorem b3A {B : Bool} {L : List Nat} {m f mv : Nat} (hm : 15 <= m) (nd : L.Nodup) (hlt : ∀ v ∈ L, v < 16) (hr : L.length * 5 < m * 3) :
  Tb B { mask := m, place := (upTo m L).toArray, dummies := #[], finger := f, led := !B, moves := mv, plain := true } (upTo m L) where
 dm := rfl
 pl := rfl
 led := rfl
 up := by simpa using b2Y m L
 sz := by simp
 nd := a7T (b2Y m L)
 lt := fun v hv => hlt v ((a7E (fun v hv => by have := hlt v hv; omega)).mp hv)
 sh := .inr ⟨hm, by simp, by rw [b7M hlt hm nd]; exact hr⟩
theorem c0R {B : Bool} {t : SetTable} {es : Array (Int × Value)} {L : List Nat} {n : Nat} (hp : t.plain = true) (hl : t.led = !B) (hE : Es es L) (nd : L.Nodup) (hlt : ∀ v ∈ L, v < 16) (hn : 8 <= n) (h2 : 2 * L.length <= n) (hb : n < 2 ^ 40) :
  ∃ es' t' L', relayAll t es n = (es', t', false) /\ Es es' L' /\ Tb B t' L' /\ L'.Perm L := by
 have a1 := a6H hb
 have a2 := a6I hn
 have hm : 15 <= SetTable.sizeAbove n - 1 := by omega
 obtain ⟨order, e, hE', hc⟩ := b2Z (f := t.finger) (mv := t.movedTo (SetTable.sizeAbove n - 1)) (led := !B) (plain := true) hm hE nd hlt
 have T := b3A (B := B) (f := t.finger) (mv := t.movedTo (SetTable.sizeAbove n - 1)) hm nd hlt (by omega)
 refine ⟨_, _, _, ?_, hE', T, a4Y (fun v hv => by have := hlt v hv; omega) nd⟩
 unfold relayAll SetTable.relaid
 rw [hp, hl, e]
 dsimp only
 have z := hE'.len
 rw [hc, z, T.fits]
 rfl
end Sm
set_option maxHeartbeats 1000000
namespace Sm
open PySem
abbrev setO (es : Array (Int × Value)) (ep : Nat) (t : SetTable) : Obj := { cls := .type "set", dict := none, data := .set es ep t, slots := #[] }
def SetAt (B : Bool) (h : Heap) (a : Addr) (L : List Nat) : Prop := ∃ es ep t, h.get? a = some (setO es ep t) /\ Es es L /\ Tb B t L
def Dense (h : Heap) (a : Addr) : Prop := ∃ es ep t, h.get? a = some (setO es ep t) /\ (t.mask = 7 \/ 5 <= es.size)
theorem Dense.keep {h h' : Heap} {a : Addr} (S : Dense h a) (k : ∀ o, h.get? a = some o -> h'.get? a = some o) : Dense h' a :=
 let ⟨es, ep, t, ho, r⟩ := S; ⟨es, ep, t, k _ ho, r⟩
theorem SetAt.keep {B : Bool} {h h' : Heap} {a : Addr} {L : List Nat} (S : SetAt B h a L) (k : ∀ o, h.get? a = some o -> h'.get? a = some o) : SetAt B h' a L :=
 let ⟨es, ep, t, ho, r⟩ := S; ⟨es, ep, t, k _ ho, r⟩
theorem Tb.len {B : Bool} {t : SetTable} {L : List Nat} (T : Tb B t L) : L.length <= 16 := by
 have := b7L L (List.range 16) T.nd fun x hx => List.mem_range.mpr (T.lt x hx)
 simpa using this
theorem b7N : ∀ v : Nat, v < 16 -> hashInt ((v : Nat) : Int) = ((v : Nat) : Int) := by decide +kernel
theorem Es.elems {prog : Program} {w : World} {es : Array (Int × Value)} {L : List Nat} (h : Es es L) (lt : ∀ v ∈ L, v < 16) : ElemsOf (intKind prog w) es.toList := by
 unfold Es at h
 generalize es.toList = l at h
 induction h with
 | nil => intro e he; simp at he
 | @cons x y xs ys r _ ih =>
  intro e he
  rcases List.mem_cons.mp he with rfl | he
  ·obtain ⟨tk, e2⟩ := r.2
   refine ⟨⟨((y : Nat) : Int), ?_, ?_⟩, ?_⟩
   ·show Value.isInt _ _ = true
    rw [e2]; simp [Value.isInt]
   ·rw [r.1]; exact (b7N y (lt y List.mem_cons_self)).symm
   ·rw [e2]; rfl
  ·exact ih (fun v hv => lt v (List.mem_cons_of_mem _ hv)) e he
theorem Es.find {es : Array (Int × Value)} {L : List Nat} (h : Es es L) (v : Nat) : (es.toList.findIdx? fun e => Value.isInt ((v : Nat) : Int) e.2).isSome = decide (v ∈ L) := by
 unfold Es at h
 generalize es.toList = l at h
 induction h with
 | nil => simp
 | @cons x y xs ys r _ ih =>
  obtain ⟨tk, e2⟩ := r.2
  rw [List.findIdx?_cons, e2]
  by_cases c : v = y
  ·subst c; simp [Value.isInt]
  ·have : Value.isInt ((v : Nat) : Int) (.int ((y : Nat) : Int) tk) = false := by simp [Value.isInt]; omega
   rw [this]
   simp only [Bool.false_eq_true, if_false, Option.isSome_map]
   rw [ih]
   simp [c]
section
variable {prog : Program} {w : World} {A : Around} {E : Value -> Shared -> Prop} {s : Shared} {B : Bool} {a : Addr} {L : List Nat}
theorem c3Z {es : Array (Int × Value)} {ep : Nat} {t : SetTable} {v tk : Nat} {ad : Bool} {Q : ScanMet -> Shared -> Prop} (ho : s.heap.get? a = some (setO es ep t)) (hE : Es es L) (T : Tb B t L) (hv : v < 16)
  (h1 : v ∈ L -> ∀ j, Q (.found j) s) (h2 : v ∉ L -> Q .absent s) : wpAny (model prog w) A (setScan a (.int ((v : Nat) : Int) tk) ((v : Nat) : Int) ad es) Q E s := by
 have hf : t.fits es.size = true := by rw [hE.len]; exact T.fits
 have sc := wpAny_setScan_of (prog := prog) (w := w) (A := A) (E := E) (s := s) (knd := intKind prog w) (k := ((v : Nat) : Int)) (x := .int ((v : Nat) : Int) tk) (adding := ad) (Q := Q) (by simp [intKind, Value.isInt]) ho rfl hf (hE.elems T.lt) (by
  have q := hE.find v
  have e : (fun e : Int × Value => (intKind prog w).is ((v : Nat) : Int) e.2) = fun e => Value.isInt ((v : Nat) : Int) e.2 := rfl
  rw [e]
  cases c : es.toList.findIdx? (fun e => Value.isInt ((v : Nat) : Int) e.2) with
  | none => rw [c] at q; exact h2 (of_decide_eq_false q.symm)
  | some j => rw [c] at q; exact h1 (of_decide_eq_true q.symm) _)
 have e : (intKind prog w).hash ((v : Nat) : Int) = ((v : Nat) : Int) := b7N v hv
 rw [e] at sc
 exact sc
theorem a5Y {h : Heap} {es es' : Array (Int × Value)} {ep : Nat} {t t' : SetTable} (ho : h.get? a = some (setO es ep t)) : (h.update a (Obj.putSet es' t')).get? a = some (setO es' (ep + 1) t') := by
 have := Heap.get?_update_self (Obj.putSet es' t') ho (by rw [putSet_of es' t' rfl]; rfl)
 rw [putSet_of es' t' rfl] at this
 exact this
theorem c4A (prog : Program) (w : World) {es : Array (Int × Value)} {t : SetTable} {v tk : Nat} (hE : Es es L) (T : Tb B t L) : byScan (.int ((v : Nat) : Int) tk) es = true :=
 byScan_of (knd := intKind prog w) rfl (by rw [hE.len]; have := T.len; unfold scanBound; omega) (hE.elems T.lt)
theorem c2R {v tk : Nat} {Q : Bool -> Shared -> Prop} (S : SetAt B s.heap a L) (hv : v < 16)
  (h : ∀ b h' L', Heap.SameBut a s.heap h' -> SetAt B h' a L' -> (∀ u, u ∈ L' ↔ u = v \/ u ∈ L) -> (Dense s.heap a -> Dense h' a) -> Q b { s with heap := h' }) :
  wpAny (model prog w) A (setAddHashed a (.int ((v : Nat) : Int) tk) ((v : Nat) : Int)) Q E s := by
 obtain ⟨es, ep, t, ho, hE, T⟩ := S
 have hf : t.fits es.size = true := by rw [hE.len]; exact T.fits
 unfold setAddHashed setAddHashedIn
 refine wpAny_holding (wpAny_bind (wpAny_setState_of ho rfl hf ?_))
 dsimp only
 rw [c4A prog w hE T]
 simp only [↓reduceIte]
 unfold setAddByScan
 refine wpAny_bind ?_
 refine wpAny_bind (wpAny_rule ?_)
 refine wpAny_bind (c3Z ho hE T hv (fun hm j => ?_) fun hm => ?_)
 ·dsimp only
  refine wpAny_pure (wpAny_pure ?_)
  have q := h false s.heap L (Heap.SameBut.refl a s.heap) ⟨es, ep, t, ho, hE, T⟩ (fun u => ⟨.inr, fun c => c.elim (fun e => e ▸ hm) id⟩) id
  exact q
 ·dsimp only
  obtain ⟨t1, es1, p, e1, hE1, dm, pl, ld, mk, _, _, up, sz, own⟩ := c6W (x := .int ((v : Nat) : Int) tk) T hE hv hm ⟨tk, rfl⟩
  rw [e1]
  dsimp only
  refine wpAny_bind (wpAny_pure ?_)
  rw [pl]
  refine wpAny_bind (wpAny_pure ?_)
  simp only [↓reduceIte]
  have mem : ∀ u, u ∈ L.take p ++ v :: L.drop p ↔ u = v \/ u ∈ L := fun u => by
   rw [List.mem_append, List.mem_cons]
   have e : u ∈ L ↔ u ∈ L.take p \/ u ∈ L.drop p := by rw [<- List.mem_append, List.take_append_drop]
   rw [e]
   constructor
   ·rintro (c | c | c)
    ·exact .inr (.inl c)
    ·exact .inl c
    ·exact .inr (.inr c)
   ·rintro (c | c | c)
    ·exact .inr (.inl c)
    ·exact .inl c
    ·exact .inr (.inr c)
  have nd1 : (L.take p ++ v :: L.drop p).Nodup := by
   have pm : (L.take p ++ v :: L.drop p).Perm (v :: L) := by
    have : L.take p ++ L.drop p = L := List.take_append_drop p L
    exact List.perm_middle.trans (by rw [this])
   exact pm.nodup_iff.mpr (List.nodup_cons.mpr ⟨hm, T.nd⟩)
  have lt1 : ∀ u ∈ L.take p ++ v :: L.drop p, u < 16 := fun u hu => ((mem u).mp hu).elim (fun e => e ▸ hv) (T.lt u)
  have ln1 : (L.take p ++ v :: L.drop p).length = L.length + 1 := by
   rw [List.length_append, List.length_cons, List.length_take, List.length_drop]; omega
  have fl : t1.fill = L.length + 1 := by unfold SetTable.fill; rw [dm, sz]; rfl
  have l16 := T.len
  have z1 : es1.size = L.length + 1 := by rw [hE1.len, ln1]
  refine wpAny_bind (wpAny_storeSet_of ho rfl ?_ (by rw [z1, sizeLine_eq]; omega))
  have ho1 := a5Y (es' := es1) (t' := t1) ho
  cases tf : t1.tooFull with
  | false =>
   simp only [Bool.not_false, Bool.and_false, Bool.false_eq_true, if_false]
   refine wpAny_pure (wpAny_pure ?_)
   refine h true _ _ (Heap.SameBut.update ..) ⟨es1, ep + 1, t1, ho1, hE1, ⟨dm, pl, ld, up, by rw [ln1, sz], nd1, lt1, ?_⟩⟩ mem (fun ⟨es0, ep0, t0, ho0, d⟩ => ⟨es1, ep + 1, t1, ho1, by
    rw [ho] at ho0; cases ho0
    rw [mk, z1]; have := hE.len; omega⟩)
   unfold SetTable.tooFull at tf
   have tf' := of_decide_eq_false tf
   rw [fl, mk] at tf'
   rw [ln1, mk]
   rcases T.sh with ⟨m7, l4⟩ | ⟨m15, pe, _⟩
   ·refine .inl ⟨m7, by omega⟩
   ·exact .inr ⟨m15, own m15, by omega⟩
  | true =>
   simp only [Bool.not_false, Bool.and_self, if_true]
   unfold SetTable.tooFull at tf
   have tf' := of_decide_eq_true tf
   rw [fl, mk] at tf'
   have five : 5 <= L.length + 1 := by
    rcases T.sh with ⟨m7, l4⟩ | ⟨m15, pe, _⟩ <;> omega
   have gr : SetTable.grown es1.size = (L.length + 1) * 4 := by
    unfold SetTable.grown
    rw [z1, if_neg (by omega)]
   obtain ⟨es2, t2, L2, e2, hE2, T2, pm⟩ := c0R (t := t1) (n := SetTable.grown es1.size) pl ld hE1 nd1 lt1 (by rw [gr]; omega) (by rw [gr, ln1]; omega) (by rw [gr]; omega)
   rw [e2]
   dsimp only
   refine wpAny_bind (wpAny_pure ?_)
   refine wpAny_bind (wpAny_storeSet_of ho1 rfl ?_ (by rw [hE2.len, pm.length_eq, ln1, sizeLine_eq]; omega))
   refine wpAny_pure (wpAny_pure ?_)
   exact h true _ L2 ((Heap.SameBut.update ..).trans (Heap.SameBut.update ..)) ⟨es2, _, t2, a5Y ho1, hE2, T2⟩ (fun u => (pm.mem_iff).trans (mem u)) fun _ => ⟨es2, _, t2, a5Y ho1, .inr (by rw [hE2.len, pm.length_eq, ln1]; exact five)⟩
end
end Sm
set_option maxHeartbeats 2000000
namespace Sm
open PySem
abbrev byT (w : World) : Bool := w.params.followText "set-order"
theorem a9A {α : Type} : ∀ (l : List α) (i : Nat) (h : i < l.length), (l[i] :: l.eraseIdx i).Perm l
 | _ :: r, 0, _ => .refl _
 | x :: r, i + 1, h => by
  have q := a9A r i (by simpa using h)
  rw [List.getElem_cons_succ, List.eraseIdx_cons_succ]
  exact (List.Perm.swap x (r[i]'(by simpa using h)) (r.eraseIdx i)).trans (q.cons x)
theorem c4B {α : Type} (nx : Nat -> Nat) : ∀ (fuel k : Nat) (left : List α) (out : Array α), left.length <= fuel -> (pickOrder.go nx fuel k left out).toList.Perm (out.toList ++ left) := by
 intro fuel
 induction fuel with
 | zero =>
  intro k left out h
  have : left = [] := List.length_eq_zero_iff.mp (by omega)
  subst this
  unfold pickOrder.go
  simp
 | succ f ih =>
  intro k left out h
  unfold pickOrder.go
  by_cases c : left = []
  ·subst c; simp
  ·have pos : 0 < left.length := List.length_pos_iff.mpr c
   have lt := Nat.mod_lt (nx k) pos
   rw [List.getElem?_eq_getElem lt]
   dsimp only
   refine (ih (k + 1) _ _ (by rw [List.length_eraseIdx]; split <;> omega)).trans ?_
   rw [Array.toList_push, List.append_assoc]
   exact List.Perm.append_left _ (a9A left _ lt)
theorem b1E {α : Type} (nx : Nat -> Nat) (xs : Array α) : (pickOrder nx xs).toList.Perm xs.toList := by
 have := c4B nx xs.size 0 xs.toList #[] (by simp)
 unfold pickOrder
 simpa using this
theorem b7O (a : Addr) : setWalk a = (do
 let (xs, c, tb) <- setState a
 if <- setsByText then
  let q <- ask
  return pickOrder (q.params.setOrder a c) xs
 if !tb.plain && xs.size > 1 then return (<- drawOrder xs.size xs.toList).toArray
 (do if !tb.led && xs.size > 1 then unsupported "set:maker-not-led" : Sem Unit)
 return xs) := rfl
theorem Es.perm {es : Array (Int × Value)} {L : List Nat} (h : Es es L) {es' : List (Int × Value)} (p : es'.Perm es.toList) : ∃ L', Paired (fun e v => e.1 = ((v : Nat) : Int) /\ ∃ tk, e.2 = Value.int ((v : Nat) : Int) tk) es' L' /\ L'.Perm L := by
 refine ⟨es'.map fun e => e.1.toNat, ?_, ?_⟩
 ·have all : ∀ e ∈ es.toList, ∃ v : Nat, e.1 = ((v : Nat) : Int) /\ ∃ tk, e.2 = Value.int ((v : Nat) : Int) tk := by
   unfold Es at h
   generalize es.toList = l at h
   clear p
   induction h with
   | nil => intro e he; simp at he
   | cons r _ ih =>
    intro e he
    rcases List.mem_cons.mp he with rfl | he
    ·exact ⟨_, r⟩
    ·exact ih e he
  have all' : ∀ e ∈ es', ∃ v : Nat, e.1 = ((v : Nat) : Int) /\ ∃ tk, e.2 = Value.int ((v : Nat) : Int) tk := fun e he => all e (p.mem_iff.mp he)
  clear p
  induction es' with
  | nil => exact .nil
  | cons e r ih =>
   obtain ⟨v, e1, e2⟩ := all' e List.mem_cons_self
   rw [List.map_cons]
   refine .cons ?_ (ih fun x hx => all' x (List.mem_cons_of_mem _ hx))
   rw [e1]
   exact ⟨rfl, e2⟩
 ·refine (p.map fun e => e.1.toNat).trans ?_
  unfold Es at h
  generalize es.toList = l at h
  have : l.map (fun e => e.1.toNat) = L := by
   induction h with
   | nil => rfl
   | cons r _ ih => rw [List.map_cons, ih, r.1]; rfl
  rw [this]
section
variable {prog : Program} {w : World} {A : Around} {E : Value -> Shared -> Prop} {s : Shared} {a : Addr} {L : List Nat}
theorem a1Y {es : Array (Int × Value)} {ep : Nat} {t : SetTable} {B : Bool} {Q : (Array (Int × Value) × Nat × SetTable) -> Shared -> Prop} (ho : s.heap.get? a = some (setO es ep t)) (hE : Es es L) (T : Tb B t L) (h : Q (es, ep, t) s) :
  wpAny (model prog w) A (setState a) Q E s := wpAny_setState_of ho rfl (by rw [hE.len]; exact T.fits) h
theorem a3J {Q : Bool -> Shared -> Prop} (h : Q (byT w) s) : wpAny (model prog w) A setsByText Q E s := by
 unfold setsByText
 exact wpAny_bind (wpAny_askSetting (wpAny_pure h))
theorem c4C {es : Array (Int × Value)} {ep : Nat} {t : SetTable} {Q : Array (Int × Value) -> Shared -> Prop} (ho : s.heap.get? a = some (setO es ep t)) (hE : Es es L) (T : Tb (byT w) t L)
  (h : ∀ es', es'.toList.Perm es.toList -> Q es' s) : wpAny (model prog w) A (setWalk a) Q E s := by
 rw [b7O]
 refine wpAny_bind (a1Y ho hE T ?_)
 refine wpAny_bind (a3J ?_)
 have pl := T.pl
 have ld := T.led
 cases c : byT w with
 | true =>
  simp only [if_true]
  exact wpAny_bind (wpAny_askSetting (wpAny_pure (h _ (b1E _ _))))
 | false =>
  rw [c] at ld
  simp only [pl, ld, Bool.not_true, Bool.not_false, Bool.false_and, Bool.false_eq_true, if_false]
  first | exact wpAny_bind (wpAny_pure (wpAny_pure (h _ .rfl))) | exact wpAny_pure (h _ .rfl)
theorem b7P {es : Array (Int × Value)} {ep : Nat} {t : SetTable} {others : List Addr} {f : Option Addr} {Q : Array (Int × Value) -> Shared -> Prop} (ho : s.heap.get? a = some (setO es ep t)) (hE : Es es L) (T : Tb (byT w) t L)
  (h : ∀ es', es'.toList.Perm es.toList -> Q es' s) : wpAny (model prog w) A (setWalkUnseen a others f) Q E s := by
 unfold setWalkUnseen
 refine wpAny_bind (a1Y ho hE T ?_)
 refine wpAny_bind (a3J ?_)
 have e : (byT w || (t.led && t.plain) || decide (es.size <= 1)) = true := by rw [T.led, T.pl]; cases byT w <;> rfl
 dsimp only
 rw [if_pos e]
 exact c4C ho hE T h
def c0S (es : Array (Int × Value)) (laid : Option (SetTable × Array Nat)) : Sem (Array (Int × Value) × SetTable) := do
 let some (t, order) := laid
  | unsupported "internal:set-table-without-room"
 if (order.filterMap (es[·]?)).size != es.size then unsupported "internal:set-table-lost-an-element"
 pure (order.filterMap (es[·]?), t)
theorem c0T (a : Addr) (n : Nat) : setRelay a n = (do
 let (es, _, t) <- setState a
 if SetTable.sizeAbove n > sizeLine then unsupported "set:memory"
 let (es, t) <- c0S es (t.relaid (es.map (·.1)) n)
 storeSet a es t) := rfl
theorem b4B {es : Array (Int × Value)} {t : SetTable} {order : Array Nat} {S : List Nat} {Q : Array (Int × Value) × SetTable -> Shared -> Prop} (hE' : Es (order.filterMap (es[·]?)) S) (hz : es.size = S.length) (h : Q (order.filterMap (es[·]?), t) s) :
  wpAny (model prog w) A (c0S es (some (t, order))) Q E s := by
 unfold c0S
 dsimp only
 have e : ((order.filterMap (es[·]?)).size != es.size) = false := by rw [hE'.len, hz]; simp
 simp only [e, Bool.false_eq_true, if_false]
 first | exact wpAny_bind (wpAny_pure (wpAny_pure h)) | exact wpAny_pure h
theorem c0U {n : Nat} (h : n <= 64) : SetTable.sizeAbove n <= 128 := by
 have : ∀ n, n <= 64 -> SetTable.sizeAbove n <= 128 := by decide +kernel
 exact this n h
theorem c4D {more : Nat} {Q : Unit -> Shared -> Prop} {B : Bool} (S : SetAt B s.heap a L) (hm : more <= 16)
  (h : ∀ h' es ep t L', Heap.SameBut a s.heap h' -> h'.get? a = some (setO es ep t) -> Es es L' -> Tb B t L' -> L'.Perm L -> (L.length + more) * 5 < t.mask * 3 -> Q () { s with heap := h' }) : wpAny (model prog w) A (setRoomFor a more) Q E s := by
 obtain ⟨es, ep, t, ho, hE, T⟩ := S
 unfold setRoomFor
 refine wpAny_bind (a1Y ho hE T ?_)
 have fl : t.fill = L.length := by unfold SetTable.fill; rw [T.dm, T.sz]; rfl
 have l16 := T.len
 unfold SetTable.roomFor
 dsimp only
 rw [fl, T.sz]
 by_cases c : (L.length + more) * 5 ≥ t.mask * 3
 ·rw [if_pos c]
  dsimp only
  rw [c0T]
  refine wpAny_bind (a1Y ho hE T ?_)
  have five : 5 <= L.length + more := by
   rcases T.sh with ⟨m7, _⟩ | ⟨m15, _, _⟩ <;> omega
  have b1 := a6H (n := (L.length + more) * 2) (by omega)
  have b2 := a6I (n := (L.length + more) * 2) (by omega)
  have b3 := c0U (n := (L.length + more) * 2) (by omega)
  dsimp only
  rw [if_neg (by rw [sizeLine_eq]; omega)]
  have hm' : 15 <= SetTable.sizeAbove ((L.length + more) * 2) - 1 := by omega
  obtain ⟨order, e, hE', hc⟩ := b2Z (f := t.finger) (mv := t.movedTo (SetTable.sizeAbove ((L.length + more) * 2) - 1)) (led := t.led) (plain := t.plain) hm' hE T.nd T.lt
  unfold SetTable.relaid
  rw [e]
  have lz := b7M T.lt hm' T.nd
  refine wpAny_bind (b4B hE' (by rw [hE.len, lz]) ?_)
  refine wpAny_storeSet_of ho rfl ?_ (by rw [hE'.len, lz, sizeLine_eq]; omega)
  have T' := b3A (B := B) (f := t.finger) (mv := t.movedTo (SetTable.sizeAbove ((L.length + more) * 2) - 1)) hm' T.nd T.lt (by omega)
  rw [<- T.led, <- T.pl] at T'
  exact h _ _ _ _ _ (Heap.SameBut.update ..) (a5Y ho) hE' T' (a4Y (fun v hv => by have := T.lt v hv; omega) T.nd) (by show _ < (SetTable.sizeAbove ((L.length + more) * 2) - 1) * 3; omega)
 ·rw [if_neg c]
  refine wpAny_pure ?_
  exact h s.heap es ep t L (Heap.SameBut.refl a s.heap) ho hE T .rfl (by omega)
end
end Sm
set_option maxHeartbeats 2000000
namespace Sm
open PySem
theorem c0V (sA oA : Addr) (each : Sem Unit) : setMerge sA oA each = (do
 if sA == oA then return
 let (eo, epoch, to) <- setState oA
 if eo.isEmpty then return
 setRoomFor sA eo.size
 let (_, _, ts) <- setState sA
 match ts.road to with
 | .slotForSlot =>
  storeSet sA eo { to with finger := ts.finger, led := ts.led && to.led, moves := ts.moves, plain := ts.plain && to.plain }
 | .clean =>
  let (es, t) <- c0S eo (SetTable.laid ts.mask ts.finger ts.moves (ts.led && to.led) (ts.plain && to.plain) (eo.map (·.1)))
  storeSet sA es t
 | .oneByOne =>
  for (h, x) in <- setWalkUnseen oA [sA] (some sA) do
   let _ <- holding [x] (setAddHashed sA x h)
   each
   if (<- setState oA).2.1 != epoch then unsupported "set.changed-during-merge") := rfl
section
variable {prog : Program} {w : World} {A : Around} {E : Value -> Shared -> Prop} {s : Shared} {sA oA : Addr} {L1 L2 : List Nat}
theorem b4C {each : Sem Unit} {Q : Unit -> Shared -> Prop} (ne : sA ≠ oA) (S1 : SetAt (byT w) s.heap sA L1) (S2 : SetAt (byT w) s.heap oA L2) (D : Dense s.heap oA)
  (he : ∀ (s' : Shared) (Q' : Unit -> Shared -> Prop), (∀ o, s.heap.get? oA = some o -> s'.heap.get? oA = some o) -> Q' () s' -> wpAny (model prog w) A each Q' E s')
  (h : ∀ h' L, Heap.SameBut sA s.heap h' -> SetAt (byT w) h' sA L -> (∀ u, u ∈ L ↔ u ∈ L1 \/ u ∈ L2) -> Q () { s with heap := h' }) : wpAny (model prog w) A (setMerge sA oA each) Q E s := by
 obtain ⟨eo, ep, to, ho, hE, T⟩ := S2
 rw [c0V]
 have nb : (sA == oA) = false := beq_eq_false_iff_ne.mpr ne
 rw [nb]
 simp only [Bool.false_eq_true, if_false]
 refine wpAny_bind (a1Y ho hE T ?_)
 dsimp only
 have hz := hE.len
 have l16 := T.len
 by_cases c : eo.isEmpty = true
 ·rw [if_pos c]
  have l0 : L2.length = 0 := by rw [<- hz]; simpa using c
  have : L2 = [] := List.length_eq_zero_iff.mp l0
  subst this
  exact wpAny_pure (h s.heap L1 (Heap.SameBut.refl _ _) S1 fun u => by simp)
 rw [if_neg c]
 refine wpAny_bind (c4D S1 (by omega) fun h1 es1 ep1 t1 L1' sb1 ho1 hE1 T1 pm hr => ?_)
 have ho' : h1.get? oA = some (setO eo ep to) := by rw [sb1.2 oA (Ne.symm ne)]; exact ho
 refine wpAny_bind (a1Y (s := { s with heap := h1 }) ho1 hE1 T1 ?_)
 dsimp only
 have fl : t1.fill = L1'.length := by unfold SetTable.fill; rw [T1.dm, T1.sz]; rfl
 unfold SetTable.road
 rw [fl, pm.length_eq]
 have ld : (t1.led && to.led) = !byT w := by rw [T1.led, T.led]; simp
 have pl : (t1.plain && to.plain) = true := by rw [T1.pl, T.pl]; rfl
 by_cases e0 : L1.length = 0
 ·have n1 : L1 = [] := List.length_eq_zero_iff.mp e0
  have nb : (L1.length != 0) = false := by rw [e0]; rfl
  rw [nb]
  simp only [Bool.false_eq_true, if_false]
  have dmt : to.dummies.isEmpty = true := by rw [T.dm]; rfl
  by_cases em : t1.mask = to.mask
  ·have : (t1.mask == to.mask && to.dummies.isEmpty) = true := by rw [em, dmt]; simp
   rw [this]
   simp only [if_true]
   refine wpAny_storeSet_of (s := { s with heap := h1 }) ho1 rfl ?_ (by rw [hz, sizeLine_eq]; omega)
   refine h _ L2 (sb1.trans (Heap.SameBut.update ..)) ⟨eo, _, _, a5Y ho1, hE, ⟨T.dm, pl, ld, T.up, T.sz, T.nd, T.lt, T.sh⟩⟩ fun u => by rw [n1]; simp
  ·have : (t1.mask == to.mask && to.dummies.isEmpty) = false := by rw [beq_eq_false_iff_ne.mpr em]; rfl
   rw [this]
   simp only [Bool.false_eq_true, if_false]
   have m15 : 15 <= t1.mask := by
    obtain ⟨es0, ep0, t0, ho0, d⟩ := D
    rw [ho] at ho0
    cases ho0
    rcases T1.sh with ⟨m7, _⟩ | ⟨m15, _⟩
    ·rw [m7] at hr
     rcases d with d | d
     ·exact absurd (m7.trans d.symm) em
     ·rw [hz] at hr; omega
    ·exact m15
   obtain ⟨order, e, hE', hc⟩ := b2Z (f := t1.finger) (mv := t1.moves) (led := t1.led && to.led) (plain := t1.plain && to.plain) m15 hE T.nd T.lt
   rw [e]
   have lz := b7M T.lt m15 T.nd
   refine wpAny_bind (b4B hE' (by rw [hz, lz]) ?_)
   refine wpAny_storeSet_of (s := { s with heap := h1 }) ho1 rfl ?_ (by rw [hE'.len, lz, sizeLine_eq]; omega)
   have T' := b3A (B := byT w) (f := t1.finger) (mv := t1.moves) m15 T.nd T.lt (by rw [hz] at hr; omega)
   rw [<- ld, <- pl] at T'
   refine h _ _ (sb1.trans (Heap.SameBut.update ..)) ⟨_, _, _, a5Y ho1, hE', ?_⟩ fun u => ?_
   ·rw [ld] at T' ⊢
    exact T'
   ·rw [n1, a7E (fun v hv => by have := T.lt v hv; omega)]; simp
 ·have nb : (L1.length != 0) = true := by simp [e0]
  rw [nb]
  simp only [if_true]
  refine wpAny_bind (b7P (s := { s with heap := h1 }) ho' hE T fun es' pe => ?_)
  obtain ⟨R, hR, pR⟩ := hE.perm pe
  refine wpAny_bind ?_
  rw [<- Array.forIn_toList]
  refine wpAny_forIn_list _ (fun rest _ s' => ∃ h' L R, s' = { s with heap := h' } /\ Heap.SameBut sA s.heap h' /\ SetAt (byT w) h' sA L /\ Paired (fun (e : Int × Value) (v : Nat) => e.1 = ((v : Nat) : Int) /\ ∃ tk, e.2 = Value.int ((v : Nat) : Int) tk) rest R /\
   (∀ v ∈ R, v < 16) /\ ∀ u, (u ∈ L \/ u ∈ R) ↔ (u ∈ L1 \/ u ∈ L2)) _ ?_ ?_ _ _ ⟨h1, L1', R, rfl, sb1, ⟨es1, ep1, t1, ho1, hE1, T1⟩, hR, fun v hv => T.lt v (pR.mem_iff.mp hv), fun u => by rw [pm.mem_iff, pR.mem_iff]⟩
  ·rintro ⟨hh, x⟩ rest b s' ⟨h', L, R', rfl, sb, S, hP, lt, mem⟩
   cases hP with
   | @cons _ v _ R'' r t =>
    obtain ⟨e1, tk, e2⟩ := r
    dsimp only at e1 e2
    subst e1; subst e2
    dsimp only
    refine wpAny_bind (wpAny_holding (c2R (s := { s with heap := h' }) S (lt v List.mem_cons_self) fun b2 h2 L' sb2 S' mem' _ => ?_))
    have sb3 := sb.trans sb2
    have oo : h2.get? oA = some (setO eo ep to) := by rw [sb3.2 oA (Ne.symm ne)]; exact ho
    refine wpAny_bind (he _ _ (fun o q => by rw [ho] at q; cases q; exact oo) ?_)
    refine wpAny_bind (a1Y (s := { s with heap := h2 }) oo hE T ?_)
    simp only [bne_self_eq_false, Bool.false_eq_true, if_false]
    refine wpAny_pure ⟨h2, L', R'', rfl, sb3, S', t, fun u hu => lt u (List.mem_cons_of_mem _ hu), fun u => ?_⟩
    rw [mem' u, <- mem u, List.mem_cons]
    constructor
    ·rintro ((q | q) | q)
     ·exact .inr (.inl q)
     ·exact .inl q
     ·exact .inr (.inr q)
    ·rintro (q | q | q)
     ·exact .inl (.inr q)
     ·exact .inl (.inl q)
     ·exact .inr q
  ·rintro b s' ⟨h', L, R', rfl, sb, S, hP, lt, mem⟩
   cases hP
   exact wpAny_pure (h h' L sb S fun u => by rw [<- mem u]; simp)
end
end Sm
set_option maxHeartbeats 2000000
namespace Sm
open PySem PySem.Builtin.Frozenset
theorem b7Q : isSubtype (.type "set") (.type "set") = pure true := by rw [isSubtype_type]; kernel_rfl
theorem c0W : entryFor table "set.__or__" = some Builtin.«frozenset.__or__» := entryFor_alias (id' := "frozenset.__or__") (by kernel_rfl) rfl (by decide +kernel) (by kernel_rfl)
theorem b5Q : entryFor table "set.__iter__" = some Builtin.«frozenset.__iter__» := entryFor_alias (id' := "frozenset.__iter__") (by kernel_rfl) rfl (by decide +kernel) (by kernel_rfl)
def b4D (id : String) (l : Addr) (r : Value) : Sem Value := do
 let result <- copyOf l
 if r != .ref l then
  let q <- addrOf result
  holding [result] (updateFrom id q r)
 return result
theorem c8Z (x y : Value) : Builtin.«frozenset.__or__» ⟨[x, y], []⟩ = (do
 let (self, other) <- slot1 "__or__" ⟨[x, y], []⟩
 if !(<- isAnySet self <&&> isAnySet other) then
  rule s!"frozenset.{"__or__"}.declined"
  return <- ret .notImplemented
 ret (<- b4D s!"frozenset.{"__or__"}" (<- addrOf self) other)) := rfl
section
variable {prog : Program} {w : World} {A : Around} {E : Value -> Shared -> Prop} {s : Shared} {a b : Addr} {L1 L2 : List Nat}
theorem b4E (B : Bool) : Tb B (.fresh 0 0 (!B)) [] := ⟨rfl, rfl, rfl, .nil, rfl, .nil, fun v h => by simp at h, .inl ⟨rfl, by simp⟩⟩
theorem c6Y {Q : Value -> Shared -> Prop} (h : Q (.ref s.heap.objs.size) { s with heap := s.heap.push (setO #[] 0 (.fresh 0 0 (!byT w))) }) : wpAny (model prog w) A (newSet (.type "set")) Q E s := by
 unfold newSet
 refine wpAny_bind (a3J ?_)
 dsimp only
 simp only [newObj]
 exact wpAny_bind (wpAny_alloc (wpAny_pure h))
theorem SetAt.type {B : Bool} (S : SetAt B s.heap a L1) : s.TypeIs (.ref a) "set" := let ⟨_, _, _, ho, _⟩ := S; ⟨_, ho, rfl⟩
theorem b7R {B : Bool} {Q : Bool -> Shared -> Prop} (S : SetAt B s.heap a L1) (h : Q true s) : wpAny (model prog w) A (isAnySet (.ref a)) Q E s := by
 unfold isAnySet orM
 refine wpAny_bind (wpAny_isInstance S.type b7Q ?_)
 exact wpAny_pure h
theorem c4E {Q : Value -> Shared -> Prop} (S : SetAt (byT w) s.heap a L1) (D : Dense s.heap a)
  (h : ∀ h' L, (∀ b o, s.heap.get? b = some o -> h'.get? b = some o) -> SetAt (byT w) h' s.heap.objs.size L -> (∀ u, u ∈ L ↔ u ∈ L1) -> Q (.ref s.heap.objs.size) { s with heap := h' }) : wpAny (model prog w) A (copyOf a) Q E s := by
 unfold copyOf baseOf
 refine wpAny_bind (wpAny_bind (wpAny_isInstance S.type b7Q (wpAny_pure ?_)))
 simp only [if_true]
 refine wpAny_bind (c6Y ?_)
 show wpAny _ _ (do setMerge s.heap.objs.size a; pure (Value.ref s.heap.objs.size)) _ _ _
 have lt : a < s.heap.objs.size := by
  obtain ⟨_, _, _, ho, _⟩ := S
  exact Heap.lt_size ho
 have k : ∀ b o, s.heap.get? b = some o -> (s.heap.push (setO #[] 0 (.fresh 0 0 (!byT w)))).get? b = some o := fun b o e => Heap.get?_push_of_some _ e
 refine wpAny_bind (b4C (s := { s with heap := s.heap.push (setO #[] 0 (.fresh 0 0 (!byT w))) }) (L1 := []) (Nat.ne_of_gt lt) ⟨#[], 0, _, Heap.get?_push_size _ rfl, .nil, b4E _⟩ (S.keep (k a)) (D.keep (k a)) (fun s' Q' _ q => wpAny_pure q) fun h' L sb S' mem => ?_)
 refine wpAny_pure (h h' L (fun b o e => ?_) S' fun u => by rw [mem u]; simp)
 have lb := Heap.lt_size e
 rw [sb.2 b (Nat.ne_of_lt lb)]
 exact k b o e
theorem a9R {es : Array (Int × Value)} {ep : Nat} {t : SetTable} {B : Bool} {Q : Nat -> Shared -> Prop} (ho : s.heap.get? a = some (setO es ep t)) (hE : Es es L1) (T : Tb B t L1) (h : Q ep s) : wpAny (model prog w) A (setEpoch a) Q E s :=
 wpAny_setEpoch_of ho rfl (by rw [hE.len]; exact T.fits) h
theorem c0X {id : String} {Q : Value -> Shared -> Prop} (ne : a ≠ b) (S1 : SetAt (byT w) s.heap a L1) (D1 : Dense s.heap a) (S2 : SetAt (byT w) s.heap b L2) (D2 : Dense s.heap b)
  (h : ∀ h' L, (∀ b o, s.heap.get? b = some o -> h'.get? b = some o) -> SetAt (byT w) h' s.heap.objs.size L -> (∀ u, u ∈ L ↔ u ∈ L1 \/ u ∈ L2) -> Q (.ref s.heap.objs.size) { s with heap := h' }) :
  wpAny (model prog w) A (b4D id a (.ref b)) Q E s := by
 unfold b4D
 refine wpAny_bind (c4E S1 D1 fun h1 L k S mem => ?_)
 have nb : (Value.ref b != Value.ref a) = true := by simp [Ne.symm ne]
 rw [nb]
 simp only [if_true]
 have S2' := S2.keep (k b)
 have D2' := D2.keep (k b)
 have lt : b < s.heap.objs.size := by
  obtain ⟨_, _, _, ho, _⟩ := S2
  exact Heap.lt_size ho
 have S2c := S2'
 obtain ⟨es, ep, t, ho, hE, T⟩ := S2c
 show wpAny _ _ (holding [Value.ref s.heap.objs.size] (updateFrom id s.heap.objs.size (.ref b)) >>= fun _ => pure (Value.ref s.heap.objs.size)) _ _ _
 refine wpAny_bind (wpAny_holding ?_)
 unfold updateFrom
 refine wpAny_bind (b7R (s := { s with heap := h1 }) S2' ?_)
 simp only [if_true]
 show wpAny _ _ (merge id s.heap.objs.size b) _ _ _
 unfold merge
 refine wpAny_bind (a9R (s := { s with heap := h1 }) ho hE T ?_)
 refine b4C (s := { s with heap := h1 }) (Nat.ne_of_gt lt) S S2' D2' (fun s' Q' ks q => ?_) fun h' L' sb S' mem' => ?_
 ·unfold unchanged
  refine wpAny_bind (a9R (s := s') (ks _ ho) hE T ?_)
  simp only [bne_self_eq_false, Bool.false_eq_true, if_false]
  exact wpAny_pure q
 ·refine wpAny_pure (h h' L' (fun c o e => ?_) S' fun u => by rw [mem' u, mem u])
  rw [sb.2 c (Nat.ne_of_lt (Heap.lt_size e))]
  exact k c o e
theorem c9A {Q : Value -> Shared -> Prop} (ne : a ≠ b) (S1 : SetAt (byT w) s.heap a L1) (D1 : Dense s.heap a) (S2 : SetAt (byT w) s.heap b L2) (D2 : Dense s.heap b)
  (h : ∀ h' L, (∀ b o, s.heap.get? b = some o -> h'.get? b = some o) -> SetAt (byT w) h' s.heap.objs.size L -> (∀ u, u ∈ L ↔ u ∈ L1 \/ u ∈ L2) -> Q (.ref s.heap.objs.size) { s with heap := h' }) :
  wpAny (model prog w) A (binaryOp .BitOr (.ref a) (.ref b)) Q E s := by
 refine wpAny_binaryOp_same S1.type S2.type F.fills_set_or F.slot_set_or (wpAny_call_entry F.slot_set_or S1.type c0W ?_ (F.args_set_or_2 _ _))
 rw [c8Z]
 refine wpAny_bind (m := slot1 "__or__" _) (wpAny_pure ?_)
 dsimp only
 unfold andM
 refine wpAny_bind (wpAny_bind (b7R S1 ?_))
 refine b7R S2 ?_
 simp only [Bool.not_true, Bool.false_eq_true, if_false]
 show wpAny _ _ (b4D _ a (.ref b) >>= fun v => ret v) _ _ _
 refine wpAny_bind (c0X ne S1 D1 S2 D2 fun h' L k S mem => ?_)
 exact wpAny_pure ⟨_, rfl, by simp, h h' L k S mem⟩
end
end Sm
set_option maxHeartbeats 4000000
namespace Sm
open PySem
theorem slot_si_next : Slot "set_iterator" "__next__" "set_iterator.__next__" := .of (owner := "set_iterator") (n := "__next__") (by rw [typeLookup_type, builtinLookup_eq_fast]; kernel_rfl) (by decide +kernel) (by decide +kernel) (by decide +kernel) (by first | exact .inl (by decide +kernel) | exact .inr (by decide +kernel)) (by rw [isSubtype_type]; kernel_rfl)
theorem a4Z : entryFor table "set_iterator.__next__" = some Builtin.«set_iterator.__next__» := entryFor_of_fast (by kernel_rfl)
theorem a6J (a : Value) : argsOk "set_iterator.__next__" ⟨[a], []⟩ := by unfold argsOk; kernel_rfl
theorem a6K : Slot "set_iterator" "__iter__" "set_iterator.__iter__" := .of (owner := "set_iterator") (n := "__iter__") (by rw [typeLookup_type, builtinLookup_eq_fast]; kernel_rfl) (by decide +kernel) (by decide +kernel) (by decide +kernel) (by first | exact .inl (by decide +kernel) | exact .inr (by decide +kernel)) (by rw [isSubtype_type]; kernel_rfl)
theorem b1F (a : Value) : argsOk "set_iterator.__iter__" ⟨[a], []⟩ := by unfold argsOk; kernel_rfl
end Sm
set_option maxHeartbeats 4000000
namespace Sm
open PySem
theorem a9S : entryFor table "set_iterator.__iter__" = some Builtin.«dict_keyiterator.__iter__» := entryFor_alias (id' := "dict_keyiterator.__iter__") (by kernel_rfl) rfl (by decide +kernel) (by kernel_rfl)
def a2F (w : World) (a : Addr) (ep : Nat) (es : Array (Int × Value)) : Array (Int × Value) := if byT w = true then pickOrder (w.params.setOrder a ep) es else es
theorem a7U (w : World) (a : Addr) (ep : Nat) (es : Array (Int × Value)) : (a2F w a ep es).toList.Perm es.toList := by
 unfold a2F
 split
 ·exact b1E _ _
 ·exact .rfl
theorem a2X (w : World) (a : Addr) (ep : Nat) (es : Array (Int × Value)) : (a2F w a ep es).size = es.size := by
 have := (a7U w a ep es).length_eq
 simpa using this
theorem c4F (a : Addr) (slot given epochThen : Nat) : setNext a slot given epochThen = (do
 let (xs, c, tb) <- setState a
 if <- setsByText then
  if c != epochThen then
   unsupported "set_iterator.__next__:elements-changed"
  let zs <- setWalk a
  return (zs[given]?).map fun z => (z.2, slot)
 if !tb.plain && xs.size > 1 then
  unsupported "set_iterator.__next__:the-table-is-plain-no-more"
 (do if !tb.led && !xs.isEmpty then unsupported "set:maker-not-led" : Sem Unit)
 return match xs[SetTable.below tb.place slot]?, tb.place[SetTable.below tb.place slot]? with
  | some (_, z), some m => some (z, m + 1)
  | _, _ => none) := rfl
def a3E (B : Bool) (t : SetTable) (i : Nat) : Nat := if B = true then 0 else if i = 0 then 0 else t.place.getD (i - 1) 0 + 1
theorem b5R {B : Bool} {t : SetTable} {L : List Nat} (T : Tb B t L) (hB : B = false) : ∀ i, i <= L.length -> SetTable.below t.place (a3E B t i) = i
 | 0, _ => by
  unfold a3E
  rw [hB]
  exact b5O T.up
 | k + 1, h => by
  unfold a3E
  rw [hB]
  have hk : k < t.place.size := by rw [T.sz]; omega
  simp only [Bool.false_eq_true, if_false, Nat.add_sub_cancel]
  rw [if_neg (by omega)]
  have : t.place.getD k 0 = t.place[k] := by simp [Array.getD, hk]
  rw [this]
  exact b5P T.up hk
section
variable {prog : Program} {w : World} {A : Around} {E : Value -> Shared -> Prop} {s : Shared} {a : Addr} {L : List Nat}
theorem c4G {es : Array (Int × Value)} {ep : Nat} {t : SetTable} {Q : Array (Int × Value) -> Shared -> Prop} (ho : s.heap.get? a = some (setO es ep t)) (hE : Es es L) (T : Tb (byT w) t L)
  (h : Q (a2F w a ep es) s) : wpAny (model prog w) A (setWalk a) Q E s := by
 rw [b7O]
 refine wpAny_bind (a1Y ho hE T ?_)
 refine wpAny_bind (a3J ?_)
 have pl := T.pl
 have ld := T.led
 unfold a2F at h
 cases c : byT w with
 | true =>
  rw [c] at h
  simp only [if_true] at h ⊢
  exact wpAny_bind (wpAny_askSetting (wpAny_pure h))
 | false =>
  rw [c] at ld h
  simp only [pl, ld, Bool.not_true, Bool.not_false, Bool.false_and, Bool.false_eq_true, if_false] at h ⊢
  first | exact wpAny_bind (wpAny_pure (wpAny_pure h)) | exact wpAny_pure h
theorem b4F {es : Array (Int × Value)} {ep i : Nat} {t : SetTable} {Q : Option (Value × Nat) -> Shared -> Prop} (ho : s.heap.get? a = some (setO es ep t)) (hE : Es es L) (T : Tb (byT w) t L) (hi : i <= L.length)
  (h : Q (((a2F w a ep es)[i]?).map fun e => (e.2, a3E (byT w) t (i + 1))) s) : wpAny (model prog w) A (setNext a (a3E (byT w) t i) i ep) Q E s := by
 rw [c4F]
 refine wpAny_bind (a1Y ho hE T ?_)
 refine wpAny_bind (a3J ?_)
 have pl := T.pl
 have ld := T.led
 cases c : byT w with
 | true =>
  simp only [if_true, bne_self_eq_false, Bool.false_eq_true, if_false]
  refine wpAny_bind (c4G ho hE T (wpAny_pure ?_))
  rw [c] at h
  unfold a3E at h ⊢
  simp only [if_true] at h ⊢
  exact h
 | false =>
  rw [c] at ld h
  simp only [pl, ld, Bool.not_true, Bool.not_false, Bool.false_and, Bool.false_eq_true, if_false]
  have bs := b5R T c i hi
  rw [c] at bs
  rw [bs]
  have wk : a2F w a ep es = es := by unfold a2F; rw [c]; rfl
  rw [wk] at h
  have e : (match es[i]?, t.place[i]? with
   | some (_, z), some m => some (z, m + 1)
   | _, _ => none) = (es[i]?).map fun e => (e.2, a3E false t (i + 1)) := by
   by_cases q : i < L.length
   ·have h1 : i < es.size := by rw [hE.len]; exact q
    have h2 : i < t.place.size := by rw [T.sz]; exact q
    rw [Array.getElem?_eq_getElem h1, Array.getElem?_eq_getElem h2]
    unfold a3E
    simp [Array.getD, h2]
   ·have h1 : es[i]? = none := Array.getElem?_eq_none (by rw [hE.len]; omega)
    rw [h1]
    rfl
  first
  | exact wpAny_bind (wpAny_pure (wpAny_pure (by rw [e]; exact h)))
  | exact wpAny_pure (by rw [e]; exact h)
abbrev itO (sl i : Nat) (a : Addr) (n ep : Nat) : Obj := { cls := .type "set_iterator", dict := none, data := .fields #[.int (sl : Nat) 0, .int (i : Nat) 0, .ref a, .int (n : Nat) 0, .int (ep : Nat) 0], slots := #[] }
theorem c4H {I : Addr} {es : Array (Int × Value)} {ep i : Nat} {t : SetTable} {e : Int × Value} {Q : Option Value -> Shared -> Prop} (ne : a ≠ I) (ho : s.heap.get? a = some (setO es ep t)) (hE : Es es L) (T : Tb (byT w) t L)
  (hI : s.heap.get? I = some (itO (a3E (byT w) t i) i a L.length ep)) (hw : (a2F w a ep es)[i]? = some e)
  (h : ∀ h', h'.get? I = some (itO (a3E (byT w) t (i + 1)) (i + 1) a L.length ep) -> Heap.SameBut I s.heap h' -> Q (some e.2) { s with heap := h' }) : wpAny (model prog w) A (pyNext (.ref I)) Q E s := by
 have hi : i < L.length := by
  rcases Nat.lt_or_ge i (a2F w a ep es).size with q | q
  ·rw [a2X, hE.len] at q; exact q
  ·rw [Array.getElem?_eq_none q] at hw; cases hw
 have hT : s.TypeIs (.ref I) "set_iterator" := ⟨_, hI, rfl⟩
 unfold pyNext
 refine wpAny_bind (wpAny_attempt (wpAny_callSpecial?_slot (name := Str.ofString "__next__") hT slot_si_next (wpAny_call_entry slot_si_next hT a4Z ?_ (a6J _))))
 unfold Builtin.«set_iterator.__next__»
 refine wpAny_bind (m := slotArgs "__next__" 0 _) (wpAny_pure ?_)
 dsimp only
 refine wpAny_bind (wpAny_fieldsOf hI rfl ?_)
 dsimp only
 unfold setEntries
 refine wpAny_bind (wpAny_bind (a1Y ho hE T (wpAny_pure ?_)))
 have z : (((es.size : Nat) : Int) != ((L.length : Nat) : Int)) = false := by rw [hE.len]; simp
 dsimp only
 rw [z]
 simp only [Bool.false_eq_true, if_false, Int.toNat_natCast]
 refine wpAny_bind (b4F ho hE T (by omega) ?_)
 rw [hw]
 dsimp only [Option.map]
 refine wpAny_bind (wpAny_setField_rec hI (by simp) fun h1 hI1 sb1 => ?_)
 refine wpAny_bind (wpAny_setField_rec (s := { s with heap := h1 }) hI1 (by simp) fun h2 hI2 sb2 => ?_)
 refine wpAny_pure ⟨_, rfl, wpAny_pure (h h2 ?_ (sb1.trans sb2))⟩
 rw [hI2]
 simp [rawInt]
theorem c6Z {I : Addr} {es : Array (Int × Value)} {ep : Nat} {t : SetTable} {Q : Option Value -> Shared -> Prop} (hh : A.handled = none) (ne : a ≠ I) (ho : s.heap.get? a = some (setO es ep t)) (hE : Es es L) (T : Tb (byT w) t L)
  (hI : s.heap.get? I = some (itO (a3E (byT w) t L.length) L.length a L.length ep))
  (h : ∀ h', Heap.ExtBut I s.heap h' -> Q none { s with heap := h' }) : wpAny (model prog w) A (pyNext (.ref I)) Q E s := by
 have hT : s.TypeIs (.ref I) "set_iterator" := ⟨_, hI, rfl⟩
 unfold pyNext
 refine wpAny_bind (wpAny_attempt (wpAny_callSpecial?_slot (name := Str.ofString "__next__") hT slot_si_next (wpAny_call_entry slot_si_next hT a4Z ?_ (a6J _))))
 unfold Builtin.«set_iterator.__next__»
 refine wpAny_bind (m := slotArgs "__next__" 0 _) (wpAny_pure ?_)
 dsimp only
 refine wpAny_bind (wpAny_fieldsOf hI rfl ?_)
 dsimp only
 unfold setEntries
 refine wpAny_bind (wpAny_bind (a1Y ho hE T (wpAny_pure ?_)))
 have z : (((es.size : Nat) : Int) != ((L.length : Nat) : Int)) = false := by rw [hE.len]; simp
 dsimp only
 rw [z]
 simp only [Bool.false_eq_true, if_false, Int.toNat_natCast]
 refine wpAny_bind (b4F ho hE T (by omega) ?_)
 rw [Array.getElem?_eq_none (by rw [a2X, hE.len]; exact Nat.le_refl _)]
 dsimp only [Option.map]
 refine wpAny_bind (wpAny_setField_rec hI (by simp) fun h1 hI1 sb1 => ?_)
 refine wpAny_bind ?_
 simp only [newExc, newTuple]
 refine wpAny_bind (wpAny_newObj_type ?_ (by size_fits))
 refine wpAny_bind (m := firstArgMember _ _) (wpAny_of_eq (a := Value.none) (by first | rfl | (simp only [firstArgMember]; rfl)) ?_); refine wpAny_newObj_type ?_ (by size_fits)
 simp only [raiseNew]
 refine wpAny_bind (wpAny_handled ?_)
 rw [show A.in1.handled = none from hh]; refine wpAny_bind (wpAny_pure (wpAny_throw ?_))
 refine wpAny_bind (wpAny_isInstance (U := "StopIteration") (T := "StopIteration") (b := true) ⟨_, Heap.get?_push_size _ rfl, rfl⟩ isSubtype_stop ?_)
 exact wpAny_pure (h _ ((sb1.extBut.push _).push _))
end
end Sm
set_option maxHeartbeats 4000000
namespace Sm
open PySem PyProof.Rows
section
variable {prog : Program} {w : World} {A : Around} {E : Value -> Shared -> Prop} {s : Shared} {a : Addr} {L : List Nat}
theorem c7A {I : Addr} {es : Array (Int × Value)} {ep : Nat} {t : SetTable} (hh : A.handled = none) (ne : a ≠ I) (hE : Es es L) (T : Tb (byT w) t L) :
  Walks prog w A I [I, a] [I] L.length (fun i v => ∃ e, (a2F w a ep es)[i]? = some e /\ v = e.2)
   (fun i h => h.get? I = some (itO (a3E (byT w) t i) i a L.length ep) /\ h.get? a = some (setO es ep t)) where
 sub := fun b hb => by simp at hb; simp [hb]
 frame := fun _ _ _ st hk => ⟨hk I (by simp) _ st.1, hk a (by simp) _ st.2⟩
 item := fun i s Q E hi st hQ => by
  obtain ⟨e, he⟩ : ∃ e, (a2F w a ep es)[i]? = some e := ⟨_, Array.getElem?_eq_getElem (by rw [a2X, hE.len]; exact hi)⟩
  refine c4H ne st.2 hE T st.1 he fun h' hI sb => ?_
  exact hQ _ h' s.toks ⟨e, he, rfl⟩ ⟨hI, by rw [sb.2 a ne]; exact st.2⟩ fun b o hb q => by rw [sb.2 b (fun c => hb (by simp [c]))]; exact q
 done := fun s Q E st hQ => c6Z hh ne st.2 hE T st.1 fun h' xb => hQ h' s.toks fun b o hb q => xb b o (fun c => hb (by simp [c])) q
 self := fun i s Q E st hQ => by
  have hT : s.TypeIs (.ref I) "set_iterator" := ⟨_, st.1, rfl⟩
  refine wpAny_pyIter_slot hT a6K (wpAny_call_entry a6K hT a9S ?_ (b1F _))
  show wpAny _ _ (ret (Value.ref I)) _ _ s; exact wpAny_pure ⟨_, rfl, "set_iterator", _, hT, slot_si_next.lookup, hQ⟩
theorem c0Y (a : Addr) : setDrawn a = (do
 let (es, _, t) <- setState a
 let byText <- setsByText
 return !byText && (!t.plain && es.size > 1)) := rfl
theorem c4I {es : Array (Int × Value)} {ep : Nat} {t : SetTable} {Q : Value -> Shared -> Prop} (ho : s.heap.get? a = some (setO es ep t)) (hE : Es es L) (T : Tb (byT w) t L)
  (h : Q (.ref s.heap.objs.size) { s with heap := s.heap.push (itO 0 0 a L.length ep) }) : wpAny (model prog w) A (pyIter (.ref a)) Q E s := by
 have hT : s.TypeIs (.ref a) "set" := ⟨_, ho, rfl⟩
 refine wpAny_pyIter_slot hT F.slot_set_iter (wpAny_call_entry F.slot_set_iter hT b5Q ?_ (F.args_set_iter_1 _))
 unfold Builtin.«frozenset.__iter__»
 refine wpAny_bind (m := Builtin.Frozenset.slot0 _ _) (wpAny_pure ?_)
 unfold Builtin.Frozenset.sizeOf setEntries
 refine wpAny_bind (wpAny_bind (wpAny_bind (a1Y ho hE T (wpAny_pure (wpAny_pure ?_)))))
 rw [c0Y]
 refine wpAny_bind (wpAny_bind (a1Y ho hE T ?_))
 refine wpAny_bind (a3J (wpAny_pure ?_))
 rw [T.pl]
 simp only [Bool.not_true, Bool.false_and, Bool.and_false, Bool.false_eq_true, if_false]
 refine wpAny_bind (wpAny_pure ?_)
 refine wpAny_bind (a9R ho hE T ?_)
 refine wpAny_bind ?_
 unfold newFields
 refine wpAny_newObj_type ?_
 refine wpAny_pure ⟨_, rfl, "set_iterator", _, ⟨_, Heap.get?_push_size _ rfl, rfl⟩, slot_si_next.lookup, ?_⟩
 rw [hE.len]
 exact h
theorem c4J : (Value.type "set" == Value.type "list") = false := by decide
theorem c7B : (Value.type "set" == Value.type "tuple") = false := by decide
theorem c0Z : typeLookup (.type "set") "__len__" = pure (some (.builtin "set.__len__")) := F.slot_set_len.lookup
theorem b7S : splitId "set.__len__" = some ("set", "__len__") := by decide +kernel
theorem b3B {es : Array (Int × Value)} {ep : Nat} {t : SetTable} {Q : List Value -> Shared -> Prop} (hh : A.handled = none) (ho : s.heap.get? a = some (setO es ep t)) (hE : Es es L) (T : Tb (byT w) t L)
  (h : ∀ (h' : Heap) (tk : Nat), (∀ b o, s.heap.get? b = some o -> h'.get? b = some o) -> s.heap.objs.size < h'.objs.size -> Q ((a2F w a ep es).toList.map (·.2)) { s with heap := h', toks := tk }) : wpAny (model prog w) A (collect (.ref a)) Q E s := by
 have lt : a < s.heap.objs.size := Heap.lt_size ho
 unfold collect
 refine wpAny_bind (wpAny_runValue (codeAny_builtin F.entry_proto_collect ?_))
 rw [Around.under_plainId F.plain_proto_collect _]
 show wpAny _ A.in1 (newList [] >>= fun l => again (.builtin "list.__iadd__" ⟨[l, .ref a], []⟩)) _ _ s
 refine wpAny_bind (wpAny_newObj_type (wpAny_pure ⟨plainId_quiet F.plain_list_iadd _, codeAny_builtin F.entry_list_iadd ?_⟩))
 rw [Around.under_plainId F.plain_list_iadd _]
 have S0 : (s.heap.push { cls := .type "list", data := .seq ([] : List Value).toArray }).get? s.heap.objs.size = some { cls := .type "list", data := .seq ([] : List Value).toArray } := Heap.get?_push_size _ rfl
 have ho1 : (s.heap.push { cls := .type "list", data := .seq ([] : List Value).toArray }).get? a = some (setO es ep t) := Heap.get?_push_of_some _ ho
 have hT1 : Shared.TypeIs { s with heap := s.heap.push { cls := .type "list", data := .seq ([] : List Value).toArray } } (.ref a) "set" := ⟨_, ho1, rfl⟩
 show wpAny _ A.in1 (Builtin.List.listExtendWith (.ref s.heap.objs.size) (.ref a) (.ref s.heap.objs.size)) _ _ { s with heap := s.heap.push { cls := .type "list", data := .seq ([] : List Value).toArray } }
 unfold Builtin.List.listExtendWith
 refine wpAny_bind (wpAny_typeOf hT1 ?_)
 have n1 : Builtin.List.listSameRef (.ref s.heap.objs.size) (.ref a) = false := by simp [Builtin.List.listSameRef, Nat.ne_of_gt lt]
 simp only [n1, c4J, c7B, Bool.or_false, Bool.false_eq_true, if_false]
 refine wpAny_bind (c4I ho1 hE T ?_)
 refine wpAny_bind (wpAny_holding ?_)
 have ho2 : ((s.heap.push { cls := .type "list", data := .seq ([] : List Value).toArray }).push (itO 0 0 a L.length ep)).get? a = some (setO es ep t) := Heap.get?_push_of_some _ ho1
 have hT2 : Shared.TypeIs { s with heap := (s.heap.push { cls := .type "list", data := .seq ([] : List Value).toArray }).push (itO 0 0 a L.length ep) } (.ref a) "set" := ⟨_, ho2, rfl⟩
 unfold Builtin.List.listLengthHint
 refine wpAny_bind (wpAny_specialOf hT2 c0Z ?_)
 dsimp only
 rw [b7S]
 dsimp only
 refine wpAny_bind (wpAny_isInstance hT2 b7Q ?_)
 rw [if_neg (by decide)]
 rw [if_pos (by decide +kernel)]
 refine wpAny_bind (wpAny_typeOf hT2 ?_)
 dsimp only
 refine wpAny_pure ?_
 rw [if_pos (by decide +kernel)]
 refine wpAny_bind (wpAny_rule ?_)
 have lsz : (s.heap.push { cls := .type "list", data := .seq ([] : List Value).toArray }).objs.size = s.heap.objs.size + 1 := size_push' _ _
 have S1 : ((s.heap.push { cls := .type "list", data := .seq ([] : List Value).toArray }).push (itO 0 0 a L.length ep)).get? s.heap.objs.size = some { cls := .type "list", data := .seq ([] : List Value).toArray } := Heap.get?_push_of_some _ S0
 refine wpAny_bind ?_
 show wpAny _ A.in1 (updateSeq s.heap.objs.size (·.push .none) >>= fun _ => updateSeq s.heap.objs.size (·.pop)) _ _ _
 refine wpAny_bind (wpAny_updateSeq S1 rfl ?_)
 have S2 := Heap.get?_update_self (Obj.mapSeq (·.push Value.none)) S1 rfl
 refine wpAny_updateSeq S2 rfl ?_
 have S3 := Heap.get?_update_self (Obj.mapSeq (·.pop)) S2 rfl
 have oth : ∀ b o, b ≠ s.heap.objs.size -> ((s.heap.push { cls := .type "list", data := .seq ([] : List Value).toArray }).push (itO 0 0 a L.length ep)).get? b = some o ->
   ((((s.heap.push { cls := .type "list", data := .seq ([] : List Value).toArray }).push (itO 0 0 a L.length ep)).update s.heap.objs.size (Obj.mapSeq (·.push Value.none))).update s.heap.objs.size (Obj.mapSeq (·.pop))).get? b = some o :=
  fun b o hb e => (Heap.get?_update_other _ _ (Ne.symm hb)).trans ((Heap.get?_update_other _ _ (Ne.symm hb)).trans e)
 have neI : a ≠ (s.heap.push { cls := .type "list", data := .seq ([] : List Value).toArray }).objs.size := by rw [lsz]; exact Nat.ne_of_lt (Nat.lt_succ_of_lt lt)
 have W := (c7A (prog := prog) (w := w) (A := A.in1) (I := (s.heap.push { cls := .type "list", data := .seq ([] : List Value).toArray }).objs.size) (ep := ep) (by simpa using hh) neI hE T).toS
 have l16 := T.len
 have sl0 : a3E (byT w) t 0 = 0 := by unfold a3E; split <;> rfl
 refine wpAny_pure ⟨plainId_quiet F.plain_extend_loop _, codeAny_extend_loopS W (by rw [sizeLine_eq]; omega) _ (by
   rw [lsz]; simp only [List.mem_cons, List.not_mem_nil, or_false, not_or]; exact ⟨Nat.ne_of_lt (Nat.lt_succ_self _), Nat.ne_of_gt lt⟩) _ _ 0 _ #[] _ rfl (Nat.zero_le _) ⟨?_, ?_⟩ S3 (ItemsOf.nil _) fun s' acc' c' hm hS' hacc => ?_⟩
 ·refine oth _ _ (by rw [lsz]; exact Nat.ne_of_gt (Nat.lt_succ_self _)) ?_
  rw [sl0]
  exact Heap.get?_push_size _ rfl
 ·exact oth _ _ (Nat.ne_of_lt lt) ho2
 ·obtain ⟨h', g', d', tk', os'⟩ := s'
  have eg : g' = s.gens := hm.gens
  have ed : d' = s.drawn := hm.drawn
  have eo : os' = s.os := hm.os
  subst eg; subst ed; subst eo
  show wpAny _ A (load s.heap.objs.size >>= _) _ _ _
  refine wpAny_bind (wpAny_load hS' ?_)
  dsimp only
  have el : acc'.toList = (a2F w a ep es).toList.map (·.2) := by
   apply List.ext_getElem?
   intro i
   rw [Array.getElem?_toList, List.getElem?_map, Array.getElem?_toList]
   rcases Nat.lt_or_ge i acc'.size with q | q
   ·obtain ⟨e, he, hv⟩ := hacc.2 i acc'[i] (Array.getElem?_eq_getElem q)
    rw [Array.getElem?_eq_getElem q, he, hv]
    rfl
   ·rw [Array.getElem?_eq_none q, Array.getElem?_eq_none (by rw [a2X, hE.len, <- hacc.1]; exact q)]
    rfl
  rw [el]
  refine wpAny_pure (h h' tk' (fun b o e => ?_) (Heap.lt_size hS'))
  have lb : b < s.heap.objs.size := Heap.lt_size e
  refine hm.heap b o (by rw [lsz]; simp only [List.mem_cons, List.not_mem_nil, or_false, not_or]; exact ⟨Nat.ne_of_lt lb, Nat.ne_of_lt (Nat.lt_succ_of_lt lb)⟩) (oth b o (Nat.ne_of_lt lb) (Heap.get?_push_of_some _ (Heap.get?_push_of_some _ e)))
theorem c7C {h : Heap} {a b : Addr} {vs : List Value} {out : Array Value} {o : Obj} (lb : b < h.objs.size) (ne : b ≠ a) (e : h.get? b = some o) : (sortedHeap h a vs out).get? b = some o := by
 unfold sortedHeap
 rw [Heap.get?_update_ne _ _ _ _ ne]
 exact Heap.get?_push_of_some _ (Heap.get?_push_of_some _ (by rw [Heap.get?_update_ne _ _ _ _ ne]; exact e))
theorem c9B {h : Heap} {a : Addr} {vs : List Value} {xs out : Array Value} {n : Nat} (e : h.get? a = some (seqObj "list" xs n)) : ∃ n', (sortedHeap h a vs out).get? a = some (seqObj "list" out n') := by
 unfold sortedHeap
 exact ⟨_, get?_update_seq (Heap.get?_push_of_some _ (Heap.get?_push_of_some _ (get?_update_seq e fun _ => #[]))) fun _ => out⟩
theorem b5S {Q : Value -> Shared -> Prop} (hh : A.handled = none) (S : SetAt (byT w) s.heap a L)
  (h : ∀ (h' : Heap) (tk : Nat) (p : Addr) (vs : List Value) (n : Nat) (ns : List Int), (∀ b o, s.heap.get? b = some o -> h'.get? b = some o) -> s.heap.objs.size <= p -> h'.get? p = some (seqObj "list" vs.toArray n) -> IntsAre vs ns ->
   ns.Perm (L.map fun v => ((v : Nat) : Int)) -> ns.Pairwise (· <= ·) -> Q (.ref p) { s with heap := h', toks := tk }) : wpAny (model prog w) A (call (.builtin "sorted") [.ref a]) Q E s := by
 obtain ⟨es, ep, t, ho, hE, T⟩ := S
 have l16 := T.len
 apply Calls.call_function_entry kind_sorted plain_sorted entry_sorted (args_sorted1 _)
 unfold Builtin.«sorted»
 refine wpAny_bind (m := checkCount "sorted" 1 1 _) (wpAny_pure ?_); refine wpAny_bind (b3B (by simpa using hh) ho hE T fun h1 tk k lz => ?_)
 obtain ⟨L', hP, pm⟩ := hE.perm (a7U w a ep es)
 have hl : L'.length = L.length := pm.length_eq
 have hI : IntsAre ((a2F w a ep es).toList.map (·.2)) (L'.map fun v => ((v : Nat) : Int)) := by
  generalize (a2F w a ep es).toList = l at hP
  clear pm hl
  induction hP with
  | nil => exact .nil
  | cons r _ ih =>
   obtain ⟨q, e⟩ := r.2
   rw [List.map_cons, List.map_cons, e]
   exact .cons _ q ih
 have hn : ((a2F w a ep es).toList.map (·.2)).length = L.length := by rw [List.length_map, Array.length_toList, a2X, hE.len]
 refine wpAny_bind (wpAny_newList ?_ (by rw [hn, sizeLine_eq]; omega))
 have o1 : (h1.push (seqObj "list" ((a2F w a ep es).toList.map (·.2)).toArray 0)).get? h1.objs.size = some (seqObj "list" ((a2F w a ep es).toList.map (·.2)).toArray 0) := Heap.get?_push_size _ rfl
 refine wpAny_bind (wpAny_holding (wpAny_call_entry slot_list_sort ⟨_, o1, rfl⟩ entry_list_sort (list_sort_tree o1 hI (by rw [hn]; omega) fun out ns a1 a2 a3 => ⟨_, rfl, ?_⟩) (args_list_sort _)))
 obtain ⟨n', o2⟩ := c9B (vs := (a2F w a ep es).toList.map (·.2)) (out := out) o1
 refine wpAny_pure ⟨_, rfl, h _ _ _ out.toList n' ns (fun b o e => ?_) (Nat.le_of_lt lz) (by simpa using o2) a1 (a2.trans (pm.map _)) a3⟩
 have lb : b < h1.objs.size := Nat.lt_trans (Heap.lt_size e) lz
 exact c7C (by rw [size_push']; exact Nat.lt_succ_of_lt lb) (Nat.ne_of_lt lb) (Heap.get?_push_of_some _ (k b o e))
end
end Sm
set_option maxHeartbeats 4000000
namespace Sm
open PySem PyProof.Rows
section
variable {prog : Program} {w : World} {A : Around} {R : Result -> Shared -> Prop} {I : Addr} {fp wr : List Addr} {G : Array GenState -> Array GenState -> Prop} {n : Nat} {P : Nat -> Value -> Prop} {St : Nat -> Shared -> Prop}
theorem c4K (W : WalksS prog w A.in1 I fp wr G n P St) (S : Addr) (nf : S ∉ fp) (val : Nat -> Nat) (hv : ∀ i v, i < n -> P i v -> ∃ t, v = .int ((val i : Nat) : Int) t) (lt : ∀ i, i < n -> val i < 16) :
  ∀ (k i : Nat) (s : Shared) (L : List Nat), n - i = k -> i <= n -> St i s -> SetAt (byT w) s.heap S L -> Dense s.heap S -> (∀ u, u ∈ L ↔ ∃ j, j < i /\ val j = u) ->
   (∀ s' L', Moved (S :: wr) G s s' -> SetAt (byT w) s'.heap S L' -> Dense s'.heap S -> (∀ u, u ∈ L' ↔ ∃ j, j < n /\ val j = u) -> R (.ok (.ret .none)) s') ->
   codeAny (model prog w) A (.builtin "set.update.loop" ⟨[.ref S, .ref I], []⟩) R s := by
 have nw : S ∉ wr := fun h => nf (W.sub _ h)
 have up : ∀ b ∈ wr, b ∈ S :: wr := fun b hb => List.mem_cons_of_mem _ hb
 intro k
 induction k with
 | zero =>
  intro i s L hk hi st hS hD mem hR
  obtain rfl : i = n := by omega
  refine codeAny_builtin F.entry_set_update_loop ?_
  rw [Around.under_plainId F.plain_set_update_loop _]; show wpAny _ A.in1 (pyNext (.ref I) >>= _) _ _ s; refine wpAny_bind (W.done s _ _ st fun s' hm => ?_)
  exact wpAny_pure (hR s' L (hm.mono up) (hS.keep fun o e => hm.heap S o nw e) (hD.keep fun o e => hm.heap S o nw e) mem)
 | succ k ih =>
  intro i s L hk hi st hS hD mem hR
  have li : i < n := by omega
  refine codeAny_builtin F.entry_set_update_loop ?_
  rw [Around.under_plainId F.plain_set_update_loop _]; show wpAny _ A.in1 (pyNext (.ref I) >>= _) _ _ s; refine wpAny_bind (W.item i s _ _ li st fun v s' hP st' hm => ?_)
  obtain ⟨t, rfl⟩ := hv i v li hP
  have hS' := hS.keep fun o e => hm.heap S o nw e
  have hD' := hD.keep fun o e => hm.heap S o nw e
  show wpAny _ A.in1 (holding [Value.int ((val i : Nat) : Int) t] (setAdd S (.int ((val i : Nat) : Int) t)) >>= _) _ _ s'
  refine wpAny_bind (wpAny_holding ?_)
  unfold setAdd
  refine wpAny_holding (wpAny_bind ((intKind prog w).pyHash (k := ((val i : Nat) : Int)) (intKind_is _ _ _ _) ?_))
  have eh : (intKind prog w).hash ((val i : Nat) : Int) = ((val i : Nat) : Int) := b7N _ (lt i li)
  rw [eh]
  refine c2R (s := { s' with toks := s'.toks + 1 }) hS' (lt i li) fun b h' L' sb S2 mem2 dn => ?_
  refine wpAny_pure ⟨plainId_quiet F.plain_set_update_loop _, ih (i + 1) _ L' (by omega) li (W.frame _ s' _ _ st' (Nat.le_succ _) fun c hc o e => ?_) S2 (dn hD') (fun u => ?_) fun s2 L2 hm2 h2 h3 h4 => hR s2 L2 (Moved.trans W.gtrans ((hm.mono up).then_heap (Nat.le_succ _) fun c o hc e => ?_) hm2) h2 h3 h4⟩
  ·rw [sb.2 c (fun q : c = S => nf (by rw [<- q]; exact hc))]; exact e
  ·rw [mem2 u, mem u]
   constructor
   ·rintro (rfl | ⟨j, hj, e⟩)
    ·exact ⟨i, Nat.lt_succ_self _, rfl⟩
    ·exact ⟨j, Nat.lt_succ_of_lt hj, e⟩
   ·rintro ⟨j, hj, e⟩
    rcases Nat.lt_or_ge j i with q | q
    ·exact .inr ⟨j, q, e⟩
    ·obtain rfl : j = i := by omega
     exact .inl e.symm
  ·rw [sb.2 c (fun q : c = S => hc (by rw [q]; exact List.mem_cons_self))]; exact e
end
section
variable {prog : Program} {w : World} {A : Around} {E : Value -> Shared -> Prop} {s : Shared}
theorem c4L (a : Value) {Q : Value -> Shared -> Prop} (h : Q (.ref s.heap.objs.size) { s with heap := s.heap.push (setO #[] 0 (.fresh 0 0 (!byT w))) }) :
  codeAny (model prog w) A (.call (.builtin "set.__new__") ⟨[.type "set", a], []⟩) (wants Q E) s := by
 refine codeAny_of_tree ?_
 show wpAny _ A.in1 (do checkBuiltinCall "set.__new__" ⟨[.type "set", a], []⟩; again (.builtin "set.__new__" ⟨[.type "set", a], []⟩)) _ _ s; refine wpAny_bind (wpAny_of_eq (F.newCall_set_1 a) (wpAny_pure ⟨plainId_quiet F.plain_set_new _, codeAny_builtin F.entry_set_new ?_⟩))
 rw [Around.under_plainId F.plain_set_new _]
 unfold Builtin.«set.__new__» Builtin.Frozenset.newClass
 have hsub := sub_set_self
 obtain ⟨hp, g, d, tk, os⟩ := s
 dsimp only at h ⊢
 wp_walk
 refine wpAny_askSetting (wpAny_pure ?_)
 dsimp only
 simp only [newObj]
 exact wpAny_bind (wpAny_alloc (wpAny_pure (wpAny_pure h)))
set_option maxHeartbeats 8000000 in
theorem c7D {l : Addr} {items : Array Value} {vals : List Nat} {Q : Value -> Shared -> Prop} (hh : A.handled = none) (hl : s.heap.IsList l items) (hi : IntsAre items.toList (vals.map fun v => ((v : Nat) : Int))) (lt : ∀ v ∈ vals, v < 16)
  (h : ∀ (h' : Heap) (tk : Nat) (L : List Nat), SetAt (byT w) h' s.heap.objs.size L -> Dense h' s.heap.objs.size -> (∀ u, u ∈ L ↔ u ∈ vals) -> (∀ b o, b < s.heap.objs.size -> s.heap.get? b = some o -> h'.get? b = some o) -> Q (.ref s.heap.objs.size) { s with heap := h', toks := tk }) :
  wpAny (model prog w) A (call (.type "set") [.ref l]) Q E s := by
 obtain ⟨c, tl, hmro⟩ := F.called_set.mro
 have hmade := F.called_set.made
 have hsub := F.called_set.sub
 have hlen : items.size = vals.length := by
  have := hi.length
  simpa using this
 refine wpAny_call (codeAny_of_tree ?_)
 show wpAny _ _ (callAny (.type "set") _) _ _ _; refine wpAny_pure ⟨Code.quiet_builtin _ (by decide +kernel), codeAny_builtin F.entry_type_call ?_⟩
 rw [Around.under_plain (weight_type_call_type "set" [.ref l] []) rfl]; have h1 := F.called_set.notType
 have h2 := F.called_set.canCreate
 have hct := F.typeCall_set_1 (.ref l)
 repeat (any_goals (first | assumption | wp_step))
 refine codeAny_mono (c4L (.ref l) (E := E) (Q := fun obj s₁ => obj = .ref s.heap.objs.size /\ s₁ = { s with heap := s.heap.push (setO #[] 0 (.fresh 0 0 (!byT w))) }) ⟨rfl, rfl⟩) fun r s₁ hr => ?_
 cases r with
 | error e => exact hr
 | ok fl =>
  cases fl with
  | ret obj =>
   obtain ⟨rfl, rfl⟩ := hr
   have gS : (s.heap.push (setO #[] 0 (.fresh 0 0 (!byT w)))).get? s.heap.objs.size = some (setO #[] 0 (.fresh 0 0 (!byT w))) := Heap.get?_push_size _ rfl
   have hT : Shared.TypeIs { s with heap := s.heap.push (setO #[] 0 (.fresh 0 0 (!byT w))) } (.ref s.heap.objs.size) "set" := ⟨_, gS, rfl⟩
   have hli := F.called_set.init.lookup
   have hbi := F.called_set.init.bind (.ref s.heap.objs.size)
   repeat (any_goals (first | assumption | wp_step))
   refine codeAny_mono (codeAny_call_builtin (R := wants (fun r s₂ => r = .none /\ ∃ h' tk L, s₂ = { s with heap := h', toks := tk } /\ SetAt (byT w) h' s.heap.objs.size L /\ Dense h' s.heap.objs.size /\ (∀ u, u ∈ L ↔ u ∈ vals) /\
     (∀ b o, b < s.heap.objs.size -> s.heap.get? b = some o -> h'.get? b = some o)) E) F.called_set.init.plain F.entry_set_init (check_set_init_1 hT ?_)) fun r₂ s₂ hr₂ => ?_
   ·obtain ⟨ol, hol, hcl, nl, hdl⟩ := hl
    obtain ⟨ocls, odict, odata, oslots⟩ := ol
    simp only at hcl hdl
    subst hcl; subst hdl
    have hol' : (s.heap.push (setO #[] 0 (.fresh 0 0 (!byT w)))).get? l = some { cls := .type "list", dict := odict, data := .seq items nl, slots := oslots } := Heap.get?_push_of_some _ hol
    have hsls := F.sub_list_set
    have hslf := F.sub_list_frozenset
    have hne : (Value.type "list" == Value.type "dict") = false := by decide
    have hl1 : (s.heap.push (setO #[] 0 (.fresh 0 0 (!byT w)))).IsList l items := ⟨_, hol', rfl, nl, rfl⟩
    unfold Builtin.«set.__init__» noKeywords Builtin.Frozenset.updateFrom
    generalize hPI : pyIter = PI
    wp_walk
    subst hPI
    refine wpAny_pyIter_list hl1 (wpAny_bind (wpAny_runValue ?_))
    have ll : l < s.heap.objs.size := Heap.lt_size hol
    have hh3 : A.in1.in1.in1.handled = none := by simp [hh]
    have ni : l ≠ (s.heap.push (setO #[] 0 (.fresh 0 0 (!byT w)))).objs.size := by rw [Heap.size_push]; exact Nat.ne_of_lt (Nat.lt_succ_of_lt ll)
    have nf : s.heap.objs.size ∉ [(s.heap.push (setO #[] 0 (.fresh 0 0 (!byT w)))).objs.size, l] := by
     rw [Heap.size_push]; simp only [List.mem_cons, List.not_mem_nil, or_false, not_or]
     exact ⟨Nat.ne_of_lt (Nat.lt_succ_self _), Nat.ne_of_gt ll⟩
    have hval : ∀ (i : Nat) (v : Value), i < items.size -> items[i]? = some v -> ∃ t, v = .int (((fun i => vals.getD i 0) i : Nat) : Int) t := fun i v li hv => by
     obtain ⟨t, e⟩ := PyProof.Rows.IntsAre.int_at hi i v (by rw [Array.getElem?_toList]; exact hv)
     have lv : i < vals.length := by omega
     refine ⟨t, ?_⟩
     rw [e]
     simp [List.getD, lv]
    refine c4K ((Walks.list hh3 _ l ni items).toS) s.heap.objs.size nf (fun i => vals.getD i 0) hval (fun i li => ?_) (items.size - 0) 0 _ [] (by omega) (Nat.zero_le _) ⟨⟨_, Heap.get?_push_size _ rfl, rfl, rfl⟩, (hl1.push _)⟩ ?hS0 ?hD0 (fun u => by simp) ?hR
    ·have lv : i < vals.length := by omega
     refine lt _ ?_
     simp [List.getD, lv]
    case hS0 => exact ⟨#[], 0, _, Heap.get?_push_of_some _ gS, .nil, b4E _⟩
    case hD0 => exact ⟨#[], 0, _, Heap.get?_push_of_some _ gS, .inl rfl⟩
    case hR =>
     intro s' L' hm hS' hD' mem
     obtain ⟨h', g', d', tk', os'⟩ := s'
     have eg : g' = s.gens := hm.gens
     have ed : d' = s.drawn := hm.drawn
     have eo : os' = s.os := hm.os
     subst eg; subst ed; subst eo
     show wpAny _ _ _ _ _ _
     refine wpAny_pure ?_
     show wpAny _ _ (ret Value.none) _ _ _; refine wpAny_pure ⟨rfl, h', tk', L', rfl, hS', hD', fun u => ?_, fun b o hb e => ?_⟩
     ·rw [mem u]
      constructor
      ·rintro ⟨j, hj, rfl⟩
       have lv : j < vals.length := by omega
       simp [List.getD, lv]
      ·intro hu
       obtain ⟨j, hj, e⟩ := List.getElem_of_mem hu
       exact ⟨j, by omega, by simp [List.getD, hj, e]⟩
     ·have b1 : b ≠ s.heap.objs.size := Nat.ne_of_lt hb
      have b2 : b ≠ (s.heap.push (setO #[] 0 (.fresh 0 0 (!byT w)))).objs.size := by rw [Heap.size_push]; exact Nat.ne_of_lt (Nat.lt_succ_of_lt hb)
      exact hm.heap b o (by simp only [List.mem_cons, List.not_mem_nil, or_false, not_or]; exact ⟨b1, b2⟩) (Heap.get?_push_of_some _ (Heap.get?_push_of_some _ e))
   ·cases r₂ with
    | error e => exact hr₂
    | ok fl₂ =>
     cases fl₂ with
     | ret r =>
      obtain ⟨rfl, h', tk, L, rfl, q1, q2, q3, q4⟩ := hr₂
      repeat (any_goals (first | assumption | wp_step))
      exact h _ _ L q1 q2 q3 q4
     | _ => exact hr₂.elim
  | _ => exact hr.elim
end
end Sm
set_option maxHeartbeats 4100000
namespace L2
open PySem PySem.Spec PyProof.Rows Sm
def SetV (w : World) (a : Addr) (d : Bool) (L : List Nat) : HO := .ext fun h => SetAt (byT w) h a L /\ (d = true -> Dense h a)
def b3C (ns : List Int) : Prop := ∀ n ∈ ns, 0 <= n /\ n < 16
def upF (p : Int -> Bool) : List Int := ((List.range 16).map fun i => ((i : Nat) : Int)).filter p
theorem b7T (p : Int -> Bool) : (upF p).Pairwise (· < ·) := by
 unfold upF
 refine List.Pairwise.filter _ ?_
 rw [List.pairwise_map]
 exact List.pairwise_lt_range.imp fun h => by omega
theorem mem_upF {p : Int -> Bool} {v : Int} : v ∈ upF p ↔ 0 <= v /\ v < 16 /\ p v = true := by
 unfold upF
 rw [List.mem_filter, List.mem_map]
 constructor
 ·rintro ⟨⟨i, hi, rfl⟩, h⟩
  have := List.mem_range.mp hi
  exact ⟨by omega, by omega, h⟩
 ·rintro ⟨h0, h1, h⟩
  exact ⟨⟨v.toNat, List.mem_range.mpr (by omega), by omega⟩, h⟩
theorem c7E : ∀ {xs ys : List Int}, xs.Pairwise (· < ·) -> ys.Pairwise (· < ·) -> (∀ v, v ∈ xs ↔ v ∈ ys) -> xs = ys
 | [], [], _, _, _ => rfl
 | [], y :: ys, _, _, h => absurd ((h y).mpr List.mem_cons_self) List.not_mem_nil
 | x :: xs, [], _, _, h => absurd ((h x).mp List.mem_cons_self) List.not_mem_nil
 | x :: xs, y :: ys, hx, hy, h => by
  obtain ⟨x1, x2⟩ := List.pairwise_cons.mp hx
  obtain ⟨y1, y2⟩ := List.pairwise_cons.mp hy
  have e : x = y := by
   rcases List.mem_cons.mp ((h x).mp List.mem_cons_self) with e | e
   ·exact e
   ·rcases List.mem_cons.mp ((h y).mpr List.mem_cons_self) with f | f
    ·exact f.symm
    ·have a := y1 x e
     have b := x1 y f
     omega
  subst e
  congr 1
  refine c7E x2 y2 fun v => ?_
  constructor
  ·intro q
   rcases List.mem_cons.mp ((h v).mp (List.mem_cons_of_mem _ q)) with e | e
   ·subst e; have := x1 v q; omega
   ·exact e
  ·intro q
   rcases List.mem_cons.mp ((h v).mpr (List.mem_cons_of_mem _ q)) with e | e
   ·subst e; have := y1 v q; omega
   ·exact e
def c9C (w : World) (K : Φρ) : List V -> Hp -> VK -> Prop := fun xs H Q => ∃ l ns, xs = [.ref l] /\ SqL K H l (List.map V.int ns) /\ b3C ns /\ ∀ p L H', New H p (SetV w p true L) H' -> (∀ u : Nat, u ∈ L ↔ (u : Int) ∈ ns) -> Q (.ref p) H'
def rOrS (w : World) : R2 := fun x y H Q => ∃ a b L1 L2, x = .ref a /\ y = .ref b /\ a ≠ b /\ H a = some (SetV w a true L1) /\ H b = some (SetV w b true L2) /\ ∀ p L H', New H p (SetV w p false L) H' -> (∀ u : Nat, u ∈ L ↔ u ∈ L1 \/ u ∈ L2) -> Q (.ref p) H'
def c7F (w : World) : List V -> Hp -> VK -> Prop := fun xs H Q => ∃ a d L, xs = [.ref a] /\ H a = some (SetV w a d L) /\ ∀ p H', New H p (.lst ((upF fun v => decide (v.toNat ∈ L)).map V.int)) H' -> Q (.ref p) H'
def c7G (K : Φρ) : List V -> Hp -> VK -> Prop := fun xs H Q => ∃ l ns, xs = [.ref l] /\ SqL K H l (List.map V.int ns) /\ ns.length < 64 /\ ∀ p H' zs, New H p (.lst (List.map V.int zs)) H' -> zs.Perm ns -> zs.Pairwise (· <= ·) -> Q (.ref p) H'
theorem a7V : ∀ {vs : List Value} {ns : List Int}, IntsAre vs ns -> Vals (ns.map V.int) vs
 | _, _, .nil => .nil
 | _, _, .cons n t r => .cons ⟨t, rfl⟩ (a7V r)
theorem c1A {xs : List Int} {L : List Nat} (pm : xs.Perm (L.map fun v => ((v : Nat) : Int))) (nd : L.Nodup) (lt : ∀ v ∈ L, v < 16) (le : xs.Pairwise (· <= ·)) : xs = upF fun v => decide (v.toNat ∈ L) := by
 have nd2 : xs.Nodup := pm.nodup_iff.mpr (by
  unfold List.Nodup
  rw [List.pairwise_map]
  exact nd.imp fun h e => h (by omega))
 have lt2 : xs.Pairwise (· < ·) := by
  unfold List.Nodup at nd2
  exact (le.and nd2).imp fun h => by omega
 refine c7E lt2 (b7T _) fun v => ?_
 rw [pm.mem_iff, mem_upF, List.mem_map]
 constructor
 ·rintro ⟨u, hu, rfl⟩
  have := lt u hu
  exact ⟨by omega, by omega, decide_eq_true (by rw [Int.toNat_natCast]; exact hu)⟩
 ·rintro ⟨h0, h1, h⟩
  exact ⟨v.toNat, of_decide_eq_true h, by omega⟩
section
variable {X : Cx} {K : Φρ} {w : World}
theorem b7U {H : Hp} {h : Heap} {a : Addr} {d : Bool} {L : List Nat} {P : Program} {w' : World} (S : SetAt (byT w) h a L) (D : d = true -> Dense h a) : ObjOk P w' H h a (SetV w a d L) := by
 refine ⟨⟨S, D⟩, ?_, ?_⟩
 ·obtain ⟨_, _, _, ho, _⟩ := S
  exact ⟨_, ho⟩
 ·rintro h1 h2 ⟨s1, d1⟩ k
  exact ⟨s1.keep k, fun e => (d1 e).keep k⟩
theorem b1G (ek : X.K = K) (ew : X.w = w) (cm : X.calm = true) : CallR X (.type "set") (c9C w K) := by
 subst ek; subst ew
 intro pins s σ H xs us Q I r h
 obtain ⟨l, ns, rfl, hL, sm, q⟩ := h
 obtain ⟨u, rfl, rx⟩ := b0J r
 cases rx
 obtain ⟨its, r', pl, hz⟩ := I.list hL
 have hi := a9P r'
 have e : (ns.map Int.toNat).map (fun v => ((v : Nat) : Int)) = ns := by
  rw [List.map_map]
  have : ∀ n ∈ ns, ((fun v => ((v : Nat) : Int)) ∘ Int.toNat) n = id n := fun n hn => by
   have := (sm n hn).1
   show ((n.toNat : Nat) : Int) = n
   omega
  rw [List.map_congr_left this, List.map_id]
 refine c7D (vals := ns.map Int.toNat) (I.ok.hd cm) pl.isList (by rw [e]; simpa using hi) (fun v hv => ?_) fun h' tk L S D mem k => ?_
 ·obtain ⟨n, hn, rfl⟩ := List.mem_map.mp hv
  have := sm n hn
  omega
 ·have hf : H s.heap.objs.size = none := I.hok.fresh (Nat.le_refl _)
  refine ⟨.ref s.heap.objs.size, _, I.laid (t' := tk) (o := SetV X.w s.heap.objs.size true L) (fun b o eo => k b o (Heap.lt_size eo) eo) (Nat.le_refl _) (b7U S fun _ => D), rfl, q _ L _ (New.mk0 hf) fun u => ?_⟩
  rw [mem u, List.mem_map]
  constructor
  ·rintro ⟨n, hn, rfl⟩
   have := (sm n hn).1
   have e2 : ((n.toNat : Nat) : Int) = n := by omega
   rw [e2]; exact hn
  ·intro hn
   exact ⟨_, hn, by omega⟩
theorem c7H (ew : X.w = w) : OpR X (binaryOp .BitOr) (rOrS w) := by
 subst ew
 intro pins s σ H x y v u Q I rx ry h
 obtain ⟨a, b, L1, L2, rfl, rfl, ne, hA, hB, q⟩ := h
 cases rx
 cases ry
 obtain ⟨⟨S1, D1⟩, _⟩ := I.hok a _ hA
 obtain ⟨⟨S2, D2⟩, _⟩ := I.hok b _ hB
 refine c9A ne S1 (D1 rfl) S2 (D2 rfl) fun h' L k S mem => ?_
 have hf : H s.heap.objs.size = none := I.hok.fresh (Nat.le_refl _)
 exact ⟨.ref s.heap.objs.size, _, I.laid (t' := s.toks) (o := SetV X.w s.heap.objs.size false L) (fun b o eo => k b o eo) (Nat.le_refl _) (b7U S fun e => by cases e), rfl, q _ L _ (New.mk0 hf) mem⟩
theorem b1H (ew : X.w = w) (cm : X.calm = true) : CallR X (.builtin "sorted") (c7F w) := by
 subst ew
 intro pins s σ H xs us Q I r h
 obtain ⟨a, d, L, rfl, hA, q⟩ := h
 obtain ⟨u, rfl, rx⟩ := b0J r
 cases rx
 obtain ⟨⟨S, _⟩, _⟩ := I.hok a _ hA
 obtain ⟨_, _, t, _, _, T⟩ := id S
 refine b5S (I.ok.hd cm) S fun h' tk p vs n ns k hp ho hi pm le => ?_
 have e := c1A pm T.nd T.lt le
 subst e
 have l16 : (upF fun v => decide (v.toNat ∈ L)).length <= 16 := by rw [pm.length_eq, List.length_map]; exact T.len
 have hf : H p = none := I.hok.fresh hp
 refine ⟨.ref p, _, I.laid (t' := tk) (o := .lst ((upF fun v => decide (v.toNat ∈ L)).map V.int)) k hp ⟨?_, vs, n, a7V hi, ho⟩, rfl, q p _ (New.mk0 hf)⟩
 rw [List.length_map, sizeLine_eq]
 omega
theorem b1I (e : X.K = K) : CallR X (.builtin "sorted") (c7G K) := by
 subst e
 intro pins s σ H xs us Q I r h
 obtain ⟨l, ns, rfl, hL, h64, q⟩ := h
 obtain ⟨u, rfl, rx⟩ := b0J r
 cases rx
 obtain ⟨its, r', pl, hz⟩ := I.list hL
 have hlen := r'.length
 rw [List.length_map] at hlen
 refine sorted_ints (ns := ns) pl.isList (a9P r') (by omega) fun out zs hi pm le => ?_
 obtain ⟨c, hc⟩ := sortedAll_at s.heap its out
 refine ⟨.ref (s.heap.objs.size + 1), _, I.laid (t' := s.toks) (o := .lst (zs.map V.int)) (fun b o eo => sortedAll_old eo) (Nat.le_succ _) ⟨?_, out.toList, c, a7V hi, by simpa using hc⟩, rfl, q _ _ zs (New.mk0 (I.hok.fresh (Nat.le_succ _))) pm le⟩
 rw [List.length_map, pm.length_eq, sizeLine_eq]
 omega
end
end L2
namespace L2
open PySem PySem.Spec PySem.Calls PyProof.Rows
section
variable {X : Cx}
theorem a9B : ∀ (n : Nat) (acc : List Value), (∀ i : Nat, i < n -> ∃ t, acc[i]? = some (Value.int ((i : Nat) : Int) t)) -> acc.length = n -> Vals ((List.range n).map fun i => V.int ((i : Nat) : Int)) acc
 | 0, acc, _, hl => by rw [List.eq_nil_of_length_eq_zero hl]; exact .nil
 | n + 1, acc, h, hl => by
  have hne : acc ≠ [] := fun z => by rw [z] at hl; cases hl
  have e := (List.dropLast_concat_getLast hne).symm
  have ld : acc.dropLast.length = n := by rw [List.length_dropLast]; omega
  rw [List.range_succ, List.map_append, e]
  refine Vals.append (a9B n acc.dropLast (fun i hi => ?_) ld) ?_
  ·obtain ⟨t, et⟩ := h i (by omega)
   rw [e, List.getElem?_append_left (by omega)] at et
   exact ⟨t, et⟩
  ·obtain ⟨t, et⟩ := h n (by omega)
   rw [e, List.getElem?_append_right (by omega), ld] at et
   simp at et
   rw [et]
   exact .cons ⟨t, rfl⟩ .nil
theorem b5T {pins : List (Addr × Obj)} {σ : St} {H : Hp} {s : Shared} {Q : VK} {E : Value -> Shared -> Prop} {n : Nat} {t u v : Tok} {tk : Nat} (I : Inv X pins σ H s) (cm : X.calm = true) (hn : n <= 1000)
  (q : ∀ p H', New H p (.lst ((List.range n).map fun i => V.int ((i : Nat) : Int))) H' -> Q (.ref p) H') :
  wpAny (model X.prog X.w) X.A (call (.type "list") [.ref s.heap.objs.size]) (EP X pins σ Q) E { s with heap := s.heap.push { cls := .type "range", data := .fields #[.int 0 t, .int n u, .int 1 v] }, toks := tk } := by
 have I2 : Inv X pins σ H { s with heap := s.heap.push { cls := .type "range", data := .fields #[.int 0 t, .int n u, .int 1 v] }, toks := tk } := I.kept fun b o e => Heap.get?_push_of_some _ e
 refine call_list_range (I2.ok.hd cm) (IsRange.new ..) (small_one (by omega) (by omega) (by omega) (by omega)) (n := n) (by rw [rangeSize_one]; split <;> omega) (by omega) fun h' tk' acc' c' hk hS hacc => ?_
 refine ⟨.ref _, _, I2.laid (t' := tk') hk (Nat.le_refl _) (show ObjOk X.prog X.w _ h' _ (.lst ((List.range n).map fun i => V.int ((i : Nat) : Int))) from ⟨?_, acc'.toList, c', ?_, ?_⟩), rfl, q _ _ (New.mk0 (I2.hok.fresh (Nat.le_refl _)))⟩
 ·rw [List.length_map, List.length_range]; exact Nat.le_of_lt (a1R hn)
 ·refine a9B n _ (fun i hi => ?_) ?_
  ·have hlt : i < acc'.size := by have := hacc.1; omega
   obtain ⟨t, e⟩ := hacc.2 i acc'[i] (Array.getElem?_eq_getElem hlt)
   refine ⟨t, ?_⟩
   rw [Array.getElem?_toList, Array.getElem?_eq_getElem hlt, e]
   congr 2
   omega
  ·rw [Array.length_toList]; exact hacc.1
 ·simpa using hS
def c7I (ta : TA) : TE := fun σ H Q => ta σ H fun vs H1 => ∃ n : Nat, vs = [.int (n : Int)] /\ n <= 1000 /\ ∀ p H', New H1 p (.lst ((List.range n).map fun i => V.int ((i : Nat) : Int))) H' -> Q (.ref p) H'
theorem b4G {a : Expr} {ta : TA} {p p2 pos pos2 : Pos} (cm : X.calm = true) (hm : X.mg "list" = none) (hm2 : X.mg "range" = none) (ha : PA X [a] ta) (hg : Gl X "list" := by rfl) (hg2 : Gl X "range" := by rfl)
  (hs : starEach [a] X.env = [(false, eval a X.env)] := by rfl)
  (he : starEach [Expr.Call (.Name "range" p2) [a] [] pos2] X.env = [(false, eval (Expr.Call (.Name "range" p2) [a] [] pos2) X.env)] := by rfl) :
  PE X (.Call (.Name "list" p) [.Call (.Name "range" p2) [a] [] pos2] [] pos) (c7I ta) := by
 intro pins s σ H Q I h
 refine wpAny_Call_Name_kw (a6B I hg hm (show bootBuiltins "list" = some (.type "list") by decide +kernel) ?_)
 refine PyProof.Rows.callWith_type1 ?_ he rfl
 rw [he]
 refine Calls.spliced_cons ?_
 refine Call_ (a6B I hg2 hm2 boot_range (PyProof.Rows.callWith_type1 (thn (ha pos2 pins s σ H _ I h) fun us s1 ⟨vs, H1, I1, r1, q1⟩ => ?_) hs rfl))
 obtain ⟨n, e, hn, q⟩ := q1
 subst e
 cases r1 with
 | cons r rr =>
  cases rr
  obtain ⟨t, rfl⟩ := r
  refine call_range_1 ?_
  refine Calls.spliced_nil ?_
  exact b5T I1 cm hn q
end
end L2
namespace L2
open PySem PySem.Spec PyProof.Rows
theorem c1B {K : Φρ} {a : Addr} {xs : List V} {ix : List (Option Nat)} {g : TG} {tt : TT} {te : TE} {σ : St} {H1 : Hp} {Q : VK} (Pv : Nat -> List V -> Hp -> Prop) (h0 : Pv 0 [] H1) (hl : ∀ i ys H, i <= xs.length -> Pv i ys H -> SqL K H a xs /\ ys.length <= sizeLine)
  (hs : ∀ (i : Nat) x ys H p H0, xs[i]? = some x -> Pv i ys H -> New H p (.tup [.int i, x]) H0 -> g (.ref p) (capt ix σ) H0 fun σ2 H2 => tt σ2 H2 fun b H3 => if b = true then te σ2 H3 fun v H4 => Pv (i + 1) (ys ++ [v]) H4 else Pv (i + 1) ys H3)
  (hd : ∀ ys H, Pv xs.length ys H -> ∀ p, H p = none -> Q (.ref p) (upd H p (.lst ys))) : a4K ix g tt te σ H1 Q (Ite K a) := by
 refine ⟨fun i m ys H => m = xs.length - i /\ i <= xs.length /\ Pv i ys H, ⟨xs.length, by simp, Nat.zero_le _, h0⟩, ?_⟩
 rintro i m ys H ⟨rfl, hi, p⟩
 obtain ⟨q, z⟩ := hl i ys H hi p
 by_cases hlt : i < xs.length
 ·refine .inr ⟨⟨xs, xs[i], q, by simp [hlt]⟩, z, Pv (i + 1), fun ys' H' p' => ⟨xs.length - (i + 1), by omega, rfl, hlt, p'⟩, fun x H' y => ?_⟩
  obtain ⟨pp, y0, rfl, nw, ex⟩ := y
  exact hs i y0 ys H pp H' (ex xs q) p nw
 ·have e : i = xs.length := by omega
  subst e
  exact .inl ⟨⟨xs, q, Nat.le_refl _⟩, z, hd ys H p⟩
end L2
namespace L2
open PySem PySem.Spec PyProof.Rows
section
variable {X : Cx}
end
end L2
namespace L2
open PySem PySem.Spec PyProof.Rows
section
variable {X : Cx}
def c9D : V -> List V -> Hp -> VK -> Prop := fun x vs H Q => ∃ l xs y, x = .ref l /\ vs = [y] /\ H l = some (.lst xs) /\ xs.length < 5000 /\ ∀ H', Chg H l (.lst (xs ++ [y])) H' -> Q .non H'
theorem a9C : MtM X "list.append" c9D := mt_append.weak fun x vs H Q ⟨l, xs, y, e1, e2, h, z, q⟩ => ⟨l, xs, y, e1, e2, h, Nat.lt_trans z (by decide), q _ Chg.mk0⟩
def c9E : R2 := fun x y H Q => ∃ l b xs zs, x = .ref l /\ y = .ref b /\ H l = some (.lst xs) /\ H b = some (.lst zs) /\ xs.length + zs.length <= 5000 /\ ∀ p H', New H p (.lst (xs ++ zs)) H' -> Q (.ref p) H'
theorem b7V : OpR X (binaryOp .Add) c9E := op_cat.weak fun x y H Q ⟨l, b, xs, zs, e1, e2, h1, h2, z, q⟩ => ⟨l, b, xs, zs, e1, e2, h1, h2, Nat.le_trans z (by decide), fun p hp => q p _ (New.mk0 hp)⟩
end
end L2
namespace L2
open PySem PySem.Spec PyProof.Rows
theorem us1 {A : Type} {us : List A} {P : List A -> Prop} (h : us.length = 1) (f : ∀ a, P [a]) : P us := by
 match us, h with
 | [a], _ => exact f a
theorem us2 {A : Type} {us : List A} {P : List A -> Prop} (h : us.length = 2) (f : ∀ a b, P [a, b]) : P us := by
 match us, h with
 | [a, b], _ => exact f a b
theorem us3 {A : Type} {us : List A} {P : List A -> Prop} (h : us.length = 3) (f : ∀ a b c, P [a, b, c]) : P us := by
 match us, h with
 | [a, b, c], _ => exact f a b c
theorem us4 {A : Type} {us : List A} {P : List A -> Prop} (h : us.length = 4) (f : ∀ a b c d, P [a, b, c, d]) : P us := by
 match us, h with
 | [a, b, c, d], _ => exact f a b c d
theorem us5 {A : Type} {us : List A} {P : List A -> Prop} (h : us.length = 5) (f : ∀ a b c d e, P [a, b, c, d, e]) : P us := by
 match us, h with
 | [a, b, c, d, e], _ => exact f a b c d e
theorem dn_mk1 {K : Φρ} {h : Heap} {mg : Str -> Option Value} {x : Str} {st : Stmt} {ps : List Str} {f : Addr} {oc : Value} {od an : Option Addr} {osl : Array (Option Value)} {kV doc pm cdv ct : Value} (X : K.In h) (G : h.Ns mainGlobals mg)
  (a : PySem.W.nsIn K mainGlobals x = some (some (.ref f))) (l : K.lookup f = some ⟨oc, od, .func (PySem.W.fnOf x x (a1K st) (a1H st) (a0F st) .none kV doc pm an cdv ct), osl⟩) (c : PySem.W.codeIn K cdv x = true) (k : PySem.W.keepIn K (.ref f) = true)
  (hp : ps.length = 1)
  (hb : ∀ (kV doc pm : Value) (an : Option Addr) (cdv ct : Value) (u0 : Value), bindArgs (PySem.W.fnOf x x (a1K st) (a1H st) (a0F st) .none kV doc pm an cdv ct) ⟨[u0], []⟩ = pure (ps.zip [u0])) :
  Nonempty (Dn K mg x st ps) :=
 b7A X G a l c k fun kV doc pm an cdv ct us hl => us1 (P := fun us => bindArgs (PySem.W.fnOf x x (a1K st) (a1H st) (a0F st) .none kV doc pm an cdv ct) ⟨us, []⟩ = pure (ps.zip us)) (hl.trans hp) fun u0 => hb kV doc pm an cdv ct u0
theorem dn_mk2 {K : Φρ} {h : Heap} {mg : Str -> Option Value} {x : Str} {st : Stmt} {ps : List Str} {f : Addr} {oc : Value} {od an : Option Addr} {osl : Array (Option Value)} {kV doc pm cdv ct : Value} (X : K.In h) (G : h.Ns mainGlobals mg)
  (a : PySem.W.nsIn K mainGlobals x = some (some (.ref f))) (l : K.lookup f = some ⟨oc, od, .func (PySem.W.fnOf x x (a1K st) (a1H st) (a0F st) .none kV doc pm an cdv ct), osl⟩) (c : PySem.W.codeIn K cdv x = true) (k : PySem.W.keepIn K (.ref f) = true)
  (hp : ps.length = 2)
  (hb : ∀ (kV doc pm : Value) (an : Option Addr) (cdv ct : Value) (u0 u1 : Value), bindArgs (PySem.W.fnOf x x (a1K st) (a1H st) (a0F st) .none kV doc pm an cdv ct) ⟨[u0, u1], []⟩ = pure (ps.zip [u0, u1])) :
  Nonempty (Dn K mg x st ps) :=
 b7A X G a l c k fun kV doc pm an cdv ct us hl => us2 (P := fun us => bindArgs (PySem.W.fnOf x x (a1K st) (a1H st) (a0F st) .none kV doc pm an cdv ct) ⟨us, []⟩ = pure (ps.zip us)) (hl.trans hp) fun u0 u1 => hb kV doc pm an cdv ct u0 u1
theorem dn_mk3 {K : Φρ} {h : Heap} {mg : Str -> Option Value} {x : Str} {st : Stmt} {ps : List Str} {f : Addr} {oc : Value} {od an : Option Addr} {osl : Array (Option Value)} {kV doc pm cdv ct : Value} (X : K.In h) (G : h.Ns mainGlobals mg)
  (a : PySem.W.nsIn K mainGlobals x = some (some (.ref f))) (l : K.lookup f = some ⟨oc, od, .func (PySem.W.fnOf x x (a1K st) (a1H st) (a0F st) .none kV doc pm an cdv ct), osl⟩) (c : PySem.W.codeIn K cdv x = true) (k : PySem.W.keepIn K (.ref f) = true)
  (hp : ps.length = 3)
  (hb : ∀ (kV doc pm : Value) (an : Option Addr) (cdv ct : Value) (u0 u1 u2 : Value), bindArgs (PySem.W.fnOf x x (a1K st) (a1H st) (a0F st) .none kV doc pm an cdv ct) ⟨[u0, u1, u2], []⟩ = pure (ps.zip [u0, u1, u2])) :
  Nonempty (Dn K mg x st ps) :=
 b7A X G a l c k fun kV doc pm an cdv ct us hl => us3 (P := fun us => bindArgs (PySem.W.fnOf x x (a1K st) (a1H st) (a0F st) .none kV doc pm an cdv ct) ⟨us, []⟩ = pure (ps.zip us)) (hl.trans hp) fun u0 u1 u2 => hb kV doc pm an cdv ct u0 u1 u2
theorem dn_mk4 {K : Φρ} {h : Heap} {mg : Str -> Option Value} {x : Str} {st : Stmt} {ps : List Str} {f : Addr} {oc : Value} {od an : Option Addr} {osl : Array (Option Value)} {kV doc pm cdv ct : Value} (X : K.In h) (G : h.Ns mainGlobals mg)
  (a : PySem.W.nsIn K mainGlobals x = some (some (.ref f))) (l : K.lookup f = some ⟨oc, od, .func (PySem.W.fnOf x x (a1K st) (a1H st) (a0F st) .none kV doc pm an cdv ct), osl⟩) (c : PySem.W.codeIn K cdv x = true) (k : PySem.W.keepIn K (.ref f) = true)
  (hp : ps.length = 4)
  (hb : ∀ (kV doc pm : Value) (an : Option Addr) (cdv ct : Value) (u0 u1 u2 u3 : Value), bindArgs (PySem.W.fnOf x x (a1K st) (a1H st) (a0F st) .none kV doc pm an cdv ct) ⟨[u0, u1, u2, u3], []⟩ = pure (ps.zip [u0, u1, u2, u3])) :
  Nonempty (Dn K mg x st ps) :=
 b7A X G a l c k fun kV doc pm an cdv ct us hl => us4 (P := fun us => bindArgs (PySem.W.fnOf x x (a1K st) (a1H st) (a0F st) .none kV doc pm an cdv ct) ⟨us, []⟩ = pure (ps.zip us)) (hl.trans hp) fun u0 u1 u2 u3 => hb kV doc pm an cdv ct u0 u1 u2 u3
theorem dn_mk5 {K : Φρ} {h : Heap} {mg : Str -> Option Value} {x : Str} {st : Stmt} {ps : List Str} {f : Addr} {oc : Value} {od an : Option Addr} {osl : Array (Option Value)} {kV doc pm cdv ct : Value} (X : K.In h) (G : h.Ns mainGlobals mg)
  (a : PySem.W.nsIn K mainGlobals x = some (some (.ref f))) (l : K.lookup f = some ⟨oc, od, .func (PySem.W.fnOf x x (a1K st) (a1H st) (a0F st) .none kV doc pm an cdv ct), osl⟩) (c : PySem.W.codeIn K cdv x = true) (k : PySem.W.keepIn K (.ref f) = true)
  (hp : ps.length = 5)
  (hb : ∀ (kV doc pm : Value) (an : Option Addr) (cdv ct : Value) (u0 u1 u2 u3 u4 : Value), bindArgs (PySem.W.fnOf x x (a1K st) (a1H st) (a0F st) .none kV doc pm an cdv ct) ⟨[u0, u1, u2, u3, u4], []⟩ = pure (ps.zip [u0, u1, u2, u3, u4])) :
  Nonempty (Dn K mg x st ps) :=
 b7A X G a l c k fun kV doc pm an cdv ct us hl => us5 (P := fun us => bindArgs (PySem.W.fnOf x x (a1K st) (a1H st) (a0F st) .none kV doc pm an cdv ct) ⟨us, []⟩ = pure (ps.zip us)) (hl.trans hp) fun u0 u1 u2 u3 u4 => hb kV doc pm an cdv ct u0 u1 u2 u3 u4
end L2
namespace L2
open PySem PySem.Spec PyProof.Rows
section
variable {κ : Type} [DecidableEq κ]
end
section
variable {P : Program} {w : World} {H : Hp} {h : Heap} {a : Addr}
end
section
variable {X : Cx} {pins : List (Addr × Obj)} {σ : St} {H : Hp} {s : Shared} {a : Addr} {y v : V} {u r : Value} {o : Option V} {A : Around} {E : Value -> Shared -> Prop}
end
section
variable {X : Cx} {pins : List (Addr × Obj)} {σ : St} {H : Hp} {s : Shared} {a : Addr} {kvs : List (Key × V)} {k : Key} {u : Value} {A : Around} {E : Value -> Shared -> Prop}
end
section
variable {X : Cx} {o i e value : Expr} {pos pos' tpos : Pos} {td ty tv : TE}
end
section
variable {X : Cx} {pos : Pos}
end
end L2
namespace L2
open PySem PySem.Spec PyProof.Rows
section
variable {X : Cx}
end
end L2
namespace L2
open PySem PySem.Spec PyProof.Rows
section
variable {X : Cx} {pins : List (Addr × Obj)} {σ : St} {H : Hp} {s : Shared} {d : Addr} {kvs : List (Key × V)}
end
section
variable {X : Cx} {tg : Expr}
end
end L2
namespace L2
open PySem PySem.Spec PyProof.Rows
end L2
namespace L2
open PySem PySem.Spec PyProof.Rows
section
variable {X : Cx}
end
end L2
namespace K
open PySem L2 Lw Bg
def top (i : Nat) : Stmt := PySem.Challenge.pw_bagwood_k42_whole_grown_or_ordered.main.body.getD i (.Pass ⟨0, 0, 0, 0⟩)
abbrev a9D : Stmt := top 5
theorem b3D : FnScope ["thing"] ["thing"] (a0F a9D) := ⟨rfl, rfl, rfl, by decide +kernel, rfl, by decide +kernel, by decide +kernel⟩
abbrev a9E : Stmt := top 6
theorem b3E : FnScope ["n", "thing"] ["n", "thing"] (a0F a9E) := ⟨rfl, rfl, rfl, by decide +kernel, rfl, by decide +kernel, by decide +kernel⟩
abbrev b4H : Stmt := top 7
theorem b7W : FnScope ["n", "places"] ["n", "places"] (a0F b4H) := ⟨rfl, rfl, rfl, by decide +kernel, rfl, by decide +kernel, by decide +kernel⟩
def c4M (K : Φρ) : Sp := fun vs H Q _ => ∃ (x : V) (t : Value) (bi bb : Bool), vs = [x] /\ TyOf K H x t /\ PySem.W.kitOne K t (.type "int") = some bi /\ PySem.W.kitOne K t (.type "bool") = some bb /\ Q (.bl (bi && !bb)) H
def c4N : Sp := fun vs H Q _ => ∃ (n : Int) (o : Option Int), vs = [.int n, upV o] /\ Q (.bl (a7P n o)) H
def c9F (K : Φρ) : Sp := fun vs H Q _ => ∃ (n : Int) (a : Addr) (ns : List Int), vs = [.int n, .ref a] /\ SqL K H a (ns.map V.int) /\ ns.length <= 1000 /\ ∀ H', Same H H' -> Q (.bl (setF n ns)) H'
section
variable {P : Program} {w : World} {K : Φρ} {mg : Str -> Option Value} {base : Heap}
abbrev DZ26 (K : PySem.W.Frag) (mg : Str -> Option Value) := Dn K mg "is_whole" a9D ["thing"]
set_option maxHeartbeats 4000000 in
theorem b3F (B : Bl mg) (dZ26 : DZ26 K mg) : FnOk P w K mg base CX0 1 dZ26.f dZ26.fd ["thing"] (c4M K) := by
 refine dZ26.F.ok b3D (fun vs H Q E h => ?_) (fun cdv A outer s H vs Q E hr h => ?_)
 ·obtain ⟨x, t, bi, bb, rfl, _⟩ := h
  rfl
 obtain ⟨x, t, bi, bb, rfl, ty, h1, h2, q⟩ := h
 refine ⟨_, (a0D (a0O (b0G (a0I (a1B (K := K) rfl) rfl B.isinstance (by decide +kernel) (a0A (pv 0) (a0A (a2N (v := .ty "int") (u := .type "int") rfl B.int (by decide +kernel) rfl) a0C))) (b0F (c5Y (a0I (a1B (K := K) rfl) rfl B.isinstance (by decide +kernel) (a0A (pv 0) (a0A (a2N (v := .ty "bool") (u := .type "bool") rfl B.bool (by decide +kernel) rfl) a0C)))))))), ?_⟩
 refine ⟨_, rfl, _, _, _, _, _, rfl, rfl, ty, h1, _, rfl, ?_⟩
 cases bi with
 | true =>
  refine iteT ?_
  exact ⟨_, rfl, _, _, _, _, _, rfl, rfl, ty, h2, _, rfl, q⟩
 | false => exact iteF q
abbrev DZ23 (K : PySem.W.Frag) (mg : Str -> Option Value) := Dn K mg "is_below" a9E ["n", "thing"]
set_option maxHeartbeats 4000000 in
theorem a7W (B : Bl mg) (dZ26 : DZ26 K mg) (dZ23 : DZ23 K mg) : FnOk P w K mg base CX0 2 dZ23.f dZ23.fd ["n", "thing"] c4N := by
 have gZ26 : FnOk P w K mg base CX0 1 _ _ _ _ := b3F B dZ26
 refine dZ23.F.ok b3E (fun vs H Q E h => ?_) (fun cdv A outer s H vs Q E hr h => ?_)
 ·obtain ⟨n, i, rfl, _⟩ := h
  rfl
 obtain ⟨n, o, rfl, q⟩ := h
 refine ⟨_, (a0D (a0O (b0G (a0G gZ26 hr rfl dZ26.m dZ26.F.kp dZ26.b .nil a0U (a0A (pv 1) a0C)) (b0F (c0D c6F b5G a0E (pv 1) (pv 0)))))), ?_⟩
 cases o with
 | none => exact ⟨_, rfl, _, _, _, _, rfl, TyOf.non, b2Q, b0W, _, rfl, iteF q⟩
 | some i =>
  refine ⟨_, rfl, _, _, _, _, rfl, TyOf.int i, b2P, b0V, _, rfl, ?_⟩
  refine iteT ?_
  refine ⟨_, rfl, _, _, rfl, rfl, _, rfl, ?_⟩
  refine ite2 (fun c => ?_) (fun c => ?_)
  ·have c' : 0 <= i := of_decide_eq_true c
   refine ⟨_, rfl, _, _, rfl, rfl, ?_⟩
   have e : a7P n (some i) = decide (i < n) := by unfold a7P; simp [c']
   rw [e] at q; exact q
  ·have c' : ¬ 0 <= i := of_decide_eq_false (Bool.eq_false_iff.mpr c)
   have e : a7P n (some i) = false := by unfold a7P; simp [c']
   rw [e] at q; exact q
abbrev DZ25 (K : PySem.W.Frag) (mg : Str -> Option Value) := Dn K mg "is_set" b4H ["n", "places"]
set_option maxHeartbeats 4000000 in
theorem b7X (B : Bl mg) (dZ26 : DZ26 K mg) (dZ23 : DZ23 K mg) (dZ25 : DZ25 K mg) : FnOk P w K mg base CX0 3 dZ25.f dZ25.fd ["n", "places"] (c9F K) := by
 have gZ23 : FnOk P w K mg base CX0 2 _ _ _ _ := a7W B dZ26 dZ23
 refine dZ25.F.ok b7W (fun vs H Q E h => ?_) (fun cdv A outer s H vs Q E hr h => ?_)
 ·obtain ⟨n, a, ns, rfl, _⟩ := h
  rfl
 obtain ⟨n, a, ns, rfl, hS, hz, q⟩ := h
 refine ⟨_, (a0B (a1Q (a3D (a0T (K := K) rfl (a0I (b0X (K := K) rfl rfl) rfl B.all (by decide +kernel) (a0A (a3W ["v", "n"] [none, some 0]  (by kernel_rfl) rfl (a0R (K := K) rfl (pv 1)) (fun _ _ _ _ _ => (a0H (i := 0) (show (["v", "n"] : List Str).Nodup by decide +kernel) rfl (Or.inl rfl))) (fun _ _ _ _ _ => a1G) (fun _ _ _ _ _ => (a0G gZ23 hr rfl dZ23.m dZ23.F.kp dZ23.b .nil a0U (a0A (pv 1) (a0A (pv 0) a0C))))) a0C)) (fun _ => rfl)))
   (a0D (a0O a4V))
   a0V)
   (a0D (a0O (a0I (b0X (K := K) rfl rfl) rfl B.all (by decide +kernel) (a0A (a3W ["k", "places"] [none, some 1]  (by kernel_rfl) rfl (a3H rfl B.range (a0A a0E (a0A (a0I (a0S (K := K) rfl) rfl B.len (by decide +kernel) (a0A (pv 1) a0C)) a0C))) (fun _ _ _ _ _ => (a0H (i := 0) (show (["k", "places"] : List Str).Nodup by decide +kernel) rfl (Or.inl rfl))) (fun _ _ _ _ _ => a1G) (fun _ _ _ _ _ => (a5T b5G (a1D (a0P (K := K) rfl) (pv 1) (a0K a3Q (pv 0) a0E) (fun _ _ => rfl)) (a1D (a0P (K := K) rfl) (pv 1) (pv 0) (fun _ _ => rfl)) (a0W _)))) a0C))))), ?_⟩
 refine ⟨_, rfl, a, rfl, ⟨_, hS⟩, ?_⟩
 refine a4L (fun x => match x with | .int v => some (.bl (decide (0 <= v /\ v < n))) | _ => none) hS (by rw [List.length_map]; exact hz) (fun x H1 N hx sm hN => ?_) (fun H1 p H1' sm hp => ?_)
 ·obtain ⟨v, hv, rfl⟩ := List.mem_map.mp hx
  exact ⟨_, rfl, _, rfl, n, some v, rfl, hN H1 sm⟩
 have e1 : (ns.map V.int).filterMap (fun x => match x with | .int v => some (V.bl (decide (0 <= v /\ v < n))) | _ => none) = (ns.map fun v => decide (0 <= v /\ v < n)).map V.bl := by
  rw [List.map_map]
  exact c3Q fun v _ => rfl
 rw [e1] at hp
 refine ⟨p, _, _, rfl, SqL.of hp.here, Truths.bls _, _, rfl, ?_⟩
 have s1 : Same H H1' := sm.trans hp.same
 have e2 : ((ns.map fun v => decide (0 <= v /\ v < n)).all id) = ns.all fun v => decide (0 <= v /\ v < n) := by rw [List.all_map]; rfl
 rw [e2]
 cases c : ns.all fun v => decide (0 <= v /\ v < n) with
 | false =>
  refine iteT ?_
  have e : setF n ns = false := by unfold setF; rw [c]; rfl
  rw [e] at q
  exact q _ s1
 | true =>
  refine iteF ?_
  have hl : ((ns.map V.int).length : Int) = ns.length := by rw [List.length_map]
  refine ⟨_, rfl, a, _, rfl, .inl (s1.seq hS), 1, _, rfl, ⟨by decide, by decide, by omega, by omega⟩, ?_⟩
  have en : ((((ns.map V.int).length : Nat) : Int) - 1).toNat = ns.length - 1 := by rw [List.length_map]; omega
  rw [en]
  refine a7N (fun i => some (.bl (decide (ns.getD i 0 < ns.getD (i + 1) 0)))) (by omega) (fun i H2 N hi sm2 hN => ?_) (fun H2 p2 H2' sm2 hp2 => ?_)
  ·refine ⟨_, rfl, _, rfl, _, _, rfl, rfl, a, _, _, _, rfl, rfl, sm2.seq (s1.seq hS), a9O (by omega) (by omega), _, rfl, _, rfl, a, _, _, _, rfl, rfl, sm2.seq (s1.seq hS), a9O (by omega) (by omega), _, _, rfl, rfl, ?_⟩
   have z1 : (1 + (i : Int) - 1).toNat = i := by omega
   have z2 : (1 + (i : Int)).toNat = i + 1 := by omega
   rw [z1, z2]
   exact hN H2 sm2
  ·have e3 : (List.range (ns.length - 1)).filterMap (fun i => some (V.bl (decide (ns.getD i 0 < ns.getD (i + 1) 0)))) = ((List.range (ns.length - 1)).map fun i => decide (ns.getD i 0 < ns.getD (i + 1) 0)).map V.bl := by
    rw [List.map_map]
    exact a3X fun _ _ => rfl
   rw [e3] at hp2
   refine ⟨p2, _, _, rfl, SqL.of hp2.here, Truths.bls _, ?_⟩
   have e : setF n ns = ((List.range (ns.length - 1)).map fun i => decide (ns.getD i 0 < ns.getD (i + 1) 0)).all id := by
    unfold setF b0Y; rw [c, List.all_map]; rfl
   rw [e] at q
   exact q _ (s1.trans (sm2.trans hp2.same))
end
def b1J (xs ys : List Int) : List Int := xs.filter fun v => !decide (v ∈ ys)
def b3G (xs ys : List Int) : List Int := xs.filter fun v => decide (v ∈ ys)
def a3O (ts : List ζζ) (v : Int) : List Int :=
 (ts.filterMap fun t => if t.2 = v then some t.1 else none) ++ ts.filterMap fun t => if t.1 = v then some t.2 else none
def c7J (K : Φρ) : Sp := fun vs H Q _ => ∃ (a b : Addr) (xs ys : List Int), vs = [.ref a, .ref b] /\ SqL K H a (xs.map V.int) /\ SqL K H b (ys.map V.int) /\ xs.length <= 1000 /\
 ∀ H0 p H', Same H H0 -> New H0 p (.lst ((b1J xs ys).map V.int)) H' -> Q (.ref p) H'
def c1C (K : Φρ) : Sp := fun vs H Q _ => ∃ (a b : Addr) (xs ys : List Int), vs = [.ref a, .ref b] /\ SqL K H a (xs.map V.int) /\ SqL K H b (ys.map V.int) /\ xs.length <= 1000 /\
 ∀ H0 p H', Same H H0 -> New H0 p (.lst ((b3G xs ys).map V.int)) H' -> Q (.ref p) H'
def c1D (K : Φρ) : Sp := fun vs H Q _ => ∃ (g : V) (n : Int) (ts : List ζζ) (v : Int), vs = [g, .int v] /\ GraphV K H g n ts /\ 0 <= v /\ v < n /\ ts.length <= 400 /\
 ∀ H0 p H', Same H H0 -> New H0 p (.lst ((a3O ts v).map V.int)) H' -> Q (.ref p) H'
theorem c2S (xs : List Int) (c : Int -> Bool) : (xs.map V.int).filterMap (fun x => match x with | .int v => if c v then some (.int v) else none | _ => none) = (xs.filter c).map V.int := by
 induction xs with
 | nil => rfl
 | cons x r ih =>
  rw [List.map_cons, List.filter_cons]
  cases e : c x with
  | true => rw [List.filterMap_cons_some (by simp only [e]; rfl), ih]; simp
  | false => rw [List.filterMap_cons_none (by simp only [e]; rfl), ih]; simp
theorem a3F {α β : Type} (f : α -> Option β) : ∀ ts : List α, (List.range ts.length).filterMap (fun j => (ts[j]?).bind f) = ts.filterMap f
 | [] => rfl
 | t :: r => by
  rw [List.length_cons, List.range_succ_eq_map]
  have ih := a3F f r
  have e2 : (List.map Nat.succ (List.range r.length)).filterMap (fun j => ((t :: r)[j]?).bind f) = r.filterMap f := by
   rw [List.filterMap_map, <- ih]
   rfl
  cases e : f t with
  | none => rw [List.filterMap_cons_none (by simpa using e), List.filterMap_cons_none e, e2]
  | some b => rw [List.filterMap_cons_some (b := b) (by simpa using e), List.filterMap_cons_some e, e2]
theorem b7Y {α : Type} (f : α -> Option Int) (g : α -> Option V) (h : ∀ a, g a = (f a).map V.int) (ts : List α) : ts.filterMap g = (ts.filterMap f).map V.int := by
 rw [List.map_filterMap]
 congr 1
 exact funext h
abbrev b7Z : Stmt := top 10
theorem c4O : FnScope ["one", "other"] ["one", "other"] (a0F b7Z) := ⟨rfl, rfl, rfl, by decide +kernel, rfl, by decide +kernel, by decide +kernel⟩
section
variable {P : Program} {w : World} {K : Φρ} {mg : Str -> Option Value} {base : Heap}
abbrev DZ30 (K : PySem.W.Frag) (mg : Str -> Option Value) := Dn K mg "less" b7Z ["one", "other"]
set_option maxHeartbeats 4000000 in
theorem b3H (B : Bl mg) (dZ30 : DZ30 K mg) : FnOk P w K mg base CX0 1 dZ30.f dZ30.fd ["one", "other"] (c7J K) := by
 refine dZ30.F.ok c4O (fun vs H Q E h => ?_) (fun cdv A outer s H vs Q E hr h => ?_)
 ·obtain ⟨a, b, xs, ys, rfl, _⟩ := h
  rfl
 obtain ⟨a, b, xs, ys, rfl, hA, hB, hz, q⟩ := h
 have hv : (A.deeper (PyProof.Rows.envOfC "less" (a0F b7Z) s.heap.objs.size dZ30.f cdv)).units + 65 < cLine := by have := hr.un; omega
 refine ⟨_, (a0D (a0O (a3W ["v", "other"] [none, some 1]  (by kernel_rfl) rfl (a0R (K := K) rfl (pv 0)) (fun _ _ _ _ _ => (a0H (i := 0) (show (["v", "other"] : List Str).Nodup by decide +kernel) rfl (Or.inl rfl))) (fun _ _ _ _ _ => (a4R (a0N (a4G (K := K) rfl hv) (pv 0) (pv 1) (by with_unfolding_all rfl)))) (fun _ _ _ _ _ => (pv 0))))), ?_⟩
 refine ⟨_, rfl, a, rfl, ⟨_, hA⟩, ?_⟩
 refine a4L (fun x => match x with | .int v => if !decide (v ∈ ys) then some (.int v) else none | _ => none) hA (by rw [List.length_map]; exact hz) (fun x H1 N hx sm hN => ?_) (fun H1 p H1' sm hp => ?_)
 ·obtain ⟨v, hv, rfl⟩ := List.mem_map.mp hx
  have hN' := hN H1 sm
  refine ⟨_, rfl, _, rfl, b0Z (sm.seq hB) ⟨_, rfl, ?_⟩⟩
  dsimp only at hN'
  cases c : decide (v ∈ ys) with
  | true => rw [c] at hN'; exact iteF hN'
  | false => rw [c] at hN'; exact iteT ⟨_, rfl, hN'⟩
 ·rw [c2S] at hp
  exact q _ _ _ sm hp
end
abbrev a9T : Stmt := top 8
theorem b8A : FnScope ["one", "other"] ["one", "other"] (a0F a9T) := ⟨rfl, rfl, rfl, by decide +kernel, rfl, by decide +kernel, by decide +kernel⟩
section
variable {P : Program} {w : World} {K : Φρ} {mg : Str -> Option Value} {base : Heap}
abbrev DZ15 (K : PySem.W.Frag) (mg : Str -> Option Value) := Dn K mg "common" a9T ["one", "other"]
set_option maxHeartbeats 4000000 in
theorem b8B (B : Bl mg) (dZ15 : DZ15 K mg) : FnOk P w K mg base CX0 1 dZ15.f dZ15.fd ["one", "other"] (c1C K) := by
 refine dZ15.F.ok b8A (fun vs H Q E h => ?_) (fun cdv A outer s H vs Q E hr h => ?_)
 ·obtain ⟨a, b, xs, ys, rfl, _⟩ := h
  rfl
 obtain ⟨a, b, xs, ys, rfl, hA, hB, hz, q⟩ := h
 have hv : (A.deeper (PyProof.Rows.envOfC "common" (a0F a9T) s.heap.objs.size dZ15.f cdv)).units + 65 < cLine := by have := hr.un; omega
 refine ⟨_, (a0D (a0O (a3W ["v", "other"] [none, some 1]  (by kernel_rfl) rfl (a0R (K := K) rfl (pv 0)) (fun _ _ _ _ _ => (a0H (i := 0) (show (["v", "other"] : List Str).Nodup by decide +kernel) rfl (Or.inl rfl))) (fun _ _ _ _ _ => (a4R (a0N (b2R (K := K) rfl hv) (pv 0) (pv 1) (by with_unfolding_all rfl)))) (fun _ _ _ _ _ => (pv 0))))), ?_⟩
 refine ⟨_, rfl, a, rfl, ⟨_, hA⟩, ?_⟩
 refine a4L (fun x => match x with | .int v => if decide (v ∈ ys) then some (.int v) else none | _ => none) hA (by rw [List.length_map]; exact hz) (fun x H1 N hx sm hN => ?_) (fun H1 p H1' sm hp => ?_)
 ·obtain ⟨v, hv, rfl⟩ := List.mem_map.mp hx
  have hN' := hN H1 sm
  refine ⟨_, rfl, _, rfl, c2Q (sm.seq hB) ⟨_, rfl, ?_⟩⟩
  dsimp only at hN'
  cases c : decide (v ∈ ys) with
  | true => rw [c] at hN'; exact iteT ⟨_, rfl, hN'⟩
  | false => rw [c] at hN'; exact iteF hN'
 ·rw [c2S] at hp
  exact q _ _ _ sm hp
end
abbrev b8C : Stmt := top 9
theorem c1E : FnScope ["one", "other"] ["one", "other"] (a0F b8C) := ⟨rfl, rfl, rfl, by decide +kernel, rfl, by decide +kernel, by decide +kernel⟩
theorem b1K {p q : Int -> Bool} (h : ∀ v, 0 <= v -> v < 16 -> p v = q v) : upF p = upF q := by
 unfold upF
 refine List.filter_congr fun v hv => ?_
 obtain ⟨i, hi, rfl⟩ := List.mem_map.mp hv
 have := List.mem_range.mp hi
 exact h _ (by omega) (by omega)
def a2Y (xs ys : List Int) : List Int := upF fun v => decide (v ∈ xs \/ v ∈ ys)
def c4P (K : Φρ) : Sp := fun vs H Q _ => ∃ (a b : Addr) (xs ys : List Int), vs = [.ref a, .ref b] /\ SqL K H a (xs.map V.int) /\ SqL K H b (ys.map V.int) /\ b3C xs /\ b3C ys /\
 ∀ H0 p H', Same H H0 -> New H0 p (.lst ((a2Y xs ys).map V.int)) H' -> Q (.ref p) H'
section
variable {P : Program} {w : World} {K : Φρ} {mg : Str -> Option Value} {base : Heap}
abbrev DZ27 (K : PySem.W.Frag) (mg : Str -> Option Value) := Dn K mg "joint" b8C ["one", "other"]
set_option maxHeartbeats 4000000 in
theorem b4I (B : Bl mg) (dZ27 : DZ27 K mg) : FnOk P w K mg base CX0 1 dZ27.f dZ27.fd ["one", "other"] (c4P K) := by
 refine dZ27.F.ok c1E (fun vs H Q E h => ?_) (fun cdv A outer s H vs Q E hr h => ?_)
 ·obtain ⟨a, b, xs, ys, rfl, _⟩ := h
  rfl
 obtain ⟨a, b, xs, ys, rfl, hA, hB, sA, sB, q⟩ := h
 refine ⟨_, (a0D (a0O (a0I (b1H (w := w) rfl rfl) rfl B.sorted (by decide +kernel) (a0A (a0K (c7H (w := w) rfl) (a2V (b1G (K := K) (w := w) rfl rfl rfl) rfl B.set (by decide +kernel) (a0A (pv 0) a0C)) (a2V (b1G (K := K) (w := w) rfl rfl rfl) rfl B.set (by decide +kernel) (a0A (pv 1) a0C))) a0C)))), ?_⟩
 refine ⟨_, rfl, a, xs, rfl, hA, sA, fun p1 L1 H1 n1 m1 => ?_⟩
 refine ⟨_, rfl, b, ys, rfl, n1.same.seq hB, sB, fun p2 L2 H2 n2 m2 => ?_⟩
 refine ⟨p1, p2, L1, L2, rfl, rfl, n2.ne n1.here, n2.same _ _ n1.here, n2.here, fun p3 L H3 n3 m3 => ?_⟩
 refine ⟨p3, false, L, rfl, n3.here, fun p4 H4 n4 => ?_⟩
 have e : (upF fun v => decide (v.toNat ∈ L)) = a2Y xs ys := b1K fun v h0 h1 => by
  have ev : ((v.toNat : Nat) : Int) = v := by omega
  rw [decide_eq_decide, m3 v.toNat, m1 v.toNat, m2 v.toNat, ev]
 rw [e] at n4
 exact q H3 p4 H4 (n1.same.trans (n2.same.trans n3.same)) n4
end
abbrev b4J : Stmt := top 12
theorem sc_around : FnScope ["graph", "v", "lesser", "greater"] ["graph", "v"] (a0F b4J) := ⟨rfl, rfl, rfl, by decide +kernel, rfl, by decide +kernel, by decide +kernel⟩
section
variable {P : Program} {w : World} {K : Φρ} {mg : Str -> Option Value} {base : Heap}
abbrev DZ13 (K : PySem.W.Frag) (mg : Str -> Option Value) := Dn K mg "around" b4J ["graph", "v"]
set_option maxHeartbeats 4000000 in
theorem b1L (B : Bl mg) (dZ26 : DZ26 K mg) (dZ23 : DZ23 K mg) (dZ13 : DZ13 K mg) : FnOk P w K mg base CX0 3 dZ13.f dZ13.fd ["graph", "v"] (c1D K) := by
 have gZ23 : FnOk P w K mg base CX0 2 _ _ _ _ := a7W B dZ26 dZ23
 refine dZ13.F.ok sc_around (fun vs H Q E h => ?_) (fun cdv A outer s H vs Q E hr h => ?_)
 ·obtain ⟨g, n, ts, v, rfl, _⟩ := h
  rfl
 obtain ⟨g, n, ts, v, rfl, hG, v0, v1, hz, q⟩ := h
 obtain ⟨pg, ta, rfl, hP, hT⟩ := hG
 obtain ⟨ys, hy, hq, hzt⟩ := id hT
 have hlt : ys.length = ts.length := Paired.length hq
 refine ⟨_, (a0B (a1Q (a3D (a0T (K := K) rfl (a0G gZ23 hr rfl dZ23.m dZ23.F.kp dZ23.b .nil a0U (a0A (a1D (a2A (K := K) rfl) (pv 0) a0E (fun _ _ => rfl)) (a0A (pv 1) a0C))) (fun _ => rfl)))
   (a0D b3U)
   a0V)
   (a0B (a1W (i := 2) ["a", "b", "v"] [none, none, some 1] sc_around.nd rfl rfl (by kernel_rfl) rfl (a0R (K := K) rfl (a1D (a2A (K := K) rfl) (pv 0) a0E (fun _ _ => rfl))) (fun _ _ _ _ _ => (a2R (K := K) (n := 2) rfl rfl (a0Z (a0H (i := 0) (show (["a", "b", "v"] : List Str).Nodup by decide +kernel) rfl (Or.inl rfl)) (a0Z (a0H (i := 1) (show (["a", "b", "v"] : List Str).Nodup by decide +kernel) rfl (Or.inl rfl)) a2P)))) (fun _ _ _ _ _ => (a4R (a0N a3U (pv 1) (pv 2) (a0W _)))) (fun _ _ _ _ _ => (pv 0)) (by rfl))
   (a0B (a1W (i := 3) ["a", "b", "v"] [none, none, some 1] sc_around.nd rfl rfl (by kernel_rfl) rfl (a0R (K := K) rfl (a1D (a2A (K := K) rfl) (pv 0) a0E (fun _ _ => rfl))) (fun _ _ _ _ _ => (a2R (K := K) (n := 2) rfl rfl (a0Z (a0H (i := 0) (show (["a", "b", "v"] : List Str).Nodup by decide +kernel) rfl (Or.inl rfl)) (a0Z (a0H (i := 1) (show (["a", "b", "v"] : List Str).Nodup by decide +kernel) rfl (Or.inl rfl)) a2P)))) (fun _ _ _ _ _ => (a4R (a0N a3U (pv 0) (pv 2) (a0W _)))) (fun _ _ _ _ _ => (pv 1)) (by rfl))
   (a0D (a0O (a0K c3P (pv 2) (pv 3))))))), ?_⟩
 have hb : a7P n (some v) = true := by unfold a7P; simp [v0, v1]
 refine ⟨_, rfl, pg, _, _, _, rfl, rfl, hP, rfl, _, rfl, n, some v, rfl, _, rfl, ?_⟩
 rw [hb]
 refine iteF ?_
 refine ⟨_, rfl, pg, _, _, _, rfl, rfl, hP, rfl, ta, rfl, ⟨_, hy⟩, ?_⟩
 refine a7O (fun j => (ts[j]?).bind fun t => if t.2 = v then some (V.int t.1) else none) hy (by omega) (fun j x H3 N hj s3 hN => ?_) (fun H3 p1 H4 s3 nw => ?_)
 ·obtain ⟨t, ht, ⟨pt, rfl, hTt⟩⟩ := a0X hq hj
  have hN' := hN H3 s3
  rw [ht] at hN'
  refine ⟨pt, _, rfl, s3.tupq hTt, rfl, _, _, rfl, _, _, rfl, rfl, _, rfl, _, rfl, rfl, _, rfl, ?_⟩
  refine ite2 (fun c => ?_) (fun c => ?_)
  ·have c' : V.int t.2 = V.int v := of_decide_eq_true c
   have c2 : t.2 = v := by injection c'
   dsimp only [Option.bind] at hN'
   rw [if_pos c2] at hN'
   exact ⟨_, rfl, hN'⟩
  ·have c' : ¬ V.int t.2 = V.int v := of_decide_eq_false (Bool.eq_false_iff.mpr c)
   have c2 : ¬ t.2 = v := fun z => c' (by rw [z])
   dsimp only [Option.bind] at hN'
   rw [if_neg c2] at hN'
   exact hN'
 rw [hlt, a3F, b7Y (fun t => if t.2 = v then some t.1 else none) _ (fun t => by split <;> rfl)] at nw
 have s4 := s3.trans nw.same
 refine ⟨_, rfl, pg, _, _, _, rfl, rfl, s4.tupq hP, rfl, ta, rfl, ⟨_, s4.seq hy⟩, ?_⟩
 refine a7O (fun j => (ts[j]?).bind fun t => if t.1 = v then some (V.int t.2) else none) (s4.seq hy) (by omega) (fun j x H5 N hj s5 hN => ?_) (fun H5 p2 H6 s5 nw2 => ?_)
 ·obtain ⟨t, ht, ⟨pt, rfl, hTt⟩⟩ := a0X hq hj
  have hN' := hN H5 s5
  rw [ht] at hN'
  refine ⟨pt, _, rfl, (s4.trans s5).tupq hTt, rfl, _, _, rfl, _, _, rfl, rfl, _, rfl, _, rfl, rfl, _, rfl, ?_⟩
  refine ite2 (fun c => ?_) (fun c => ?_)
  ·have c' : V.int t.1 = V.int v := of_decide_eq_true c
   have c2 : t.1 = v := by injection c'
   dsimp only [Option.bind] at hN'
   rw [if_pos c2] at hN'
   exact ⟨_, rfl, hN'⟩
  ·have c' : ¬ V.int t.1 = V.int v := of_decide_eq_false (Bool.eq_false_iff.mpr c)
   have c2 : ¬ t.1 = v := fun z => c' (by rw [z])
   dsimp only [Option.bind] at hN'
   rw [if_neg c2] at hN'
   exact hN'
 rw [hlt, a3F, b7Y (fun t => if t.1 = v then some t.2 else none) _ (fun t => by split <;> rfl)] at nw2
 refine ⟨_, rfl, _, rfl, p1, p2, _, _, rfl, rfl, (s5.trans nw2.same) _ _ nw.here, nw2.here, ?_, fun p3 H7 nw3 => ?_⟩
 ·rw [List.length_map, List.length_map]
  have h1 := List.length_filterMap_le (fun t : Int × Int => if t.2 = v then some t.1 else none) ts
  have h2 := List.length_filterMap_le (fun t : Int × Int => if t.1 = v then some t.2 else none) ts
  omega
 ·rw [<- List.map_append] at nw3
  exact q _ _ _ (s4.trans (s5.trans nw2.same)) nw3
end
abbrev c7K : Stmt := top 16
theorem sc_rim : FnScope ["graph", "places", "tied", "v"] ["graph", "places"] (a0F c7K) := ⟨rfl, rfl, rfl, by decide +kernel, rfl, by decide +kernel, by decide +kernel⟩
theorem tied_mem {ts : List ζζ} {u v : Int} : u ∈ a3O ts v ↔ (u, v) ∈ ts \/ (v, u) ∈ ts := by
 unfold a3O
 rw [List.mem_append, List.mem_filterMap, List.mem_filterMap]
 constructor
 ·rintro (⟨t, ht, e⟩ | ⟨t, ht, e⟩)
  ·split at e
   ·rename_i c
    injection e with e
    subst e; subst c
    exact .inl ht
   ·cases e
  ·split at e
   ·rename_i c
    injection e with e
    subst e; subst c
    exact .inr ht
   ·cases e
 ·rintro (h | h)
  ·exact .inl ⟨_, h, by simp⟩
  ·exact .inr ⟨_, h, by simp⟩
def b1M (ts : List ζζ) (ps : List Int) (u : Int) : Bool := ps.any fun v => decide (u ∈ a3O ts v)
def rimF (ts : List ζζ) (ps : List Int) : List Int := b1J (upF (b1M ts ps)) ps
theorem b8D (p : Int -> Bool) : b3C (upF p) := fun n hn => by
 obtain ⟨a, b, _⟩ := mem_upF.mp hn
 exact ⟨a, b⟩
theorem b8E (p : Int -> Bool) : (upF p).length <= 16 := by
 unfold upF
 refine Nat.le_trans (List.length_filter_le _ _) ?_
 simp
theorem b1N {ts : List ζζ} {v : Int} (h : ∀ t ∈ ts, 0 <= t.1 /\ t.1 < 16 /\ 0 <= t.2 /\ t.2 < 16) : b3C (a3O ts v) := fun u hu => by
 rcases tied_mem.mp hu with c | c
 ·have := h _ c; exact ⟨this.1, this.2.1⟩
 ·have := h _ c; exact this.2.2
def c9G (K : Φρ) : Sp := fun vs H Q _ => ∃ (g : V) (n : Int) (ts : List ζζ) (b : Addr) (ps : List Int), vs = [g, .ref b] /\ GraphV K H g n ts /\ n <= 16 /\ ts.length <= 400 /\ (∀ t ∈ ts, 0 <= t.1 /\ t.1 < 16 /\ 0 <= t.2 /\ t.2 < 16) /\ SqL K H b (ps.map V.int) /\ (∀ v ∈ ps, 0 <= v /\ v < n) /\
 ∀ H0 p H', Same H H0 -> New H0 p (.lst ((rimF ts ps).map V.int)) H' -> Q (.ref p) H'
section
variable {P : Program} {w : World} {K : Φρ} {mg : Str -> Option Value} {base : Heap}
abbrev DZ38 (K : PySem.W.Frag) (mg : Str -> Option Value) := Dn K mg "rim" c7K ["graph", "places"]
set_option maxHeartbeats 4000000 in
theorem c7L (B : Bl mg) (dZ26 : DZ26 K mg) (dZ23 : DZ23 K mg) (dZ30 : DZ30 K mg) (dZ27 : DZ27 K mg) (dZ13 : DZ13 K mg) (dZ38 : DZ38 K mg) : FnOk P w K mg base CX0 4 dZ38.f dZ38.fd ["graph", "places"] (c9G K) := by
 have gZ27 : FnOk P w K mg base CX0 3 _ _ _ _ := (b4I B dZ27).mono (by decide)
 have gZ30 : FnOk P w K mg base CX0 3 _ _ _ _ := (b3H B dZ30).mono (by decide)
 have gZ13 : FnOk P w K mg base CX0 3 _ _ _ _ := b1L B dZ26 dZ23 dZ13
 refine dZ38.F.ok sc_rim (fun vs H Q E h => ?_) (fun cdv A outer s H vs Q E hr h => ?_)
 ·obtain ⟨g, n, ts, b, ps, rfl, _⟩ := h
  rfl
 obtain ⟨g, n, ts, b, ps, rfl, hG, hn, hz, ht, hB, hin, q⟩ := h
 refine ⟨_, (a0B (a0M (i := 2) sc_rim.nd rfl (Or.inl rfl) (a2S a0C))
   (a0B (a1I PassesOwn.never rfl (a0R (K := K) rfl (pv 1)) (a0H (i := 3) sc_rim.nd rfl (Or.inl rfl))
   (a0D (a0M (i := 2) sc_rim.nd rfl (Or.inl rfl) (a0G gZ27 hr rfl dZ27.m dZ27.F.kp dZ27.b .nil a0U (a0A (pv 2) (a0A (a0G gZ13 hr rfl dZ13.m dZ13.F.kp dZ13.b .nil a0U (a0A (pv 0) (a0A (pv 3) a0C))) a0C))))))
   (a0D (a0O (a0G gZ30 hr rfl dZ30.m dZ30.F.kp dZ30.b .nil a0U (a0A (pv 2) (a0A (pv 1) a0C))))))), ?_⟩
 refine ⟨(by show 0 <= 1000; decide), fun p0 H0 n0 => ?_⟩
 refine ⟨_, rfl, b, rfl, ⟨_, n0.same.seq hB⟩, ?_⟩
 refine a2E (xs := ps.map V.int) (fun i σ H' => ∃ (p : Addr) (pl : Option V), σ = [some g, some (.ref b), some (.ref p), pl] /\ Same H H' /\ H' p = some (.lst ((upF (b1M ts (ps.take i))).map V.int))) ⟨p0, none, rfl, n0.same, ?_⟩ (fun i σ H' _ ⟨p, pl, _, s, _⟩ => s.seq hB) ?_ ?_
 ·rw [n0.here, List.take_zero]
  have e : upF (b1M ts []) = [] := by
   unfold upF b1M
   simp
  rw [e]
  rfl
 ·rintro i x σ H' hx ⟨p, pl, rfl, s, hp⟩
  rw [List.getElem?_map] at hx
  obtain ⟨v, hv, rfl⟩ := Option.map_eq_some_iff.mp hx
  have vm : v ∈ ps := List.mem_of_getElem? hv
  have vi := hin v vm
  have et : ps.take (i + 1) = ps.take i ++ [v] := by rw [List.take_succ, hv]; rfl
  refine ⟨_, rfl, _, rfl, _, rfl, g, n, ts, v, rfl, hG.same s, vi.1, vi.2, hz, fun H1 p1 H2 s1 n1 => ?_⟩
  have s2 : Same H' H2 := s1.trans n1.same
  refine ⟨p, p1, _, _, rfl, SqL.of (s2 _ _ hp), SqL.of n1.here, b8D _, b1N ht, fun H3 p2 H4 s3 n3 => ?_⟩
  refine ⟨p2, _, rfl, s.trans (s2.trans (s3.trans n3.same)), ?_⟩
  rw [n3.here, et]
  have e : a2Y (upF (b1M ts (ps.take i))) (a3O ts v) = upF (b1M ts (ps.take i ++ [v])) := b1K fun u h0 h1 => by
   unfold b1M
   rw [List.any_append, Bool.eq_iff_iff, decide_eq_true_iff, Bool.or_eq_true, mem_upF]
   simp [h0, h1]
  rw [e]
 ·rintro σ H' ⟨p, pl, rfl, s, hp⟩
  rw [List.length_map, List.take_length] at hp
  refine ⟨_, rfl, _, rfl, p, b, _, ps, rfl, SqL.of hp, s.seq hB, Nat.le_trans (b8E _) (by decide), fun H1 p1 H2 s1 n1 => ?_⟩
  exact q H1 p1 H2 (s.trans s1) n1
end
abbrev natV (l : List Nat) : List V := l.map fun (x : Nat) => V.int (x : Int)
theorem a2K : ∀ {m : Nat} {l : List Nat}, l.Nodup -> (∀ x ∈ l, x < m) -> l.length <= m
 | 0, l, _, lt => by
  cases l with
  | nil => exact Nat.le_refl _
  | cons x r => exact absurd (lt x List.mem_cons_self) (Nat.not_lt_zero _)
 | m + 1, l, nd, lt => by
  have ih := a2K (m := m) (nd.erase m) fun x hx => by
   obtain ⟨h1, h2⟩ := nd.mem_erase_iff.mp hx
   have := lt x h2
   omega
  rw [List.length_erase] at ih
  split at ih <;> omega
theorem a0Y (l : List Nat) : natV l = (l.map fun (x : Nat) => (x : Int)).map V.int := by
 unfold natV
 rw [List.map_map]
 rfl
theorem a2T {l : List Nat} {j : Nat} (h : j < l.length) : atI (natV l) (j : Int) = some (.int ((l.getD j 0 : Nat) : Int)) := a2Q (by
 unfold natV
 rw [List.getElem?_map, List.getElem?_eq_getElem h, τα, List.getElem?_eq_getElem h]; rfl)
abbrev a7X : Stmt := top 19
theorem b1O : FnScope ["mask"] ["mask"] (a0F a7X) := ⟨rfl, rfl, rfl, by decide +kernel, rfl, by decide +kernel, by decide +kernel⟩
abbrev a6L : Stmt := top 21
theorem sc_first_bags : FnScope ["graph", "bags", "a", "b"] ["graph"] (a0F a6L) := ⟨rfl, rfl, rfl, by decide +kernel, rfl, by decide +kernel, by decide +kernel⟩
abbrev a7Y : Stmt := top 22
theorem sc_taken_out : FnScope ["bags", "v", "bit", "left"] ["bags", "v"] (a0F a7Y) := ⟨rfl, rfl, rfl, by decide +kernel, rfl, by decide +kernel, by decide +kernel⟩
theorem a0J (l : List Nat) : (natV l).length = l.length := List.length_map _
def b5U : Sp := fun vs H Q _ => ∃ (m : Nat), vs = [.int (m : Int)] /\ m < 2 ^ 10 /\ ∀ H0 p H', Same H H0 -> New H0 p (.lst (natV (a0L m))) H' -> Q (.ref p) H'
def c4Q (K : Φρ) : Sp := fun vs H Q _ => ∃ (g : V) (n : Nat) (ts : List ζζ), vs = [g] /\ GraphV K H g n ts /\ (∀ t ∈ ts, 0 <= t.1 /\ t.1 < t.2 /\ t.2 < (n : Int)) /\ n <= 10 /\
 ∀ p ms H', Same H H' -> H p = none -> H' p = some (.lst (natV ms)) -> BagsM n ms (a3N n ts) -> Q (.ref p) H'
def c1F (K : Φρ) : Sp := fun vs H Q _ => ∃ (a : Addr) (n : Nat) (ms : List Nat) (R : Nat -> Nat -> Bool) (v : Nat), vs = [.ref a, .int (v : Int)] /\ SqL K H a (natV ms) /\ BagsM n ms R /\ v < n /\
 ∀ p H', Same H H' -> H p = none -> H' p = some (.lst (natV (b1D v ms))) -> Q (.ref p) H'
theorem shl1 (v : Nat) : ((1 : Int) * 2 ^ ((v : Nat) : Int).toNat) = ((2 ^ v : Nat) : Int) := by
 rw [Int.toNat_natCast, Int.one_mul]
 exact (Int.natCast_pow 2 v).symm
theorem b8F (n : Nat) (hn : n <= 10) : BagsM n ((List.range n).map fun v => 2 ^ v) (a3N n []) := by
 refine ⟨by simp, hn, fun m hm => ?_, fun v hv u => ?_, fun v u h => ?_⟩
 ·obtain ⟨v, hv, rfl⟩ := List.mem_map.mp hm
  have := List.mem_range.mp hv
  exact Nat.pow_lt_pow_right (by decide) (by omega)
 ·rw [τα, List.getElem?_map, List.getElem?_range hv]
  simp only [Option.map_some, Option.getD_some]
  rw [Nat.testBit_two_pow]
  unfold a3N
  by_cases c : v = u
  ·subst c; simp [hv]
  ·rw [decide_eq_false c]
   have : ¬ u = v := fun z => c z.symm
   simp [this]
 ·unfold a3N at h
  rw [Bool.and_eq_true] at h
  exact of_decide_eq_true h.1
theorem b8G {n : Nat} {ms : List Nat} {ts : List ζζ} {a b : Nat} (B : BagsM n ms (a3N n ts)) (ha : a < n) (hb : b < n) (ab : a ≠ b) :
  BagsM n ((ms.set a (ms.getD a 0 ||| 2 ^ b)).set b ((ms.set a (ms.getD a 0 ||| 2 ^ b)).getD b 0 ||| 2 ^ a)) (a3N n (ts ++ [((a : Int), (b : Int))])) := by
 have la : a < ms.length := by rw [B.len]; exact ha
 have lb : b < ms.length := by rw [B.len]; exact hb
 have gb : (ms.set a (ms.getD a 0 ||| 2 ^ b)).getD b 0 = ms.getD b 0 := by
  rw [τα, List.getElem?_set_ne ab, <- τα]
 rw [gb]
 have far : ∀ v u, a3N n (ts ++ [((a : Int), (b : Int))]) v u = true -> v < n /\ u < n := fun v u h => by
  unfold a3N at h
  rw [Bool.and_eq_true] at h
  exact of_decide_eq_true h.1
 have bit : ∀ v < n, ∀ u, (((ms.set a (ms.getD a 0 ||| 2 ^ b)).set b (ms.getD b 0 ||| 2 ^ a)).getD v 0).testBit u = a3N n (ts ++ [((a : Int), (b : Int))]) v u := fun v hv u => by
  have old := B.bit v hv u
  unfold a3N at old ⊢
  by_cases cb : v = b
  ·subst cb
   rw [τα, List.getElem?_set_self (by rw [List.length_set]; exact lb)]
   simp only [Option.getD_some]
   rw [Nat.testBit_or, old, Nat.testBit_two_pow]
   by_cases cu : u < n
   ·by_cases c : a = u
    ·subst c; simp [hv, cu]
    ·have c1 : ¬ u = a := fun z => c z.symm
     have c2 : ¬ ((u : Int) = (a : Int)) := by omega
     have c3 : ¬ ((v : Int) = (a : Int) /\ (u : Int) = (v : Int)) := by omega
     have c4 : ¬ ((v : Int) = (a : Int)) := by omega
     simp [hv, cu, c, c2, c4]
   ·have : ¬ a = u := by omega
    simp [cu, this]
  ·rw [τα, List.getElem?_set_ne (Ne.symm cb)]
   by_cases ca : v = a
   ·subst ca
    rw [List.getElem?_set_self la]
    simp only [Option.getD_some]
    rw [Nat.testBit_or, old, Nat.testBit_two_pow]
    by_cases cu : u < n
    ·by_cases c : b = u
     ·subst c; simp [hv, cu]
     ·have c2 : ¬ ((u : Int) = (b : Int)) := by omega
      have c4 : ¬ ((v : Int) = (b : Int)) := by omega
      simp [hv, cu, c, c2, c4]
    ·have : ¬ b = u := by omega
     simp [cu, this]
   ·rw [List.getElem?_set_ne (Ne.symm ca), <- τα, old]
    have c1 : ¬ ((v : Int) = (a : Int)) := by omega
    have c2 : ¬ ((v : Int) = (b : Int)) := by omega
    simp [c1, c2]
 refine ⟨by rw [List.length_set, List.length_set]; exact B.len, B.n10, fun m hm => ?_, bit, far⟩
 obtain ⟨j, hj, ej⟩ := List.getElem_of_mem hm
 have jn : j < n := by
  rw [List.length_set, List.length_set, B.len] at hj
  exact hj
 have e : ((ms.set a (ms.getD a 0 ||| 2 ^ b)).set b (ms.getD b 0 ||| 2 ^ a)).getD j 0 = m := by rw [τα, List.getElem?_eq_getElem hj, ej]; rfl
 refine a1T fun u hu => ?_
 rw [<- e, bit j jn] at hu
 have := far j u hu
 have := B.n10
 omega
theorem a9U (l : List Nat) (i x : Nat) : (natV l).set i (.int (x : Int)) = natV (l.set i x) := by
 unfold natV
 rw [List.map_set]
section
variable {P : Program} {w : World} {K : Φρ} {mg : Str -> Option Value} {base : Heap}
abbrev DZ37 (K : PySem.W.Frag) (mg : Str -> Option Value) := Dn K mg "places_of" a7X ["mask"]
set_option maxHeartbeats 4000000 in
theorem a6M (B : Bl mg) (dZ37 : DZ37 K mg) : FnOk P w K mg base CX0 1 dZ37.f dZ37.fd ["mask"] b5U := by
 refine dZ37.F.ok b1O (fun vs H Q E h => ?_) (fun cdv A outer s H vs Q E hr h => ?_)
 ·obtain ⟨m, rfl, _⟩ := h
  rfl
 obtain ⟨m, rfl, hm, q⟩ := h
 refine ⟨_, (a0D (a0O (a3W ["v", "mask"] [none, some 0]  (by kernel_rfl) rfl (a1U rfl B.range (a0A (b6Z (K := K) rfl PySem.F.plainAttrs_int PySem.F.slot_int_bit_length PySem.F.type_int_bit_length b7F (pv 0)) a0C)) (fun _ _ _ _ _ => (a0H (i := 0) (show (["v", "mask"] : List Str).Nodup by decide +kernel) rfl (Or.inl rfl))) (fun _ _ _ _ _ => (a4R (a0T (K := K) rfl (a0K a3T (pv 1) (a0K a1Z a0E (pv 0))) (fun _ => rfl)))) (fun _ _ _ _ _ => (pv 0))))), ?_⟩
 have hb := b2U hm
 refine ⟨_, rfl, rfl, m, rfl, rfl, _, rfl, by omega, by omega, ?_⟩
 rw [Int.toNat_natCast]
 refine a7N (lo := 0) (n := Builtin.Int.intBits (m : Int)) (fun j => if m.testBit j = true then some (.int ((j : Nat) : Int)) else none) (by omega) (fun j H7 N hj s7 hN => ?_) (fun H7 pd H8 s7 n8 => ?_)
 ·have hN' := hN H7 s7
  have ej : (0 + (j : Int)) = ((j : Nat) : Int) := by omega
  rw [ej]
  refine ⟨_, rfl, _, rfl, _, _, rfl, rfl, ⟨by omega, by omega, by decide⟩, _, _, rfl, rfl, _, rfl, ?_⟩
  dsimp only
  rw [shl1, a3M]
  cases c : m.testBit j with
  | true =>
   rw [if_pos c] at hN'
   have : m &&& 2 ^ j ≠ 0 := fun z => by rw [(a9Q m j).mp z] at c; cases c
   rw [show (((m &&& 2 ^ j : Nat) : Int) != 0) = true by simpa using this]
   exact iteT ⟨_, rfl, hN'⟩
  | false =>
   rw [if_neg (by rw [c]; decide)] at hN'
   rw [(a9Q m j).mpr c]
   exact iteF hN'
 ·have e : (List.range (Builtin.Int.intBits (m : Int))).filterMap (fun j => if m.testBit j = true then some (V.int ((j : Nat) : Int)) else none) = natV (a0L m) := by
   rw [<- b2V hm]
   unfold natV
   rw [<- List.filterMap_eq_filter, List.map_filterMap]
   congr 1
   funext j
   by_cases c : m.testBit j = true
   ·rw [if_pos c]; simp [Option.guard, c]
   ·rw [if_neg c]; simp [Option.guard, c]
  rw [e] at n8
  exact q _ _ _ s7 n8
abbrev DZ19 (K : PySem.W.Frag) (mg : Str -> Option Value) := Dn K mg "first_bags" a6L ["graph"]
set_option maxHeartbeats 4000000 in
theorem a5A (B : Bl mg) (dZ19 : DZ19 K mg) : FnOk P w K mg base CX0 1 dZ19.f dZ19.fd ["graph"] (c4Q K) := by
 refine dZ19.F.ok sc_first_bags (fun vs H Q E h => ?_) (fun cdv A outer s H vs Q E hr h => ?_)
 ·obtain ⟨g, n, ts, rfl, _⟩ := h
  rfl
 obtain ⟨g, n, ts, rfl, hG, okt, n10, q⟩ := h
 obtain ⟨pg, ta, rfl, hP, hT⟩ := hG
 obtain ⟨ys, hy, hq, hzt⟩ := id hT
 have hlt : ys.length = ts.length := Paired.length hq
 refine ⟨_, (a0B (a1W (i := 1) ["v"] [none] sc_first_bags.nd rfl rfl (by kernel_rfl) rfl (a1U rfl B.range (a0A (a1D (a2A (K := K) rfl) (pv 0) a0E (fun _ _ => rfl)) a0C)) (fun _ _ _ _ _ => (a0H (i := 0) (show (["v"] : List Str).Nodup by decide +kernel) rfl (Or.inl rfl))) (fun _ _ _ _ _ => a1G) (fun _ _ _ _ _ => (a0K a1Z a0E (pv 0))) (by rfl))
   (a0B (a1I PassesOwn.never rfl (a0R (K := K) rfl (a1D (a2A (K := K) rfl) (pv 0) a0E (fun _ _ => rfl))) (a2R (K := K) (n := 2) rfl rfl (a0Z (a0H (i := 2) sc_first_bags.nd rfl (Or.inl rfl)) (a0Z (a0H (i := 3) sc_first_bags.nd rfl (Or.inl rfl)) a2P)))
   (a0B (a6D (a0K a7L (a1D (a0P (K := K) rfl) (pv 1) (pv 2) (fun _ _ => rfl)) (a0K a1Z a0E (pv 3))) (a6C (pv 1) (pv 2) a2M))
   (a0D (a6D (a0K a7L (a1D (a0P (K := K) rfl) (pv 1) (pv 3) (fun _ _ => rfl)) (a0K a1Z a0E (pv 2))) (a6C (pv 1) (pv 3) a2M)))))
   (a0D (a0O (pv 1))))), ?_⟩
 refine ⟨_, rfl, pg, _, _, _, rfl, rfl, hP, rfl, _, rfl, by omega, by omega, ?_⟩
 rw [Int.toNat_natCast]
 refine a7N (lo := 0) (n := n) (fun j => some (.int ((2 ^ j : Nat) : Int))) (by omega) (fun j H7 N hj s7 hN => ?_) (fun H7 pb H8 s7 n8 => ?_)
 ·have ej : (0 + (j : Int)) = ((j : Nat) : Int) := by omega
  rw [ej]
  refine ⟨_, rfl, _, _, rfl, rfl, ⟨by omega, by omega, by decide⟩, ?_⟩
  dsimp only
  rw [shl1]
  exact hN H7 s7
 have e8 : (List.range n).filterMap (fun (j : Nat) => some (V.int ((2 ^ j : Nat) : Int))) = natV ((List.range n).map fun v => 2 ^ v) := by
  unfold natV
  rw [List.map_map]
  exact a3X fun _ _ => rfl
 rw [e8] at n8
 have s8 : Same H H8 := s7.trans n8.same
 refine ⟨_, rfl, pg, _, _, _, rfl, rfl, s8.tupq hP, rfl, ta, rfl, ⟨_, s8.seq hy⟩, ?_⟩
 have fb : H pb = none := s7.free n8.fresh
 refine a2E (xs := ys) (fun i σ H' => ∃ (aa bb : Option V) (ms : List Nat), σ = [some (.ref pg), some (.ref pb), aa, bb] /\ Same H H' /\ H' pb = some (.lst (natV ms)) /\ BagsM n ms (a3N n (ts.take i))) ⟨none, none, _, rfl, s8, n8.here, by rw [List.take_zero]; exact b8F n n10⟩ (fun i σ H' _ ⟨_, _, _, _, s, _⟩ => s.seq hy) ?_ ?_
 ·rintro i x σ H4 hx ⟨aa, bb, ms, rfl, s4, hb4, BM⟩
  obtain ⟨t, ht, ⟨pt, rfl, hTt⟩⟩ := a0X hq hx
  have tok := okt t (List.mem_of_getElem? ht)
  obtain ⟨a, ea⟩ : ∃ a : Nat, t.1 = (a : Int) := ⟨t.1.toNat, by omega⟩
  obtain ⟨b, eb⟩ : ∃ b : Nat, t.2 = (b : Int) := ⟨t.2.toNat, by omega⟩
  rw [ea, eb] at hTt
  have an : a < n := by omega
  have bn : b < n := by omega
  have la : a < ms.length := by rw [BM.len]; exact an
  have lb : b < ms.length := by rw [BM.len]; exact bn
  refine ⟨pt, _, rfl, s4.tupq hTt, rfl, _, _, rfl, _, _, rfl, rfl, ?_⟩
  refine ⟨_, rfl, _, rfl, pb, _, _, _, rfl, rfl, SqL.of hb4, a2T la, _, rfl, _, _, rfl, rfl, ⟨by omega, by omega, by decide⟩, _, _, rfl, rfl, ?_⟩
  dsimp only
  rw [shl1, a4M]
  refine ⟨_, rfl, _, rfl, pb, _, _, a, rfl, rfl, hb4, a3Z (by rw [List.length_map]; exact la), fun H5 c5 => ?_⟩
  rw [a9U] at c5
  have s5 : Same H H5 := s4.chg fb c5
  have lb' : b < (ms.set a (ms.getD a 0 ||| 2 ^ b)).length := by rw [List.length_set]; exact lb
  refine ⟨_, rfl, _, rfl, pb, _, _, _, rfl, rfl, SqL.of c5.here, a2T lb', _, rfl, _, _, rfl, rfl, ⟨by omega, by omega, by decide⟩, _, _, rfl, rfl, ?_⟩
  dsimp only
  rw [shl1, a4M]
  refine ⟨_, rfl, _, rfl, pb, _, _, b, rfl, rfl, c5.here, a3Z (by rw [List.length_map]; exact lb'), fun H6 c6 => ?_⟩
  rw [a9U] at c6
  refine ⟨_, _, _, rfl, s5.chg fb c6, c6.here, ?_⟩
  have et : ts.take (i + 1) = ts.take i ++ [((a : Int), (b : Int))] := by
   rw [List.take_succ, ht]
   simp [<- ea, <- eb]
  rw [et]
  exact b8G BM an bn (by omega)
 ·rintro σ H4 ⟨aa, bb, ms, rfl, s4, hb4, BM⟩
  rw [hlt, List.take_length] at BM
  exact ⟨_, rfl, q pb ms H4 s4 fb hb4 BM⟩
abbrev DZ40 (K : PySem.W.Frag) (mg : Str -> Option Value) := Dn K mg "taken_out" a7Y ["bags", "v"]
set_option maxHeartbeats 4000000 in
theorem b1P (B : Bl mg) (dZ40 : DZ40 K mg) : FnOk P w K mg base CX0 1 dZ40.f dZ40.fd ["bags", "v"] (c1F K) := by
 refine dZ40.F.ok sc_taken_out (fun vs H Q E h => ?_) (fun cdv A outer s H vs Q E hr h => ?_)
 ·obtain ⟨a, n, ms, R, v, rfl, _⟩ := h
  rfl
 obtain ⟨a, n, ms, R, v, rfl, hA, BM, hv, q⟩ := h
 have lv : v < ms.length := by rw [BM.len]; exact hv
 have n10 := BM.n10
 refine ⟨_, (a0B (a0M (i := 2) sc_taken_out.nd rfl (Or.inr rfl) (a0K a1Z a0E (pv 1)))
   (a0B (a1W (i := 3) ["bag", "bit", "bags", "v"] [none, some 2, some 0, some 1] sc_taken_out.nd rfl rfl (by kernel_rfl) rfl (a0R (K := K) rfl (pv 0)) (fun _ _ _ _ _ => (a0H (i := 0) (show (["bag", "bit", "bags", "v"] : List Str).Nodup by decide +kernel) rfl (Or.inl rfl))) (fun _ _ _ _ _ => a1G) (fun _ _ _ _ _ => (b3T (a0T (K := K) rfl (a0K a3T (pv 0) (pv 1)) (fun _ => rfl)) (a0K a3Q (a0K a7L (pv 0) (a1D (a0P (K := K) rfl) (pv 2) (pv 3) (fun _ _ => rfl))) (pv 1)) (pv 0))) (by rfl))
   (a0B (a6D a0E (a6C (pv 3) (pv 1) a2M))
   (a0D (a0O (pv 3)))))), ?_⟩
 refine ⟨_, rfl, _, _, rfl, rfl, ⟨by omega, by omega, by decide⟩, ?_⟩
 dsimp only
 rw [shl1]
 refine ⟨_, rfl, a, rfl, ⟨_, hA⟩, ?_⟩
 refine a4L (fun x => match x with | .int z => some (.int ((if z.toNat &&& 2 ^ v = 0 then z.toNat else (z.toNat ||| ms.getD v 0) - 2 ^ v : Nat) : Int)) | _ => none) hA (by rw [List.length_map, BM.len]; omega) (fun x H1 N hx s1 hN => ?_) (fun H1 p H2 s1 n2 => ?_)
 ·obtain ⟨m, hm, rfl⟩ := List.mem_map.mp hx
  have hN' := hN H1 s1
  dsimp only at hN'
  rw [Int.toNat_natCast] at hN'
  refine ⟨_, rfl, _, rfl, _, _, rfl, rfl, _, rfl, ?_⟩
  rw [a3M]
  by_cases c : m &&& 2 ^ v = 0
  ·rw [if_pos c] at hN'
   rw [c]
   exact iteF ⟨_, rfl, hN'⟩
  ·rw [if_neg c] at hN'
   rw [show (((m &&& 2 ^ v : Nat) : Int) != 0) = true by simpa using c]
   refine iteT ⟨_, rfl, _, rfl, _, rfl, a, _, _, _, rfl, rfl, s1.seq hA, a2T lv, _, _, rfl, rfl, _, rfl, _, _, rfl, rfl, ?_⟩
   rw [a4M]
   have tb : (m ||| ms.getD v 0).testBit v = true := by
    rw [Nat.testBit_or]
    have : m.testBit v = true := by
     cases e : m.testBit v with
     | true => rfl
     | false => exact absurd ((a9Q m v).mpr e) c
    rw [this]; rfl
   have ge := Nat.ge_two_pow_of_testBit tb
   have e : (((m ||| ms.getD v 0 : Nat) : Int) - ((2 ^ v : Nat) : Int)) = (((m ||| ms.getD v 0) - 2 ^ v : Nat) : Int) := by omega
   dsimp only
   rw [e]
   exact hN'
 have ez : (natV ms).filterMap (fun x => match x with | .int z => some (V.int ((if z.toNat &&& 2 ^ v = 0 then z.toNat else (z.toNat ||| ms.getD v 0) - 2 ^ v : Nat) : Int)) | _ => none) = natV (ms.map fun m => if m &&& 2 ^ v = 0 then m else (m ||| ms.getD v 0) - 2 ^ v) := by
  unfold natV
  rw [List.filterMap_map, List.map_map]
  refine a3X fun m _ => ?_
  simp only [Function.comp_apply, Int.toNat_natCast]
 rw [ez] at n2
 have lz : v < (ms.map fun m => if m &&& 2 ^ v = 0 then m else (m ||| ms.getD v 0) - 2 ^ v).length := by rw [List.length_map]; exact lv
 refine ⟨_, rfl, _, rfl, p, _, _, v, rfl, rfl, n2.here, a3Z (by rw [List.length_map]; exact lz), fun H3 c3 => ?_⟩
 have c3' := c3.here
 rw [show (V.int 0) = V.int ((0 : Nat) : Int) from rfl, a9U] at c3'
 exact ⟨_, rfl, q p H3 ((s1.trans n2.same).chg (s1.free n2.fresh) c3) (s1.free n2.fresh) c3'⟩
end
abbrev a6N : Stmt := top 20
theorem sc_mask_sizes : FnScope ["n", "sizes", "mask"] ["n"] (a0F a6N) := ⟨rfl, rfl, rfl, by decide +kernel, rfl, by decide +kernel, by decide +kernel⟩
def popF (m : Nat) : Nat := (a0L m).length
theorem b8H : popF 0 = 0 := by decide
theorem b8I {m : Nat} (h : m < 2 ^ 10) : popF m = popF (m / 2) + m % 2 := by
 have c : ∀ k : Nat, popF k = (List.range 10).countP k.testBit := fun k => by
  unfold popF a0L
  rw [List.countP_eq_length_filter]
 rw [c m, c (m / 2)]
 have e1 : (List.range 10).countP m.testBit = (if m.testBit 0 = true then 1 else 0) + (List.range 9).countP (m / 2).testBit := by
  rw [show List.range 10 = 0 :: (List.range 9).map Nat.succ from by decide, List.countP_cons, List.countP_map]
  rw [Nat.add_comm]
  congr 1
 have e2 : (List.range 10).countP (m / 2).testBit = (List.range 9).countP (m / 2).testBit := by
  rw [show List.range 10 = List.range 9 ++ [9] from by decide, List.countP_append]
  have z : (m / 2).testBit 9 = false := Nat.testBit_lt_two_pow (by omega)
  simp [z]
 rw [e1, e2, Nat.testBit_zero]
 by_cases d : m % 2 = 1
 ·rw [decide_eq_true d, if_pos rfl, d]; omega
 ·rw [decide_eq_false d, if_neg Bool.false_ne_true]; omega
def a1V (k : Nat) : List V := (List.range k).map fun m => V.int ((popF m : Nat) : Int)
theorem b1Q {k m : Nat} (h : m < k) : atI (a1V k) (m : Int) = some (.int ((popF m : Nat) : Int)) := a2Q (by
 unfold a1V
 rw [List.getElem?_map, List.getElem?_range h]; rfl)
theorem a4H (k : Nat) : (a1V k).length = k := by unfold a1V; simp
def c4R : Sp := fun vs H Q _ => ∃ (n : Nat), vs = [.int n] /\ n <= 10 /\ ∀ p H', New H p (.lst (a1V (2 ^ n))) H' -> Q (.ref p) H'
section
variable {P : Program} {w : World} {K : Φρ} {mg : Str -> Option Value} {base : Heap}
abbrev DZ32 (K : PySem.W.Frag) (mg : Str -> Option Value) := Dn K mg "mask_sizes" a6N ["n"]
set_option maxHeartbeats 4000000 in
theorem a5B (B : Bl mg) (dZ32 : DZ32 K mg) : FnOk P w K mg base CX0 1 dZ32.f dZ32.fd ["n"] c4R := by
 refine dZ32.F.ok sc_mask_sizes (fun vs H Q E h => ?_) (fun cdv A outer s H vs Q E hr h => ?_)
 ·obtain ⟨n, rfl, _⟩ := h
  rfl
 obtain ⟨n, rfl, n10, q⟩ := h
 have p10 : 2 ^ n <= 2 ^ 10 := Nat.pow_le_pow_right (by decide) n10
 have p0 : 0 < 2 ^ n := Nat.pow_pos (by decide)
 refine ⟨_, (a0B (a0M (i := 1) sc_mask_sizes.nd rfl (Or.inl rfl) (a2S (a0A a0E a0C)))
   (a0B (a1I PassesOwn.never rfl (a3H rfl B.range (a0A a0E (a0A (a0K a1Z a0E (pv 0)) a0C))) (a0H (i := 2) sc_mask_sizes.nd rfl (Or.inl rfl))
   (a0D (a2O (a3R (K := K) rfl PySem.F.plainAttrs_list PySem.F.slot_list_append PySem.F.type_list_append a9C (pv 1) (a0A (a0K a2U (a1D (a0P (K := K) rfl) (pv 1) (a0K b3W (pv 2) a0E) (fun _ _ => rfl)) (a0K a2C (pv 2) a0E)) a0C)))))
   (a0D (a0O (pv 1))))), ?_⟩
 refine ⟨(by show 1 <= 1000; decide), fun p H1 n1 => ?_⟩
 have e1 : [V.int 0] = a1V 1 := by
  unfold a1V
  show _ = [V.int ((popF 0 : Nat) : Int)]
  rw [b8H]; rfl
 rw [e1] at n1
 have sh := shl1 n
 obtain ⟨N, hN⟩ : ∃ N, N = 2 ^ n - 1 := ⟨_, rfl⟩
 refine ⟨_, rfl, _, _, rfl, rfl, ⟨by omega, by omega, by decide⟩, _, _, rfl, ⟨by decide, by decide, by rw [sh]; omega, by rw [sh]; omega⟩, ?_⟩
 rw [show ((1 : Int) * 2 ^ ((n : Nat) : Int).toNat - 1).toNat = N by rw [sh]; omega]
 refine a2B (lo := 1) (n := N) (fun i σ H' => ∃ m : Option V, σ = [some (.int n), some (.ref p), m] /\ New H p (.lst (a1V (i + 1))) H') ⟨none, rfl, n1⟩ ?_ ?_
 ·rintro i σ H2 hi ⟨m, rfl, n2⟩
  have ei : (1 : Int) + (i : Int) = ((i + 1 : Nat) : Int) := by omega
  rw [ei]
  have eh : ((i + 1 : Nat) : Int) / 2 ^ (1 : Int).toNat = (((i + 1) / 2 : Nat) : Int) := by
   rw [show (1 : Int).toNat = 1 from rfl]
   omega
  have em : ((popF ((i + 1) / 2) : Nat) : Int) + ((i + 1 : Nat) : Int) % 2 = ((popF (i + 1) : Nat) : Int) := by
   rw [b8I (m := i + 1) (by omega)]
   omega
  refine ⟨_, rfl, .inl ⟨rfl, _, SqL.of n2.here⟩, _, rfl, _, rfl, _, _, rfl, rfl, (show (0 : Int) <= 1 by decide), p, _, _, V.int ((popF ((i + 1) / 2) : Nat) : Int), rfl, rfl, SqL.of n2.here, (by rw [eh]; exact b1Q (by omega)), _, rfl, _, _, rfl, rfl, (show (0 : Int) < _ by decide), _, _, rfl, rfl, ?_⟩
  dsimp only
  rw [em]
  refine ⟨p, _, _, rfl, rfl, n2.here, by rw [a4H]; omega, fun H3 c3 => ?_⟩
  refine ⟨_, rfl, n2.fresh, ?_, fun b hb => (c3.rest b hb).trans (n2.rest b hb)⟩
  rw [c3.here]
  unfold a1V
  rw [List.range_succ (n := i + 1), List.map_append]
  rfl
 ·rintro σ H2 ⟨m, rfl, n2⟩
  rw [show N + 1 = 2 ^ n by omega] at n2
  exact ⟨_, rfl, q p H2 n2⟩
end
end K
namespace K
open PySem L2 Lw Bg
def runR (n : Nat) (ts : List ζζ) (os : List Nat) : Nat -> Nat -> Bool := os.foldl (fun R v => a8L v R) (a3N n ts)
theorem a5C (n : Nat) (ts : List ζζ) (os : List Nat) (v : Nat) : runR n ts (os ++ [v]) = a8L v (runR n ts os) := by
 unfold runR
 rw [List.foldl_append]
 rfl
def a6O (n : Nat) (R : Nat -> Nat -> Bool) (v : Nat) : List Nat := (List.range n).filter fun u => R v u && !decide (u = v)
theorem b8J (n : Nat) (R : Nat -> Nat -> Bool) (v : Nat) : (a6O n R v).length <= n := by
 unfold a6O
 refine Nat.le_trans (List.length_filter_le _ _) ?_
 simp
def tieT (ts : List ζζ) (x y : Nat) : Bool := decide (((x : Int), (y : Int)) ∈ ts) || decide (((y : Int), (x : Int)) ∈ ts)
inductive PathT (ts : List ζζ) (S : List Nat) (x : Nat) : Nat -> Prop
 | one {u : Nat} (h : tieT ts x u = true) : PathT ts S x u
 | step {a u : Nat} (p : PathT ts S x a) (m : a ∈ S) (h : tieT ts a u = true) : PathT ts S x u
theorem PathT.mono {ts : List ζζ} {S S' : List Nat} {x u : Nat} (h : PathT ts S x u) (s : ∀ a ∈ S, a ∈ S') : PathT ts S' x u := by
 induction h with
 | one h => exact .one h
 | step p m h ih => exact .step ih (s _ m) h
theorem PathT.glue {ts : List ζζ} {S : List Nat} {x w u : Nat} (hw : w ∈ S) (a : PathT ts S x w) (b : PathT ts S w u) : PathT ts S x u := by
 induction b with
 | one h => exact .step a hw h
 | step p m h ih => exact .step ih m h
theorem PathT.split {ts : List ζζ} {S : List Nat} {x w u : Nat} (h : PathT ts (S ++ [w]) x u) : PathT ts S x u \/ (PathT ts S x w /\ PathT ts S w u) := by
 induction h with
 | one h => exact .inl (.one h)
 | @step a u p m h ih =>
  rcases List.mem_append.mp m with m | m
  ·rcases ih with ih | ⟨i1, i2⟩
   ·exact .inl (.step ih m h)
   ·exact .inr ⟨i1, .step i2 m h⟩
  ·have e := List.mem_singleton.mp m
   subst e
   rcases ih with ih | ⟨i1, _⟩
   ·exact .inr ⟨ih, .one h⟩
   ·exact .inr ⟨i1, .one h⟩
structure RunP (n : Nat) (ts : List ζζ) (S : List Nat) : Prop where
 path : ∀ x u, x < n -> u < n -> x ∉ S -> u ∉ S -> (runR n ts S x u = true ↔ x = u \/ PathT ts S x u)
 gone : ∀ x u, x < n -> x ∉ S -> u ∈ S -> runR n ts S x u = false
theorem b4K {n : Nat} {ts : List ζζ} : ∀ (k : Nat) (S : List Nat), S.length = k -> S.Nodup -> (∀ a ∈ S, a < n) -> RunP n ts S
 | 0, S, hl, _, _ => by
  have e : S = [] := List.eq_nil_of_length_eq_zero hl
  subst e
  refine ⟨fun x u hx hu _ _ => ?_, fun x u _ _ h => absurd h List.not_mem_nil⟩
  show a3N n ts x u = true ↔ _
  unfold a3N
  rw [decide_eq_true (show x < n /\ u < n from ⟨hx, hu⟩), Bool.true_and, Bool.or_assoc, Bool.or_eq_true, decide_eq_true_iff]
  constructor
  ·rintro (h | h)
   ·exact .inl h.symm
   ·exact .inr (.one h)
  ·rintro (h | h)
   ·exact .inl h.symm
   ·cases h with
    | one h => exact .inr h
    | step p m h => exact absurd m List.not_mem_nil
 | k + 1, S, hl, nd, hn => by
  have hne : S ≠ [] := fun z => by rw [z] at hl; cases hl
  obtain ⟨S', w, rfl⟩ : ∃ S' w, S = S' ++ [w] := ⟨S.dropLast, S.getLast hne, (List.dropLast_concat_getLast hne).symm⟩
  obtain ⟨nd', _, dis⟩ := List.nodup_append.mp nd
  have wS : w ∉ S' := fun h => dis w h w (List.mem_singleton.mpr rfl) rfl
  have wn : w < n := hn w (List.mem_append_right _ (List.mem_singleton.mpr rfl))
  have ih := b4K (ts := ts) k S' (by rw [List.length_append] at hl; exact Nat.succ.inj hl) nd' fun a ha => hn a (List.mem_append_left _ ha)
  have out : ∀ {x}, x ∉ S' ++ [w] -> x ∉ S' /\ x ≠ w := fun {x} h => ⟨fun z => h (List.mem_append_left _ z), fun z => h (List.mem_append_right _ (List.mem_singleton.mpr z))⟩
  refine ⟨fun x u hx hu h1 h2 => ?_, fun x u hx h1 h2 => ?_⟩
  ·obtain ⟨g1, n1⟩ := out h1
   obtain ⟨g2, n2⟩ := out h2
   rw [a5C]
   have q1 := ih.path x u hx hu g1 g2
   have q2 := ih.path x w hx wn g1 wS
   have q3 := ih.path w u wn hu wS g2
   have big : ∀ a ∈ S', a ∈ S' ++ [w] := fun a ha => List.mem_append_left _ ha
   have wm : w ∈ S' ++ [w] := List.mem_append_right _ (List.mem_singleton.mpr rfl)
   unfold a8L
   rw [if_neg n1]
   constructor
   ·intro h
    split at h
    ·rename_i c
     rw [Bool.and_eq_true, Bool.or_eq_true] at h
     rcases h.1 with z | z
     ·exact (q1.mp z).imp_right fun p => p.mono big
     ·have p1 := (q2.mp c).resolve_left n1
      have p2 := (q3.mp z).resolve_left fun y => n2 y.symm
      exact .inr (PathT.glue wm (p1.mono big) (p2.mono big))
    ·exact (q1.mp h).imp_right fun p => p.mono big
   ·intro h
    have main : runR n ts S' x u = true \/ (runR n ts S' x w = true /\ runR n ts S' w u = true) := by
     rcases h with h | h
     ·exact .inl (q1.mpr (.inl h))
     ·rcases h.split with p | ⟨p1, p2⟩
      ·exact .inl (q1.mpr (.inr p))
      ·exact .inr ⟨q2.mpr (.inr p1), q3.mpr (.inr p2)⟩
    rcases main with m | ⟨m1, m2⟩
    ·rw [m]
     split
     ·rw [decide_eq_false n2]; rfl
     ·rfl
    ·rw [if_pos m1, m2, decide_eq_false n2]; simp
  ·obtain ⟨g1, n1⟩ := out h1
   rw [a5C]
   unfold a8L
   rw [if_neg n1]
   rcases List.mem_append.mp h2 with h2 | h2
   ·rw [ih.gone x u hx g1 h2, ih.gone w u wn wS h2]
    split <;> rfl
   ·have e := List.mem_singleton.mp h2
    subst e
    split
    ·simp
    ·rename_i c; simpa using c
theorem a7Z {n : Nat} {ts : List ζζ} {S : List Nat} (nd : S.Nodup) (hn : ∀ a ∈ S, a < n) : RunP n ts S := b4K S.length S rfl nd hn
theorem b5V {n : Nat} {ts : List ζζ} {S S' : List Nat} {v : Nat} (nd : S.Nodup) (hn : ∀ a ∈ S, a < n) (pm : S'.Perm S) (hv : v < n) (hg : v ∉ S) : a6O n (runR n ts S') v = a6O n (runR n ts S) v := by
 have R1 := a7Z (ts := ts) nd hn
 have R2 := a7Z (ts := ts) (S := S') (pm.nodup_iff.mpr nd) fun a ha => hn a (pm.mem_iff.mp ha)
 have hg' : v ∉ S' := fun h => hg (pm.mem_iff.mp h)
 unfold a6O
 refine List.filter_congr fun u hu => ?_
 have hun := List.mem_range.mp hu
 congr 1
 by_cases c : u ∈ S
 ·rw [R1.gone v u hv hg c, R2.gone v u hv hg' (pm.mem_iff.mpr c)]
 ·have c' : u ∉ S' := fun h => c (pm.mem_iff.mp h)
  rw [Bool.eq_iff_iff, R1.path v u hv hun hg c, R2.path v u hv hun hg' c']
  constructor
  ·exact Or.imp_right fun p => p.mono fun a ha => pm.mem_iff.mp ha
  ·exact Or.imp_right fun p => p.mono fun a ha => pm.mem_iff.mpr ha
theorem a1J {ts : List ζζ} {x y : Nat} (h : tieT ts x y = true) : tieT ts y x = true := by
 unfold tieT at h ⊢
 rw [Bool.or_comm]; exact h
theorem PathT.symm {ts : List ζζ} {S : List Nat} {x u : Nat} (h : PathT ts S x u) : PathT ts S u x := by
 induction h with
 | one h => exact .one (a1J h)
 | step p m h ih => exact PathT.glue m (.one (a1J h)) ih
abbrev a9F : Stmt := top 23
theorem sc_all_bags : FnScope ["graph", "told", "gone", "last"] ["graph"] (a0F a9F) := ⟨rfl, rfl, rfl, by decide +kernel, rfl, by decide +kernel, by decide +kernel⟩
abbrev b8K : Stmt := top 25
theorem c1G : FnScope ["graph"] ["graph"] (a0F b8K) := ⟨rfl, rfl, rfl, by decide +kernel, rfl, by decide +kernel, by decide +kernel⟩
abbrev a5D : Stmt := top 26
theorem sc_costs_along : FnScope ["bags", "n", "sizes", "told", "gone", "left", "v", "bag", "more"] ["bags"] (a0F a5D) := ⟨rfl, rfl, rfl, by decide +kernel, rfl, by decide +kernel, by decide +kernel⟩
theorem a1P {m v : Nat} (h : m.testBit v = true) : 2 ^ v <= m := Nat.ge_two_pow_of_testBit h
theorem a2J {g v : Nat} (h : g.testBit v = false) : (g ||| 2 ^ v).testBit v = true /\ (g ||| 2 ^ v) - 2 ^ v = g /\ g + 2 ^ v = g ||| 2 ^ v := by
 have t : (g ||| 2 ^ v).testBit v = true := by rw [Nat.testBit_or, Nat.testBit_two_pow_self]; simp
 have e : (g ||| 2 ^ v) - 2 ^ v = g := Nat.eq_of_testBit_eq fun u => by
  rw [a2W t, Nat.testBit_or, Nat.testBit_two_pow]
  by_cases c : u = v
  ·subst c; rw [h]; simp
  ·rw [decide_eq_false c, decide_eq_false (Ne.symm c)]; simp
 have := a1P t
 exact ⟨t, e, by omega⟩
theorem b8L {m : Nat} (h : 0 < m) : m.testBit (Builtin.Int.intBits (m : Int) - 1) = true /\ 0 < Builtin.Int.intBits (m : Int) := by
 have all : ∀ u, m.testBit u = true -> u < Builtin.Int.intBits (m : Int) := fun u hu => b1C hu
 have pos : 0 < Builtin.Int.intBits (m : Int) := by
  apply Classical.byContradiction
  intro c
  have := a1T (k := 0) fun u hu => by have := all u hu; omega
  omega
 refine ⟨?_, pos⟩
 apply Classical.byContradiction
 intro c
 have := b2U (a1T (m := m) (k := Builtin.Int.intBits (m : Int) - 1) fun u hu => by
  have := all u hu
  have : u ≠ Builtin.Int.intBits (m : Int) - 1 := fun z => c (by rw [<- z]; exact hu)
  omega)
 omega
def BagQ (n : Nat) (ts : List ζζ) (H : Hp) (q : Addr) (g : Nat) : Prop := ∃ ms S, H q = some (.lst (natV ms)) /\ S.Nodup /\ (∀ u : Nat, u ∈ S ↔ g.testBit u = true) /\ BagsM n ms (runR n ts S)
def b8M (K : Φρ) : Sp := fun vs H Q _ => ∃ (g : V) (n : Nat) (ts : List ζζ), vs = [g] /\ GraphV K H g n ts /\ (∀ t ∈ ts, 0 <= t.1 /\ t.1 < t.2 /\ t.2 < (n : Int)) /\ n <= 10 /\
 ∀ (p : Addr) (qs : List Addr) H', Same H H' -> H p = none -> H' p = some (.lst (qs.map V.ref)) -> qs.length = 2 ^ n -> (∀ (g : Nat) q, qs[g]? = some q -> BagQ n ts H' q g) -> Q (.ref p) H'
def degF (n : Nat) (ts : List ζζ) (g v : Nat) : Nat := (a6O n (runR n ts (a0L g)) v).length
theorem a1L {g u : Nat} (h : g < 2 ^ 10) : u ∈ a0L g ↔ g.testBit u = true := by
 unfold a0L
 rw [List.mem_filter, List.mem_range]
 constructor
 ·exact fun z => z.2
 ·intro z
  refine ⟨?_, z⟩
  apply Classical.byContradiction
  intro c
  rw [a1C h (by omega)] at z
  cases z
theorem a9V {n : Nat} {ts : List ζζ} : ∀ (k : Nat) (S : List Nat), S.length = k -> ∀ {v : Nat}, v ∈ S -> ∀ u, runR n ts S v u = false
 | 0, S, hl, v, h, u => by
  rw [List.eq_nil_of_length_eq_zero hl] at h
  exact absurd h List.not_mem_nil
 | k + 1, S, hl, v, h, u => by
  rcases List.eq_nil_or_concat S with e | ⟨T, w, e⟩
  ·rw [e] at h; exact absurd h List.not_mem_nil
  ·rw [List.concat_eq_append] at e
   subst e
   rw [List.length_append] at hl
   have hT : T.length = k := by
    have : T.length + 1 = k + 1 := hl
    omega
   rw [a5C]
   unfold a8L
   by_cases c : v = w
   ·rw [if_pos c]
   ·rw [if_neg c]
    have hv : v ∈ T := (List.mem_append.mp h).resolve_right fun z => c (List.mem_singleton.mp z)
    rw [a9V k T hT hv w, if_neg Bool.false_ne_true]
    exact a9V k T hT hv u
theorem c4S {n : Nat} {ts : List ζζ} (S : List Nat) {v : Nat} (h : v ∈ S) (u : Nat) : runR n ts S v u = false := a9V S.length S rfl h u
theorem b4L {n : Nat} {ts : List ζζ} {ms S : List Nat} {v : Nat} (B : BagsM n ms (runR n ts S)) (hv : v < n) (h : v ∈ S) : ms.getD v 0 = 0 :=
 Nat.eq_of_testBit_eq fun u => by rw [B.bit v hv, c4S S h, Nat.zero_testBit]
theorem b4M {n : Nat} {ts : List ζζ} {ms S : List Nat} {v g : Nat} (B : BagsM n ms (runR n ts S)) (nd : S.Nodup) (gl : g < 2 ^ n) (hS : ∀ u : Nat, u ∈ S ↔ g.testBit u = true) (hv : v < n) (h : v ∉ S) : ms.getD v 0 ≠ 0 /\ popF (ms.getD v 0) = degF n ts g v + 1 := by
 have hn : ∀ a ∈ S, a < n := fun a ha => by
  apply Classical.byContradiction
  intro c
  have := (hS a).mp ha
  rw [a1C gl (by omega)] at this
  cases this
 have R := a7Z (ts := ts) nd hn
 have vv : runR n ts S v v = true := (R.path v v hv hv h h).mpr (.inl rfl)
 have g10 : g < 2 ^ 10 := Nat.lt_of_lt_of_le gl (Nat.pow_le_pow_right (by decide) B.n10)
 have pm : S.Perm (a0L g) := (List.perm_ext_iff_of_nodup nd (List.nodup_range.sublist List.filter_sublist)).mpr fun u => (hS u).trans (a1L g10).symm
 have e := b5V (ts := ts) (pm.nodup_iff.mp nd) (fun a ha => hn a (pm.mem_iff.mpr ha)) pm hv (fun z => h (pm.mem_iff.mpr z))
 refine ⟨fun z => ?_, ?_⟩
 ·have b := B.bit v hv v
  rw [z, Nat.zero_testBit, vv] at b
  cases b
 ·unfold popF degF
  rw [b2W B hv, <- e]
  unfold a6O
  have cnt : ∀ l : List Nat, l.Nodup -> v ∈ l -> (l.filter (runR n ts S v ·)).length = (l.filter fun u => runR n ts S v u && !decide (u = v)).length + 1 := by
   intro l
   induction l with
   | nil => intro _ h; exact absurd h List.not_mem_nil
   | cons a r ih =>
    intro ndl hm
    obtain ⟨na, nr⟩ := List.nodup_cons.mp ndl
    by_cases c : a = v
    ·subst c
     rw [List.filter_cons, vv, if_pos rfl, List.filter_cons, vv, decide_eq_true rfl]
     simp only [Bool.not_true, Bool.and_false, Bool.false_eq_true, if_false, List.length_cons]
     congr 2
     refine List.filter_congr fun u hu => ?_
     rw [decide_eq_false (fun z => na (by rw [<- z]; exact hu))]
     simp
    ·have hr : v ∈ r := (List.mem_cons.mp hm).resolve_left fun z => c z.symm
     rw [List.filter_cons, List.filter_cons, decide_eq_false c]
     simp only [Bool.not_false, Bool.and_true]
     split
     ·rw [List.length_cons, List.length_cons, ih nr hr]
     ·exact ih nr hr
  exact cnt _ List.nodup_range (List.mem_range.mpr hv)
def a3G (g k S v : Nat) : Prop := S.testBit v = true /\ (S - 2 ^ v < g \/ (S - 2 ^ v = g /\ v < k))
structure CostI (n : Nat) (ts : List ζζ) (g k : Nat) (cs : List Int) : Prop where
 len : cs.length = 2 ^ n
 nil : cs.getD 0 0 = -1
 top : ∀ S, cs.getD S 0 <= (n : Int)
 le : ∀ S, 0 < S -> S < 2 ^ n -> ∀ v, a3G g k S v -> cs.getD S 0 <= max (cs.getD (S - 2 ^ v) 0) (degF n ts (S - 2 ^ v) v : Int)
 ex : ∀ S, 0 < S -> S < 2 ^ n -> (cs.getD S 0 = (n : Int) /\ ∀ v, ¬ a3G g k S v) \/ ∃ v, a3G g k S v /\ cs.getD S 0 = max (cs.getD (S - 2 ^ v) 0) (degF n ts (S - 2 ^ v) v : Int)
structure CostOk (n : Nat) (ts : List ζζ) (cs : List Int) : Prop where
 len : cs.length = 2 ^ n
 nil : cs.getD 0 0 = -1
 le : ∀ S, 0 < S -> S < 2 ^ n -> ∀ v, S.testBit v = true -> cs.getD S 0 <= max (cs.getD (S - 2 ^ v) 0) (degF n ts (S - 2 ^ v) v : Int)
 ex : ∀ S, 0 < S -> S < 2 ^ n -> ∃ v, S.testBit v = true /\ cs.getD S 0 = max (cs.getD (S - 2 ^ v) 0) (degF n ts (S - 2 ^ v) v : Int)
theorem b5W (n : Nat) (ts : List ζζ) : CostI n ts 0 0 (-1 :: List.replicate (2 ^ n - 1) (n : Int)) := by
 have p : 0 < 2 ^ n := Nat.pow_pos (by decide)
 have at_ : ∀ S, 0 < S -> S < 2 ^ n -> (-1 :: List.replicate (2 ^ n - 1) (n : Int)).getD S 0 = (n : Int) := fun S h0 h1 => by
  obtain ⟨k, rfl⟩ : ∃ k, S = k + 1 := ⟨S - 1, by omega⟩
  rw [List.getD_cons_succ, τα, List.getElem?_replicate, if_pos (by omega)]; rfl
 have no : ∀ S v, ¬ a3G 0 0 S v := fun S v ⟨_, h⟩ => by omega
 refine ⟨by rw [List.length_cons, List.length_replicate]; omega, rfl, fun S => ?_, fun S _ _ v h => absurd h (no S v), fun S h0 h1 => .inl ⟨at_ S h0 h1, no S⟩⟩
 by_cases c : S = 0
 ·subst c; show (-1 : Int) <= _; omega
 ·by_cases d : S < 2 ^ n
  ·rw [at_ S (by omega) d]; omega
  ·rw [τα, List.getElem?_eq_none (by rw [List.length_cons, List.length_replicate]; omega)]
   show (0 : Int) <= _
   omega
theorem b8N {n : Nat} {ts : List ζζ} {g k : Nat} {cs : List Int} (I : CostI n ts g k cs) (h : g.testBit k = true) : CostI n ts g (k + 1) cs := by
 have iff : ∀ S v, a3G g (k + 1) S v ↔ a3G g k S v := fun S v => by
  unfold a3G
  constructor
  ·rintro ⟨t, h1 | ⟨h1, h2⟩⟩
   ·exact ⟨t, .inl h1⟩
   ·refine ⟨t, .inr ⟨h1, ?_⟩⟩
    apply Classical.byContradiction
    intro c
    have : v = k := by omega
    subst this
    have := a2W t v
    rw [h1, h, decide_eq_true rfl] at this
    simp at this
  ·rintro ⟨t, h1 | ⟨h1, h2⟩⟩
   ·exact ⟨t, .inl h1⟩
   ·exact ⟨t, .inr ⟨h1, by omega⟩⟩
 refine ⟨I.len, I.nil, I.top, fun S h0 h1 v d => I.le S h0 h1 v ((iff S v).mp d), fun S h0 h1 => ?_⟩
 rcases I.ex S h0 h1 with ⟨a, b⟩ | ⟨v, d, e⟩
 ·exact .inl ⟨a, fun v z => b v ((iff S v).mp z)⟩
 ·exact .inr ⟨v, (iff S v).mpr d, e⟩
theorem b8O {cs : List Int} {i j : Nat} {x : Int} (h : i < cs.length) : (cs.set i x).getD j 0 = if j = i then x else cs.getD j 0 := by
 rw [τα, τα, List.getElem?_set]
 by_cases c : i = j
 ·subst c; rw [if_pos rfl, if_pos h, if_pos rfl]; rfl
 ·rw [if_neg c, if_neg (Ne.symm c)]
theorem c7M (n : Nat) (ts : List ζζ) (g v : Nat) : degF n ts g v <= n := b8J n _ v
theorem b8P {n : Nat} {ts : List ζζ} {g k : Nat} {cs : List Int} (I : CostI n ts g k cs) (hk : k < n) (hg : g < 2 ^ n) (h : g.testBit k = false) :
  CostI n ts g (k + 1) (cs.set (g ||| 2 ^ k) (min (cs.getD (g ||| 2 ^ k) 0) (max (cs.getD g 0) (degF n ts g k : Int)))) := by
 obtain ⟨t, e, s⟩ := a2J h
 have ml : (g ||| 2 ^ k) < 2 ^ n := Nat.or_lt_two_pow hg (Nat.pow_lt_pow_right (by decide) hk)
 have p : 0 < 2 ^ k := Nat.pow_pos (by decide)
 generalize g ||| 2 ^ k = M at *
 have x1 : max (cs.getD g 0) (degF n ts g k : Int) <= (n : Int) := by
  have := I.top g
  have := c7M n ts g k
  omega
 generalize ex : max (cs.getD g 0) (degF n ts g k : Int) = x at *
 have G : ∀ j, (cs.set M (min (cs.getD M 0) x)).getD j 0 = if j = M then min (cs.getD M 0) x else cs.getD j 0 := fun j => b8O (by rw [I.len]; exact ml)
 have low : ∀ S v, a3G g (k + 1) S v -> (cs.set M (min (cs.getD M 0) x)).getD (S - 2 ^ v) 0 = cs.getD (S - 2 ^ v) 0 := fun S v ⟨_, d⟩ => by
  rw [G, if_neg (by omega)]
 have iff : ∀ S v, a3G g (k + 1) S v ↔ a3G g k S v \/ (S = M /\ v = k) := fun S v => by
  unfold a3G
  constructor
  ·rintro ⟨tt, h1 | ⟨h1, h2⟩⟩
   ·exact .inl ⟨tt, .inl h1⟩
   ·by_cases c : v = k
    ·subst c
     have := a1P tt
     exact .inr ⟨by omega, rfl⟩
    ·exact .inl ⟨tt, .inr ⟨h1, by omega⟩⟩
  ·rintro (⟨tt, h1 | ⟨h1, h2⟩⟩ | ⟨rfl, rfl⟩)
   ·exact ⟨tt, .inl h1⟩
   ·exact ⟨tt, .inr ⟨h1, by omega⟩⟩
   ·exact ⟨t, .inr ⟨e, by omega⟩⟩
 refine ⟨by rw [List.length_set]; exact I.len, by rw [G, if_neg (by omega)]; exact I.nil, fun S => ?_, fun S h0 h1 v d => ?_, fun S h0 h1 => ?_⟩
 ·rw [G]
  split
  ·omega
  ·exact I.top S
 ·rw [low S v d, G]
  rcases (iff S v).mp d with d' | ⟨rfl, rfl⟩
  ·have := I.le S h0 h1 v d'
   split
   ·rename_i c; rw [<- c]; omega
   ·exact this
  ·rw [if_pos rfl, e, ex]; omega
 ·by_cases c : S = M
  ·subst c
   right
   by_cases d : x < cs.getD S 0
   ·refine ⟨k, (iff S k).mpr (.inr ⟨rfl, rfl⟩), ?_⟩
    rw [G, if_pos rfl, G, if_neg (by omega), e, ex]
    omega
   ·rcases I.ex S h0 h1 with ⟨a, b⟩ | ⟨v, dd, ee⟩
    ·refine ⟨k, (iff S k).mpr (.inr ⟨rfl, rfl⟩), ?_⟩
     rw [G, if_pos rfl, G, if_neg (by omega), e, ex]
     omega
    ·have d' := (iff S v).mpr (.inl dd)
     refine ⟨v, d', ?_⟩
     rw [low S v d', G, if_pos rfl, <- ee]
     omega
  ·rcases I.ex S h0 h1 with ⟨a, b⟩ | ⟨v, dd, ee⟩
   ·refine .inl ⟨by rw [G, if_neg c]; exact a, fun v z => ?_⟩
    rcases (iff S v).mp z with z | z
    ·exact b v z
    ·exact c z.1
   ·have d' := (iff S v).mpr (.inl dd)
    exact .inr ⟨v, d', by rw [low S v d', G, if_neg c]; exact ee⟩
theorem b8Q {n : Nat} {ts : List ζζ} {g : Nat} {cs : List Int} (I : CostI n ts g n cs) : CostI n ts (g + 1) 0 cs := by
 have iff : ∀ S, S < 2 ^ n -> ∀ v, a3G (g + 1) 0 S v ↔ a3G g n S v := fun S hS v => by
  unfold a3G
  constructor
  ·rintro ⟨t, h1 | h1⟩
   ·have vn : v < n := by
     apply Classical.byContradiction
     intro c
     rw [a1C hS (by omega)] at t
     cases t
    by_cases c : S - 2 ^ v = g
    ·exact ⟨t, .inr ⟨c, vn⟩⟩
    ·exact ⟨t, .inl (by omega)⟩
   ·omega
  ·rintro ⟨t, h1 | ⟨h1, _⟩⟩
   ·exact ⟨t, .inl (by omega)⟩
   ·exact ⟨t, .inl (by omega)⟩
 refine ⟨I.len, I.nil, I.top, fun S h0 h1 v d => I.le S h0 h1 v ((iff S h1 v).mp d), fun S h0 h1 => ?_⟩
 rcases I.ex S h0 h1 with ⟨a, b⟩ | ⟨v, d, e⟩
 ·exact .inl ⟨a, fun v z => b v ((iff S h1 v).mp z)⟩
 ·exact .inr ⟨v, (iff S h1 v).mpr d, e⟩
theorem c1H {n : Nat} {ts : List ζζ} {cs : List Int} (I : CostI n ts (2 ^ n) 0 cs) : CostOk n ts cs := by
 have all : ∀ S, S < 2 ^ n -> ∀ v, S.testBit v = true -> a3G (2 ^ n) 0 S v := fun S hS v t => ⟨t, .inl (Nat.lt_of_le_of_lt (Nat.sub_le _ _) hS)⟩
 refine ⟨I.len, I.nil, fun S h0 h1 v t => I.le S h0 h1 v (all S h1 v t), fun S h0 h1 => ?_⟩
 rcases I.ex S h0 h1 with ⟨a, b⟩ | ⟨v, d, e⟩
 ·exact absurd (all S h1 _ (b8L h0).1) (b _)
 ·exact ⟨v, d.1, e⟩
def b1R (K : Φρ) : Sp := fun vs H Q _ => ∃ (p : Addr) (qs : List Addr) (n : Nat) (ts : List ζζ), vs = [.ref p] /\ H p = some (.lst (qs.map V.ref)) /\ qs.length = 2 ^ n /\ n <= 10 /\ (∀ (g : Nat) q, qs[g]? = some q -> BagQ n ts H q g) /\
 ∀ r cs H', Same H H' -> H r = none -> H' r = some (.lst (cs.map V.int)) -> CostOk n ts cs -> Q (.ref r) H'
def c4T (K : Φρ) : Sp := fun vs H Q _ => ∃ (g : V) (n : Nat) (ts : List ζζ), vs = [g] /\ GraphV K H g n ts /\ (∀ t ∈ ts, 0 <= t.1 /\ t.1 < t.2 /\ t.2 < (n : Int)) /\ n <= 10 /\
 ∀ r cs H', Same H H' -> H r = none -> H' r = some (.lst (cs.map V.int)) -> CostOk n ts cs -> Q (.ref r) H'
end K
namespace K
open PySem L2 Lw Bg
section
variable {P : Program} {w : World} {K : Φρ} {mg : Str -> Option Value} {base : Heap}
abbrev DZ12 (K : PySem.W.Frag) (mg : Str -> Option Value) := Dn K mg "all_bags" a9F ["graph"]
set_option maxHeartbeats 8000000 in
theorem a8A (B : Bl mg) (dZ19 : DZ19 K mg) (dZ40 : DZ40 K mg) (dZ12 : DZ12 K mg) : FnOk P w K mg base CX0 2 dZ12.f dZ12.fd ["graph"] (b8M K) := by
 have gZ19 : FnOk P w K mg base CX0 1 _ _ _ _ := a5A B dZ19
 have gZ40 : FnOk P w K mg base CX0 1 _ _ _ _ := b1P B dZ40
 refine dZ12.F.ok sc_all_bags (fun vs H Q E h => ?_) (fun cdv A outer s H vs Q E hr h => ?_)
 ·obtain ⟨g, n, ts, rfl, _⟩ := h
  rfl
 obtain ⟨g, n, ts, rfl, hG, okt, n10, q⟩ := h
 obtain ⟨pg, ta, rfl, hP, hT⟩ := id hG
 have p10 : 2 ^ n <= 2 ^ 10 := Nat.pow_le_pow_right (by decide) n10
 have p0 : 0 < 2 ^ n := Nat.pow_pos (by decide)
 have e10 : (2 : Nat) ^ 10 = 1024 := by decide
 refine ⟨_, (a0B (a0M (i := 1) sc_all_bags.nd rfl (Or.inl rfl) (a2S (a0A (a0G gZ19 hr rfl dZ19.m dZ19.F.kp dZ19.b .nil a0U (a0A (pv 0) a0C)) a0C)))
   (a0B (a1I PassesOwn.never rfl (a3H rfl B.range (a0A a0E (a0A (a0K a1Z a0E (a1D (a2A (K := K) rfl) (pv 0) a0E (fun _ _ => rfl))) a0C))) (a0H (i := 2) sc_all_bags.nd rfl (Or.inl rfl))
   (a0B (a0M (i := 3) sc_all_bags.nd rfl (Or.inl rfl) (a0K a3Q (b6Z (K := K) rfl PySem.F.plainAttrs_int PySem.F.slot_int_bit_length PySem.F.type_int_bit_length b7F (pv 2)) a0E))
   (a0D (a2O (a3R (K := K) rfl PySem.F.plainAttrs_list PySem.F.slot_list_append PySem.F.type_list_append a9C (pv 1) (a0A (a0G gZ40 hr rfl dZ40.m dZ40.F.kp dZ40.b .nil a0U (a0A (a1D (a0P (K := K) rfl) (pv 1) (a0K a3Q (pv 2) (a0K a1Z a0E (pv 3))) (fun _ _ => rfl)) (a0A (pv 3) a0C))) a0C))))))
   (a0D (a0O (pv 1))))), ?_⟩
 refine ⟨_, rfl, .ref pg, n, ts, rfl, hG, okt, n10, fun p1 ms1 H1 s1 f1 h1 B1 => ?_⟩
 refine ⟨(by show 1 <= 1000; decide), fun p H2 n2 => ?_⟩
 have s02 : Same H H2 := s1.trans n2.same
 have fp : H p = none := s1.free n2.fresh
 have sh := shl1 n
 obtain ⟨N, hN⟩ : ∃ N, N = 2 ^ n - 1 := ⟨_, rfl⟩
 refine ⟨_, rfl, pg, _, _, _, rfl, rfl, s02.tupq hP, rfl, _, _, rfl, rfl, ⟨by omega, by omega, by decide⟩, _, _, rfl, ⟨by decide, by decide, by rw [sh]; omega, by rw [sh]; omega⟩, ?_⟩
 rw [show ((1 : Int) * 2 ^ ((n : Nat) : Int).toNat - 1).toNat = N by rw [sh]; omega]
 refine a2B (lo := 1) (n := N) (fun i σ H' => ∃ (qs : List Addr) (gg ll : Option V), σ = [some (.ref pg), some (.ref p), gg, ll] /\ Same H H' /\ H' p = some (.lst (qs.map V.ref)) /\ qs.length = i + 1 /\ p ∉ qs /\ ∀ (g : Nat) q, qs[g]? = some q -> BagQ n ts H' q g) ⟨[p1], none, none, rfl, s02, n2.here, rfl, fun z => ?_, fun g q e => ?_⟩ ?_ ?_
 ·have z := List.mem_singleton.mp z
  have := n2.fresh
  rw [z, h1] at this
  cases this
 ·cases g with
  | zero =>
   have e' : q = p1 := by
    have : some p1 = some q := e
    injection this with this
    exact this.symm
   subst e'
   exact ⟨ms1, [], n2.same _ _ h1, .nil, fun u => by rw [Nat.zero_testBit]; exact ⟨fun z => absurd z List.not_mem_nil, fun z => by cases z⟩, B1⟩
  | succ g => cases e
 ·rintro i σ H3 hi ⟨qs, gg, ll, rfl, s3, h3, lq, np, bq⟩
  have ei : (1 : Int) + (i : Int) = ((i + 1 : Nat) : Int) := by omega
  rw [ei]
  obtain ⟨tb, tp⟩ := b8L (m := i + 1) (by omega)
  obtain ⟨L, hL⟩ : ∃ L, L = Builtin.Int.intBits ((i + 1 : Nat) : Int) - 1 := ⟨_, rfl⟩
  rw [<- hL] at tb
  have Ln : L < n := by
   apply Classical.byContradiction
   intro c
   rw [a1C (k := n) (by omega) (by omega)] at tb
   cases tb
  have le := a1P tb
  refine ⟨_, rfl, rfl, i + 1, rfl, rfl, _, _, rfl, rfl, ?_⟩
  dsimp only
  have eL : ((Builtin.Int.intBits ((i + 1 : Nat) : Int) : Nat) : Int) - 1 = (L : Int) := by omega
  rw [eL]
  have gl : i + 1 - 2 ^ L < qs.length := by
   have : 0 < 2 ^ L := Nat.pow_pos (by decide)
   omega
  obtain ⟨ms, S, hq, nd, hS, BM⟩ := bq _ _ (List.getElem?_eq_getElem gl)
  have hx : (qs.map V.ref)[i + 1 - 2 ^ L]? = some (V.ref qs[i + 1 - 2 ^ L]) := by rw [List.getElem?_map, List.getElem?_eq_getElem gl]; rfl
  have ex : ((i + 1 : Nat) : Int) - 1 * 2 ^ ((L : Nat) : Int).toNat = ((i + 1 - 2 ^ L : Nat) : Int) := by
   rw [shl1 L]; omega
  refine ⟨_, rfl, .inl ⟨rfl, _, SqL.of h3⟩, _, rfl, _, rfl, _, rfl, _, _, rfl, rfl, ⟨by omega, by omega, by decide⟩, _, _, rfl, rfl, p, _, _, V.ref qs[i + 1 - 2 ^ L], rfl, rfl, SqL.of h3, (by rw [ex]; exact a2Q hx), ?_⟩
  refine ⟨_, rfl, _, n, ms, _, L, rfl, SqL.of hq, BM, Ln, fun p4 H4 s4 f4 h4 => ?_⟩
  refine ⟨p, _, _, rfl, rfl, s4 _ _ h3, (by rw [List.length_map]; omega), fun H5 c5 => ?_⟩
  have p4p : p4 ≠ p := fun z => by rw [z, h3] at f4; cases f4
  refine ⟨qs ++ [p4], _, _, rfl, (s3.trans s4).chg fp c5, ?_, by rw [List.length_append, lq]; rfl, fun z => ?_, fun g q e => ?_⟩
  ·rw [c5.here, List.map_append]; rfl
  ·rcases List.mem_append.mp z with z | z
   ·exact np z
   ·exact p4p (List.mem_singleton.mp z).symm
  ·by_cases c : g < qs.length
   ·rw [List.getElem?_append_left c] at e
    obtain ⟨ms', S', hq', nd', hS', BM'⟩ := bq g q e
    have qp : q ≠ p := fun z => np (by rw [<- z]; exact List.mem_of_getElem? e)
    exact ⟨ms', S', (c5.rest q qp).trans (s4 _ _ hq'), nd', hS', BM'⟩
   ·rw [List.getElem?_append_right (by omega)] at e
    have g0 : g - qs.length = 0 := by
     apply Classical.byContradiction
     intro z
     rw [List.getElem?_eq_none (by show 1 <= _; omega)] at e
     cases e
    rw [g0] at e
    have e' : q = p4 := by
     have : some p4 = some q := e
     injection this with this
     exact this.symm
    subst e'
    have gi : g = i + 1 := by omega
    subst gi
    have nL : L ∉ S := fun z => by
     have := (hS L).mp z
     rw [a2W tb, decide_eq_true rfl] at this
     simp at this
    refine ⟨b1D L ms, S ++ [L], (c5.rest q p4p).trans h4, List.nodup_append.mpr ⟨nd, by simp, fun x hx y hy z => ?_⟩, fun u => ?_, by rw [a5C]; exact c3V BM Ln⟩
    ·rw [List.mem_singleton.mp hy] at z
     rw [z] at hx
     exact nL hx
    ·rw [List.mem_append, List.mem_singleton, hS, a2W tb]
     by_cases d : u = L
     ·subst d; rw [tb]; simp
     ·simp [d]
 ·rintro σ H3 ⟨qs, gg, ll, rfl, s3, h3, lq, np, bq⟩
  exact ⟨_, rfl, q p qs H3 s3 fp h3 (by omega) bq⟩
abbrev DZ17 (K : PySem.W.Frag) (mg : Str -> Option Value) := Dn K mg "costs_along" a5D ["bags"]
set_option maxHeartbeats 8000000 in
theorem a8M (B : Bl mg) (dZ32 : DZ32 K mg) (dZ17 : DZ17 K mg) : FnOk P w K mg base CX0 2 dZ17.f dZ17.fd ["bags"] (b1R K) := by
 have gZ32 : FnOk P w K mg base CX0 1 _ _ _ _ := a5B B dZ32
 refine dZ17.F.ok sc_costs_along (fun vs H Q E h => ?_) (fun cdv A outer s H vs Q E hr h => ?_)
 ·obtain ⟨p, qs, n, ts, rfl, _⟩ := h
  rfl
 obtain ⟨p, qs, n, ts, rfl, hp, lq, n10, bq, q⟩ := h
 have p10 : 2 ^ n <= 2 ^ 10 := Nat.pow_le_pow_right (by decide) n10
 have p0 : 0 < 2 ^ n := Nat.pow_pos (by decide)
 have e10 : (2 : Nat) ^ 10 = 1024 := by decide
 refine ⟨_, (a0B (a0M (i := 1) sc_costs_along.nd rfl (Or.inr rfl) (a0I (a0S (K := K) rfl) rfl B.len (by decide +kernel) (a0A (a1D (a0P (K := K) rfl) (pv 0) a0E (fun _ _ => rfl)) a0C)))
   (a0B (a0M (i := 2) sc_costs_along.nd rfl (Or.inl rfl) (a0G gZ32 hr rfl dZ32.m dZ32.F.kp dZ32.b .nil a0U (a0A (pv 1) a0C)))
   (a0B (a0M (i := 3) sc_costs_along.nd rfl (Or.inl rfl) (a0K b7V (a2S (a0A (b0H a6E a0E) a0C)) (a3W ["mask", "n"] [none, some 1]  (by kernel_rfl) rfl (a3H rfl B.range (a0A a0E (a0A (a0I (a0S (K := K) rfl) rfl B.len (by decide +kernel) (a0A (pv 0) a0C)) a0C))) (fun _ _ _ _ _ => (a0H (i := 0) (show (["mask", "n"] : List Str).Nodup by decide +kernel) rfl (Or.inl rfl))) (fun _ _ _ _ _ => a1G) (fun _ _ _ _ _ => (pv 1)))))
   (a0B (a1I PassesOwn.never rfl (a3Y (K := K) rfl rfl B.enumerate (a0A (pv 0) a0C)) (a2R (K := K) (n := 2) rfl rfl (a0Z (a0H (i := 4) sc_costs_along.nd rfl (Or.inl rfl)) (a0Z (a0H (i := 5) sc_costs_along.nd rfl (Or.inl rfl)) a2P)))
   (a0D (a1I PassesOwn.never rfl (a3Y (K := K) rfl rfl B.enumerate (a0A (pv 5) a0C)) (a2R (K := K) (n := 2) rfl rfl (a0Z (a0H (i := 6) sc_costs_along.nd rfl (Or.inl rfl)) (a0Z (a0H (i := 7) sc_costs_along.nd rfl (Or.inl rfl)) a2P)))
   (a0D (a1Q (a0T (K := K) rfl (pv 7) (fun _ => rfl))
   (a0B (a0M (i := 8) sc_costs_along.nd rfl (Or.inl rfl) (a0K a7L (pv 4) (a0K a1Z a0E (pv 6))))
   (a0D (a6D (a0I (b6M rfl) rfl B.min (by decide +kernel) (a0A (a1D (a0P (K := K) rfl) (pv 3) (pv 8) (fun _ _ => rfl)) (a0A (a0I (b6L rfl) rfl B.max (by decide +kernel) (a0A (a1D (a0P (K := K) rfl) (pv 3) (pv 4) (fun _ _ => rfl)) (a0A (a0K a3Q (a1D (a0P (K := K) rfl) (pv 2) (pv 7) (fun _ _ => rfl)) a0E) a0C))) a0C))) (a6C (pv 3) (pv 8) a2M))))
   a0V)))))
   (a0D (a0O (pv 3))))))), ?_⟩
 obtain ⟨ms0, S0, hq0, nd0, hS0, B0⟩ := bq 0 _ (List.getElem?_eq_getElem (show 0 < qs.length by omega))
 have x0 : (qs.map V.ref)[0]? = some (V.ref qs[0]) := by rw [List.getElem?_map, List.getElem?_eq_getElem (show 0 < qs.length by omega)]; rfl
 refine ⟨_, rfl, p, _, _, _, rfl, rfl, SqL.of hp, a2Q (j := 0) x0, _, _, rfl, .inl (SqL.of hq0), ?_⟩
 rw [a0J, B0.len]
 refine ⟨_, rfl, n, rfl, n10, fun pz H1 n1 => ?_⟩
 refine ⟨_, rfl, (by show 1 <= 1000; decide), fun pm H2 n2 => ?_⟩
 have s02 : Same H H2 := n1.same.trans n2.same
 obtain ⟨N, hN⟩ : ∃ N, N = 2 ^ n - 1 := ⟨_, rfl⟩
 have lq' : (qs.map V.ref).length = 2 ^ n := by rw [List.length_map, lq]
 refine ⟨_, rfl, p, _, rfl, .inl (SqL.of (s02 _ _ hp)), _, _, rfl, ⟨by decide, by decide, by omega, by omega⟩, ?_⟩
 rw [show ((((qs.map V.ref).length : Nat) : Int) - 1).toNat = N by omega]
 refine b6W (fun _ => some (.int (n : Int))) (Nat.le_trans (show N <= 5000 by omega) (by decide)) (fun j H3 N' hj s3 hN' => ?_) (fun H3 pl s3 hfree => ?_)
 ·exact ⟨_, rfl, hN' H3 s3⟩
 obtain ⟨G, hnew⟩ : ∃ G, G = upd H3 pl (.lst ((List.range N).filterMap fun _ => some (V.int (n : Int)))) := ⟨_, rfl⟩
 have nG : New H3 pl (.lst ((List.range N).filterMap fun _ => some (V.int (n : Int)))) G := by rw [hnew]; exact New.mk0 hfree
 rw [<- hnew]
 have sG : Same H2 G := s3.trans nG.same
 have eN : (List.range N).filterMap (fun _ => some (V.int (n : Int))) = (List.replicate N (n : Int)).map V.int := by
  rw [List.map_replicate]
  have : ∀ k, (List.range k).filterMap (fun _ => some (V.int (n : Int))) = List.replicate k (V.int (n : Int)) := fun k => by
   induction k with
   | zero => rfl
   | succ k ih => rw [List.range_succ, List.filterMap_append, ih, List.replicate_succ']; rfl
  exact this N
 have hl := nG.here
 rw [eN] at hl
 refine ⟨pm, pl, _, _, rfl, rfl, sG _ _ n2.here, hl, (by rw [List.length_map, List.length_replicate]; show 1 + N <= 5000; omega), fun pt H4 n4 => ?_⟩
 have n4' : New G pt (.lst ((-1 :: List.replicate (2 ^ n - 1) (n : Int)).map V.int)) H4 := by rw [<- hN]; exact n4
 have s14 : Same H1 H4 := n2.same.trans (sG.trans n4.same)
 have s04 : Same H H4 := n1.same.trans s14
 have fpt : H pt = none := s02.free (sG.free n4.fresh)
 have pzt : pz ≠ pt := fun z => by
  have := n4.fresh
  rw [<- z, (n2.same.trans sG) _ _ n1.here] at this
  cases this
 have minif : ∀ i j : Int, (if j < i then j else i) = min i j := fun i j => by omega
 have maxif : ∀ i j : Int, (if j > i then j else i) = max i j := fun i j => by omega
 have csAt : ∀ {cs : List Int} {M : Nat}, M < cs.length -> atI (cs.map V.int) (M : Int) = some (.int (cs.getD M 0)) := fun {cs M} h => a2Q (by
  rw [List.getElem?_map, List.getElem?_eq_getElem h, τα, List.getElem?_eq_getElem h]; rfl)
 refine ⟨_, rfl, p, rfl, ⟨_, SqL.of (s04 _ _ hp)⟩, ?_⟩
 refine a3L (xs := qs.map V.ref) (fun i σ H' => ∃ (cs : List Int) (gg ll vv bb mm : Option V), σ = [some (.ref p), some (.int n), some (.ref pz), some (.ref pt), gg, ll, vv, bb, mm] /\ Same H H' /\ H' pz = some (.lst (a1V (2 ^ n))) /\ H' pt = some (.lst (cs.map V.int)) /\ CostI n ts i 0 cs) ⟨_, none, none, none, none, none, rfl, s04, s14 _ _ n1.here, n4'.here, b5W n ts⟩ (fun i σ H' _ ⟨_, _, _, _, _, _, _, s, _⟩ => SqL.of (s _ _ hp)) ?_ ?_
 ·rintro g x σ H5 pe H6 hx ⟨cs, gg, ll, vv, bb, mm, rfl, s5, hz5, ht5, CI⟩ n6
  rw [List.getElem?_map] at hx
  obtain ⟨qg, hqg, rfl⟩ := Option.map_eq_some_iff.mp hx
  have gl : g < 2 ^ n := by
   rw [<- lq]
   exact (List.getElem?_eq_some_iff.mp hqg).1
  obtain ⟨ms, S, hms, nd, hS, BM⟩ := bq g qg hqg
  refine ⟨pe, _, rfl, SqT.of n6.here, rfl, _, _, rfl, _, _, rfl, rfl, ?_⟩
  have s6 : Same H H6 := s5.trans n6.same
  refine ⟨_, rfl, qg, rfl, ⟨_, SqL.of (s6 _ _ hms)⟩, ?_⟩
  refine a3L (xs := natV ms) (fun v σ H' => ∃ (cs : List Int) (vv bb mm : Option V), σ = [some (.ref p), some (.int n), some (.ref pz), some (.ref pt), some (.int (g : Int)), some (.ref qg), vv, bb, mm] /\ Same H H' /\ H' pz = some (.lst (a1V (2 ^ n))) /\ H' pt = some (.lst (cs.map V.int)) /\ CostI n ts g v cs) ⟨cs, _, _, _, rfl, s6, n6.same _ _ hz5, n6.same _ _ ht5, CI⟩ (fun i σ H' _ ⟨_, _, _, _, _, s, _⟩ => SqL.of (s _ _ hms)) ?_ ?_
  ·rintro v x σ H7 pf H8 hx ⟨cs, vv, bb, mm, rfl, s7, hz7, ht7, CI⟩ n8
   have vn : v < n := by
    have := (List.getElem?_eq_some_iff.mp hx).1
    rw [a0J, BM.len] at this
    exact this
   have ex : x = .int ((ms.getD v 0 : Nat) : Int) := by
    rw [List.getElem?_map, BM.get vn] at hx
    injection hx with hx
    exact hx.symm
   subst ex
   refine ⟨pf, _, rfl, SqT.of n8.here, rfl, _, _, rfl, _, _, rfl, rfl, ?_⟩
   have s8 : Same H H8 := s7.trans n8.same
   have hz8 := n8.same _ _ hz7
   have ht8 := n8.same _ _ ht7
   refine ⟨_, rfl, _, rfl, ?_⟩
   by_cases c : v ∈ S
   ·rw [b4L BM vn c]
    exact iteF ⟨cs, _, _, _, rfl, s8, hz8, ht8, b8N CI ((hS v).mp c)⟩
   ·obtain ⟨nz, pop⟩ := b4M BM nd gl hS vn c
    have gb : g.testBit v = false := by
     cases e : g.testBit v with
     | false => rfl
     | true => exact absurd ((hS v).mpr e) c
    rw [show ((((ms.getD v 0 : Nat) : Int)) != 0) = true from by simpa using nz]
    refine iteT ?_
    obtain ⟨tb, sb, ab⟩ := a2J gb
    have ml : (g ||| 2 ^ v) < 2 ^ n := Nat.or_lt_two_pow gl (Nat.pow_lt_pow_right (by decide) vn)
    refine ⟨_, rfl, _, rfl, _, _, rfl, rfl, ⟨by omega, by omega, by decide⟩, _, _, rfl, rfl, ?_⟩
    dsimp only
    rw [shl1, a4M]
    have bl : ms.getD v 0 < 2 ^ n := a1T fun u hu => by
     rw [BM.bit v vn] at hu
     exact (BM.far v u hu).2
    have lc := CI.len
    refine ⟨_, rfl, _, rfl, pt, _, _, _, rfl, rfl, SqL.of ht8, csAt (by omega), _, rfl, _, rfl, pt, _, _, _, rfl, rfl, SqL.of ht8, csAt (by omega), _, rfl, _, rfl, pz, _, _, _, rfl, rfl, SqL.of hz8, b1Q bl, _, _, rfl, rfl, _, _, rfl, _, _, rfl, ?_⟩
    rw [minif, maxif, show (((popF (ms.getD v 0) : Nat) : Int) - 1) = (degF n ts g v : Int) by omega]
    refine ⟨_, rfl, _, rfl, pt, _, _, g ||| 2 ^ v, rfl, rfl, ht8, a3Z (by rw [List.length_map]; omega), fun H9 c9 => ?_⟩
    refine ⟨_, _, _, _, rfl, s8.chg fpt c9, (c9.rest pz pzt).trans hz8, ?_, b8P CI vn gl gb⟩
    rw [c9.here, List.map_set]
  ·rintro σ H7 ⟨cs, vv, bb, mm, rfl, s7, hz7, ht7, CI⟩
   rw [a0J, BM.len] at CI
   exact ⟨cs, _, _, _, _, _, rfl, s7, hz7, ht7, b8Q CI⟩
 ·rintro σ H5 ⟨cs, gg, ll, vv, bb, mm, rfl, s5, hz5, ht5, CI⟩
  rw [lq'] at CI
  exact ⟨_, rfl, q pt cs H5 s5 fpt ht5 (c1H CI)⟩
abbrev DZ16 (K : PySem.W.Frag) (mg : Str -> Option Value) := Dn K mg "costs" b8K ["graph"]
set_option maxHeartbeats 4000000 in
theorem c1I (B : Bl mg) (dZ32 : DZ32 K mg) (dZ19 : DZ19 K mg) (dZ40 : DZ40 K mg) (dZ12 : DZ12 K mg) (dZ17 : DZ17 K mg) (dZ16 : DZ16 K mg) : FnOk P w K mg base CX0 3 dZ16.f dZ16.fd ["graph"] (c4T K) := by
 have gZ12 : FnOk P w K mg base CX0 2 _ _ _ _ := a8A B dZ19 dZ40 dZ12
 have gZ17 : FnOk P w K mg base CX0 2 _ _ _ _ := a8M B dZ32 dZ17
 refine dZ16.F.ok c1G (fun vs H Q E h => ?_) (fun cdv A outer s H vs Q E hr h => ?_)
 ·obtain ⟨g, n, ts, rfl, _⟩ := h
  rfl
 obtain ⟨g, n, ts, rfl, hG, okt, n10, q⟩ := h
 refine ⟨_, (a0D (a0O (a0G gZ17 hr rfl dZ17.m dZ17.F.kp dZ17.b .nil a0U (a0A (a0G gZ12 hr rfl dZ12.m dZ12.F.kp dZ12.b .nil a0U (a0A (pv 0) a0C)) a0C)))), ?_⟩
 refine ⟨_, rfl, g, n, ts, rfl, hG, okt, n10, fun p qs H1 s1 f1 h1 lq bq => ?_⟩
 exact ⟨p, qs, n, ts, rfl, h1, lq, n10, bq, fun r cs H2 s2 f2 h2 C => q r cs H2 (s1.trans s2) (s1.free f2) h2 C⟩
end
def a5Z (p : Nat -> Bool) : Nat -> Nat
 | 0 => 0
 | k + 1 => if p k = true then a5Z p k ||| 2 ^ k else a5Z p k
theorem a2D (p : Nat -> Bool) : ∀ k u, (a5Z p k).testBit u = (decide (u < k) && p u)
 | 0, u => by unfold a5Z; simp
 | k + 1, u => by
  unfold a5Z
  by_cases c : p k = true
  ·rw [if_pos c, Nat.testBit_or, a2D p k u, Nat.testBit_two_pow]
   by_cases d : k = u
   ·subst d; rw [c]; simp
   ·have e : decide (u < k + 1) = decide (u < k) := decide_eq_decide.mpr (by omega)
    rw [e, decide_eq_false d]; simp
  ·rw [if_neg c, a2D p k u]
   by_cases d : k = u
   ·subst d; rw [Bool.not_eq_true] at c; rw [c]; simp
   ·have e : decide (u < k + 1) = decide (u < k) := decide_eq_decide.mpr (by omega)
    rw [e]
def bagN (n : Nat) (ts : List ζζ) (g v : Nat) : Nat := a5Z (runR n ts (a0L g) v) n
theorem a2Z {n g : Nat} (n10 : n <= 10) (gl : g < 2 ^ n) : (a0L g).Nodup /\ (∀ a ∈ a0L g, a < n) /\ ∀ u, u ∈ a0L g ↔ g.testBit u = true := by
 have g10 : g < 2 ^ 10 := Nat.lt_of_lt_of_le gl (Nat.pow_le_pow_right (by decide) n10)
 refine ⟨List.nodup_range.sublist List.filter_sublist, fun a ha => ?_, fun u => a1L g10⟩
 apply Classical.byContradiction
 intro c
 have := (a1L g10).mp ha
 rw [a1C gl (by omega)] at this
 cases this
theorem c4U {n : Nat} {ts : List ζζ} {S S' : List Nat} (nd : S.Nodup) (nd' : S'.Nodup) (hn : ∀ a ∈ S, a < n) (e : ∀ u, u ∈ S ↔ u ∈ S') {v u : Nat} (vn : v < n) (un : u < n) (hv : v ∉ S) : runR n ts S v u = runR n ts S' v u := by
 have R := a7Z (ts := ts) nd hn
 have R' := a7Z (ts := ts) nd' fun a ha => hn a ((e a).mpr ha)
 have hv' : v ∉ S' := fun z => hv ((e v).mpr z)
 by_cases c : u ∈ S
 ·rw [R.gone v u vn hv c, R'.gone v u vn hv' ((e u).mp c)]
 ·rw [Bool.eq_iff_iff, R.path v u vn un hv c, R'.path v u vn un hv' fun z => c ((e u).mpr z)]
  exact or_congr_right ⟨fun z => z.mono fun a ha => (e a).mp ha, fun z => z.mono fun a ha => (e a).mpr ha⟩
theorem c7N {n : Nat} {ts : List ζζ} {ms S : List Nat} {v g : Nat} (B : BagsM n ms (runR n ts S)) (nd : S.Nodup) (gl : g < 2 ^ n) (hS : ∀ u : Nat, u ∈ S ↔ g.testBit u = true) (hv : v < n) (h : v ∉ S) : ms.getD v 0 = bagN n ts g v := by
 obtain ⟨pn, pl, pm⟩ := a2Z B.n10 gl
 have hn : ∀ a ∈ S, a < n := fun a ha => pl a ((pm a).mpr ((hS a).mp ha))
 refine Nat.eq_of_testBit_eq fun u => ?_
 unfold bagN
 rw [a2D, B.bit v hv u]
 by_cases c : u < n
 ·rw [decide_eq_true c, Bool.true_and]
  exact c4U nd pn hn (fun x => (hS x).trans (pm x).symm) hv c h
 ·rw [decide_eq_false c, Bool.false_and]
  cases e : runR n ts S v u with
  | false => rfl
  | true => exact absurd (B.far v u e).2 c
inductive FreeP (n : Nat) (good : Nat -> Nat -> Prop) : Nat -> List Nat -> Prop
 | nil : FreeP n good 0 []
 | snoc {S v : Nat} {os : List Nat} : FreeP n good S os -> S.testBit v = false -> v < n -> good S v -> FreeP n good (S ||| 2 ^ v) (os ++ [v])
theorem FreeP.lt {n : Nat} {good : Nat -> Nat -> Prop} {S : Nat} {os : List Nat} (h : FreeP n good S os) : S < 2 ^ n := by
 induction h with
 | nil => exact Nat.pow_pos (by decide)
 | snoc _ _ vn _ ih => exact Nat.or_lt_two_pow ih (Nat.pow_lt_pow_right (by decide) vn)
theorem FreeP.mem {n : Nat} {good : Nat -> Nat -> Prop} {S : Nat} {os : List Nat} (h : FreeP n good S os) : ∀ u, u ∈ os ↔ S.testBit u = true := by
 induction h with
 | nil => intro u; rw [Nat.zero_testBit]; simp
 | @snoc S v os _ _ vn _ ih =>
  intro u
  rw [List.mem_append, ih u, Nat.testBit_or, Nat.testBit_two_pow, Bool.or_eq_true, List.mem_singleton, decide_eq_true_iff]
  exact or_congr_right eq_comm
theorem FreeP.nodup {n : Nat} {good : Nat -> Nat -> Prop} {S : Nat} {os : List Nat} (h : FreeP n good S os) : os.Nodup := by
 induction h with
 | nil => exact .nil
 | @snoc S v os h f _ _ ih =>
  refine List.nodup_append.mpr ⟨ih, by simp, fun x hx y hy z => ?_⟩
  rw [List.mem_singleton.mp hy] at z
  rw [z] at hx
  have := (h.mem v).mp hx
  rw [f] at this
  cases this
theorem FreeP.inn {n : Nat} {good : Nat -> Nat -> Prop} {S : Nat} {os : List Nat} (h : FreeP n good S os) : ∀ u ∈ os, u < n := by
 induction h with
 | nil => intro u hu; exact absurd hu List.not_mem_nil
 | snoc _ _ vn _ ih =>
  intro u hu
  rcases List.mem_append.mp hu with hu | hu
  ·exact ih u hu
  ·rw [List.mem_singleton.mp hu]; exact vn
theorem FreeP.weak {n : Nat} {good good' : Nat -> Nat -> Prop} {S : Nat} {os : List Nat} (h : FreeP n good S os) (hw : ∀ S v, S < 2 ^ n -> v < n -> S.testBit v = false -> good S v -> good' S v) : FreeP n good' S os := by
 induction h with
 | nil => exact .nil
 | snoc p f vn g ih => exact .snoc ih f vn (hw _ _ p.lt vn f g)
inductive WidP (n : Nat) (ts : List ζζ) : Nat -> List Nat -> Int -> Prop
 | nil : WidP n ts 0 [] (-1)
 | snoc {S v : Nat} {os : List Nat} {G : Int} : WidP n ts S os G -> S.testBit v = false -> v < n -> WidP n ts (S ||| 2 ^ v) (os ++ [v]) (max G (degF n ts S v : Int))
theorem WidP.free {n : Nat} {ts : List ζζ} {S : Nat} {os : List Nat} {G : Int} (h : WidP n ts S os G) : FreeP n (fun S v => (degF n ts S v : Int) <= G) S os := by
 induction h with
 | nil => exact .nil
 | snoc _ f vn ih => exact .snoc (ih.weak fun S v _ _ _ g => by omega) f vn (by omega)
theorem WidP.lt {n : Nat} {ts : List ζζ} {S : Nat} {os : List Nat} {G : Int} (h : WidP n ts S os G) : S < 2 ^ n := h.free.lt
theorem c2T {n : Nat} {ts : List ζζ} {w : Int} (w1 : -1 <= w) {S : Nat} {os : List Nat} (h : FreeP n (fun S v => (degF n ts S v : Int) <= w) S os) : ∃ G, WidP n ts S os G /\ G <= w := by
 induction h with
 | nil => exact ⟨-1, .nil, w1⟩
 | snoc p f vn g ih =>
  obtain ⟨G, hG, le⟩ := ih
  exact ⟨_, .snoc hG f vn, by omega⟩
theorem b8R {n S : Nat} (h : S < 2 ^ n) (a : ∀ u, u < n -> S.testBit u = true) : S = 2 ^ n - 1 := Nat.eq_of_testBit_eq fun u => by
 rw [Nat.testBit_two_pow_sub_one]
 by_cases c : u < n
 ·rw [a u c, decide_eq_true c]
 ·rw [decide_eq_false c, a1C h (by omega)]
theorem b4N {n : Nat} {ts : List ζζ} {cs : List Int} (C : CostOk n ts cs) {S : Nat} {os : List Nat} {G : Int} (h : WidP n ts S os G) : cs.getD S 0 <= G := by
 induction h with
 | nil => rw [C.nil]; exact Int.le_refl _
 | @snoc S v os G p f vn ih =>
  obtain ⟨t, e, a⟩ := a2J f
  have p0 : 0 < 2 ^ v := Nat.pow_pos (by decide)
  have := C.le (S ||| 2 ^ v) (by omega) (Nat.or_lt_two_pow p.lt (Nat.pow_lt_pow_right (by decide) vn)) v t
  rw [e] at this
  omega
theorem a8B {n : Nat} {ts : List ζζ} {cs : List Int} (C : CostOk n ts cs) (w : Int) : ∀ (k S : Nat), S <= k -> S < 2 ^ n -> cs.getD S 0 <= w -> ∃ os, FreeP n (fun S v => (degF n ts S v : Int) <= w) S os
 | 0, S, hk, hS, hw => by
  obtain rfl : S = 0 := by omega
  exact ⟨[], .nil⟩
 | k + 1, S, hk, hS, hw => by
  by_cases c : S = 0
  ·subst c; exact ⟨[], .nil⟩
  ·obtain ⟨v, t, e⟩ := C.ex S (by omega) hS
   have p0 : 0 < 2 ^ v := Nat.pow_pos (by decide)
   have ge := a1P t
   have vn : v < n := by
    apply Classical.byContradiction
    intro z
    rw [a1C hS (by omega)] at t
    cases t
   obtain ⟨os, h⟩ := a8B C w k (S - 2 ^ v) (by omega) (by omega) (by omega)
   have f : (S - 2 ^ v).testBit v = false := by rw [a2W t, decide_eq_true rfl]; simp
   have r := FreeP.snoc h f vn (show (degF n ts (S - 2 ^ v) v : Int) <= w by omega)
   obtain ⟨_, _, a⟩ := a2J f
   rw [<- a, Nat.sub_add_cancel ge] at r
   exact ⟨_, r⟩
theorem b3I {n : Nat} {ts : List ζζ} {cs : List Int} (C : CostOk n ts cs) : ∀ (k S : Nat), S <= k -> S < 2 ^ n -> -1 <= cs.getD S 0
 | 0, S, hk, hS => by
  obtain rfl : S = 0 := by omega
  rw [C.nil]; exact Int.le_refl _
 | k + 1, S, hk, hS => by
  by_cases c : S = 0
  ·subst c; rw [C.nil]; exact Int.le_refl _
  ·obtain ⟨v, t, e⟩ := C.ex S (by omega) hS
   have p0 : 0 < 2 ^ v := Nat.pow_pos (by decide)
   have ge := a1P t
   have := b3I C k (S - 2 ^ v) (by omega) (by omega)
   omega
theorem b8S {n : Nat} {ts : List ζζ} {cs cs' : List Int} (C : CostOk n ts cs) (C' : CostOk n ts cs') : cs = cs' := by
 have le : ∀ {cs cs' : List Int}, CostOk n ts cs -> CostOk n ts cs' -> ∀ S, S < 2 ^ n -> cs.getD S 0 <= cs'.getD S 0 := fun {cs cs'} C C' S hS => by
  obtain ⟨os, h⟩ := a8B C' (cs'.getD S 0) S S (Nat.le_refl _) hS (Int.le_refl _)
  obtain ⟨G, hG, l⟩ := c2T (b3I C' S S (Nat.le_refl _) hS) h
  have := b4N C hG
  omega
 refine List.ext_getElem (C.len.trans C'.len.symm) fun S h1 h2 => ?_
 have hS : S < 2 ^ n := by rw [<- C.len]; exact h1
 have a := le C C' S hS
 have b := le C' C S hS
 rw [τα, τα, List.getElem?_eq_getElem h1, List.getElem?_eq_getElem h2] at a b
 simp only [Option.getD_some] at a b
 omega
structure LastI (n : Nat) (good : Nat -> Nat -> Prop) (g k : Nat) (ls : List (Option Nat)) : Prop where
 len : ls.length = 2 ^ n
 snd : ∀ S v, ls.getD S none = some v -> S < 2 ^ n /\ a3G g k S v /\ v < n /\ good (S - 2 ^ v) v /\ (S - 2 ^ v = 0 \/ ls.getD (S - 2 ^ v) none ≠ none)
 cmp : ∀ S v, S < 2 ^ n -> a3G g k S v -> v < n -> good (S - 2 ^ v) v -> (S - 2 ^ v = 0 \/ ls.getD (S - 2 ^ v) none ≠ none) -> ls.getD S none ≠ none
theorem b5X (n : Nat) (good : Nat -> Nat -> Prop) : LastI n good 0 0 (List.replicate (2 ^ n) none) := by
 refine ⟨by rw [List.length_replicate], fun S v h => ?_, fun S v _ d => ?_⟩
 ·rw [τα, List.getElem?_replicate] at h
  split at h <;> cases h
 ·obtain ⟨_, d | ⟨_, d⟩⟩ := d <;> omega
theorem a8C {n : Nat} {good : Nat -> Nat -> Prop} {g k g' k' : Nat} {ls : List (Option Nat)} (I : LastI n good g k ls) (up : ∀ S v, a3G g k S v -> a3G g' k' S v)
  (dn : ∀ S v, S < 2 ^ n -> v < n -> a3G g' k' S v -> good (S - 2 ^ v) v -> (S - 2 ^ v = 0 \/ ls.getD (S - 2 ^ v) none ≠ none) -> a3G g k S v) : LastI n good g' k' ls := by
 refine ⟨I.len, fun S v h => ?_, fun S v hS d vn gd h => I.cmp S v hS (dn S v hS vn d gd h) vn gd h⟩
 obtain ⟨a, b, c⟩ := I.snd S v h
 exact ⟨a, up S v b, c⟩
theorem b1S {n : Nat} {good : Nat -> Nat -> Prop} {g k : Nat} {ls : List (Option Nat)} (I : LastI n good g k ls) (h : g.testBit k = true \/ ¬ good g k) : LastI n good g (k + 1) ls := by
 refine a8C I (fun S v ⟨t, d⟩ => ⟨t, by omega⟩) fun S v hS vn ⟨t, d⟩ gd _ => ⟨t, ?_⟩
 rcases d with d | ⟨d, e⟩
 ·exact .inl d
 ·refine .inr ⟨d, ?_⟩
  apply Classical.byContradiction
  intro c
  obtain rfl : v = k := by omega
  rw [d] at gd
  rcases h with h | h
  ·have := a2W t v
   rw [d, h, decide_eq_true rfl] at this
   simp at this
  ·exact h gd
theorem b8T {n : Nat} {good : Nat -> Nat -> Prop} {g : Nat} {ls : List (Option Nat)} (I : LastI n good g 0 ls) (h0 : g ≠ 0) (h : ls.getD g none = none) : LastI n good (g + 1) 0 ls := by
 refine a8C I (fun S v ⟨t, d⟩ => ⟨t, by omega⟩) fun S v hS vn ⟨t, d⟩ gd q => ⟨t, ?_⟩
 rcases d with d | ⟨_, d⟩
 ·by_cases c : S - 2 ^ v = g
  ·rw [c] at q
   rcases q with q | q
   ·exact absurd q h0
   ·exact absurd h q
  ·exact .inl (by omega)
 ·omega
theorem b8U {n : Nat} {good : Nat -> Nat -> Prop} {g : Nat} {ls : List (Option Nat)} (I : LastI n good g n ls) : LastI n good (g + 1) 0 ls := by
 refine a8C I (fun S v ⟨t, d⟩ => ⟨t, by omega⟩) fun S v hS vn ⟨t, d⟩ gd q => ⟨t, ?_⟩
 omega
theorem b1T {ls : List (Option Nat)} {i j : Nat} {x : Option Nat} (h : i < ls.length) : (ls.set i x).getD j none = if j = i then x else ls.getD j none := by
 rw [τα, τα, List.getElem?_set]
 by_cases c : i = j
 ·subst c; rw [if_pos rfl, if_pos h, if_pos rfl]; rfl
 ·rw [if_neg c, if_neg (Ne.symm c)]
theorem b8V {n : Nat} {good : Nat -> Nat -> Prop} {g k : Nat} {ls : List (Option Nat)} (I : LastI n good g k ls) (hk : k < n) (hg : g < 2 ^ n) (h : g.testBit k = false) (gd : good g k) (r : g = 0 \/ ls.getD g none ≠ none) :
  LastI n good g (k + 1) (ls.set (g ||| 2 ^ k) (some k)) := by
 obtain ⟨t, e, s⟩ := a2J h
 have ml : (g ||| 2 ^ k) < 2 ^ n := Nat.or_lt_two_pow hg (Nat.pow_lt_pow_right (by decide) hk)
 have p : 0 < 2 ^ k := Nat.pow_pos (by decide)
 generalize g ||| 2 ^ k = M at *
 have G : ∀ j, (ls.set M (some k)).getD j none = if j = M then some k else ls.getD j none := fun j => b1T (by rw [I.len]; exact ml)
 have low : ∀ j, j <= g -> (ls.set M (some k)).getD j none = ls.getD j none := fun j hj => by rw [G, if_neg (by omega)]
 refine ⟨by rw [List.length_set]; exact I.len, fun S v hv => ?_, fun S v hS d vn gd' q => ?_⟩
 ·rw [G] at hv
  by_cases c : S = M
  ·rw [if_pos c] at hv
   injection hv with hv
   subst hv c
   rw [e, low g (Nat.le_refl _)]
   exact ⟨ml, ⟨t, .inr ⟨e, by omega⟩⟩, hk, gd, r⟩
  ·rw [if_neg c] at hv
   obtain ⟨a, b, c1, d1, q1⟩ := I.snd S v hv
   refine ⟨a, ⟨b.1, by have := b.2; omega⟩, c1, d1, ?_⟩
   rw [low _ (by have := b.2; omega)]
   exact q1
 ·rw [G]
  by_cases c : S = M
  ·rw [if_pos c]; exact fun z => by cases z
  ·rw [if_neg c]
   rw [low _ (by have := d.2; omega)] at q
   refine I.cmp S v hS ⟨d.1, ?_⟩ vn gd' q
   rcases d.2 with d1 | ⟨d1, d2⟩
   ·exact .inl d1
   ·refine .inr ⟨d1, ?_⟩
    apply Classical.byContradiction
    intro z
    obtain rfl : v = k := by omega
    have := a1P d.1
    exact c (by omega)
theorem c1J {n : Nat} {good : Nat -> Nat -> Prop} {ls : List (Option Nat)} (I : LastI n good (2 ^ n) 0 ls) {S : Nat} {os : List Nat} (h : FreeP n good S os) : S = 0 \/ ls.getD S none ≠ none := by
 induction h with
 | nil => exact .inl rfl
 | @snoc S v os p f vn gd ih =>
  obtain ⟨t, e, a⟩ := a2J f
  refine .inr (I.cmp _ v (Nat.or_lt_two_pow p.lt (Nat.pow_lt_pow_right (by decide) vn)) ⟨t, .inl ?_⟩ vn ?_ ?_)
  ·rw [e]; exact p.lt
  ·rw [e]; exact gd
  ·rw [e]; exact ih
theorem b1U {n : Nat} {good : Nat -> Nat -> Prop} {ls : List (Option Nat)} {g k : Nat} (I : LastI n good g k ls) {m v M : Nat} {tl : List Nat} (hv : ls.getD m none = some v) (h : ∀ os, FreeP n good m os -> FreeP n good M (os ++ tl)) :
  v < n /\ 2 ^ v <= m /\ m < 2 ^ n /\ (m - 2 ^ v = 0 \/ ls.getD (m - 2 ^ v) none ≠ none) /\ ∀ os, FreeP n good (m - 2 ^ v) os -> FreeP n good M (os ++ v :: tl) := by
 obtain ⟨ml, d, vn, gd, q⟩ := I.snd m v hv
 have ge := a1P d.1
 refine ⟨vn, ge, ml, q, fun os p => ?_⟩
 have f : (m - 2 ^ v).testBit v = false := by rw [a2W d.1, decide_eq_true rfl]; simp
 have r := FreeP.snoc p f vn gd
 obtain ⟨_, _, a⟩ := a2J f
 rw [<- a, Nat.sub_add_cancel ge] at r
 have := h _ r
 rw [List.append_assoc] at this
 exact this
theorem b8W {n : Nat} {good : Nat -> Nat -> Prop} {ls : List (Option Nat)} {g k : Nat} (I : LastI n good g k ls) : ∀ (j m : Nat), m <= j -> (m = 0 \/ ls.getD m none ≠ none) -> ∃ os, FreeP n good m os
 | 0, m, hj, _ => by
  obtain rfl : m = 0 := by omega
  exact ⟨[], .nil⟩
 | j + 1, m, hj, h => by
  cases e : ls.getD m none with
  | none =>
   rcases h with h | h
   ·subst h; exact ⟨[], .nil⟩
   ·exact absurd e h
  | some v =>
   obtain ⟨vn, ge, ml, nx, bk⟩ := b1U I (M := m) (tl := []) e fun os z => by rw [List.append_nil]; exact z
   have p2 : 0 < 2 ^ v := Nat.pow_pos (by decide)
   obtain ⟨os, h⟩ := b8W I j (m - 2 ^ v) (by omega) nx
   exact ⟨_, bk os h⟩
abbrev a6P : Stmt := top 27
theorem sc_free_start : FnScope ["bags", "barred", "mask", "lasts", "gone", "left", "v", "bag", "told"] ["bags", "barred", "mask"] (a0F a6P) := ⟨rfl, rfl, rfl, by decide +kernel, rfl, by decide +kernel, by decide +kernel⟩
def a6U (n : Nat) (ts : List ζζ) (bs : List Bool) (S v : Nat) : Prop := bs.getD (bagN n ts S v) false = false
def optN : Option Nat -> V
 | none => .non
 | some v => .int (v : Int)
def c7O (K : Φρ) : Sp := fun vs H Q _ => ∃ (p pb : Addr) (qs : List Addr) (bs : List Bool) (n M : Nat) (ts : List ζζ), vs = [.ref p, .ref pb, .int (M : Int)] /\ H p = some (.lst (qs.map V.ref)) /\ qs.length = 2 ^ n /\ n <= 10 /\ (∀ (g : Nat) q, qs[g]? = some q -> BagQ n ts H q g) /\
 SqL K H pb (bs.map V.bl) /\ bs.length = 2 ^ n /\ M < 2 ^ n /\
 (∀ r os H', Same H H' -> H r = none -> H' r = some (.lst (natV os)) -> FreeP n (a6U n ts bs) M os -> Q (.ref r) H') /\ ∀ H', Same H H' -> (∀ os, ¬ FreeP n (a6U n ts bs) M os) -> Q .non H'
section
variable {P : Program} {w : World} {K : Φρ} {mg : Str -> Option Value} {base : Heap}
abbrev DZ21 (K : PySem.W.Frag) (mg : Str -> Option Value) := Dn K mg "free_start" a6P ["bags", "barred", "mask"]
set_option maxHeartbeats 8000000 in
theorem a5E (B : Bl mg) (dZ21 : DZ21 K mg) : FnOk P w K mg base CX0 1 dZ21.f dZ21.fd ["bags", "barred", "mask"] (c7O K) := by
 refine dZ21.F.ok sc_free_start (fun vs H Q E h => ?_) (fun cdv A outer s H vs Q E hr h => ?_)
 ·obtain ⟨p, pb, qs, bs, n, M, ts, rfl, _⟩ := h
  rfl
 obtain ⟨p, pb, qs, bs, n, M, ts, rfl, hp, lq, n10, bq, hb, lb, Ml, q1, q2⟩ := h
 have p10 : 2 ^ n <= 2 ^ 10 := Nat.pow_le_pow_right (by decide) n10
 have p0 : 0 < 2 ^ n := Nat.pow_pos (by decide)
 have e10 : (2 : Nat) ^ 10 = 1024 := by decide
 have lq' : (qs.map V.ref).length = 2 ^ n := by rw [List.length_map, lq]
 refine ⟨_, (a0B (a1W (i := 3) ["gone"] [none] sc_free_start.nd rfl rfl (by kernel_rfl) rfl (a0R (K := K) rfl (pv 0)) (fun _ _ _ _ _ => (a0H (i := 0) (show (["gone"] : List Str).Nodup by decide +kernel) rfl (Or.inl rfl))) (fun _ _ _ _ _ => a1G) (fun _ _ _ _ _ => a3S) (by rfl))
   (a0B (a1I PassesOwn.never rfl (a3Y (K := K) rfl rfl B.enumerate (a0A (pv 0) a0C)) (a2R (K := K) (n := 2) rfl rfl (a0Z (a0H (i := 4) sc_free_start.nd rfl (Or.inl rfl)) (a0Z (a0H (i := 5) sc_free_start.nd rfl (Or.inl rfl)) a2P)))
   (a0D (a1Q (PW.pt (a4Q (a0N a3U (pv 4) a0E (a0W _)) (a4W (a0N a5S (a1D (a0P (K := K) rfl) (pv 3) (pv 4) (fun _ _ => rfl)) a3S (a0W _)))))
   (a0D (a1I PassesOwn.never rfl (a3Y (K := K) rfl rfl B.enumerate (a0A (pv 5) a0C)) (a2R (K := K) (n := 2) rfl rfl (a0Z (a0H (i := 6) sc_free_start.nd rfl (Or.inl rfl)) (a0Z (a0H (i := 7) sc_free_start.nd rfl (Or.inl rfl)) a2P)))
   (a0D (a1Q (PW.pt (a7I (a0T (K := K) rfl (pv 7) (fun _ => rfl)) (a4P (a3D (a0T (K := K) rfl (a1D (a0P (K := K) rfl) (pv 1) (pv 7) (fun _ _ => rfl)) (fun _ => rfl))))))
   (a0D (a6D (pv 6) (a6C (pv 3) (a0K a7L (pv 4) (a0K a1Z a0E (pv 6))) a2M)))
   a0V))))
   a0V)))
   (a0B (a0M (i := 8) sc_free_start.nd rfl (Or.inl rfl) (a2S a0C))
   (a0B (a6X PassesOwn.never (PW.pt (a7I (a0T (K := K) rfl (pv 2) (fun _ => rfl)) (a4P (a0N a5S (a1D (a0P (K := K) rfl) (pv 3) (pv 2) (fun _ _ => rfl)) a3S (a0W _)))))
   (a0B (a2O (a3R (K := K) rfl PySem.F.plainAttrs_list PySem.F.slot_list_insert PySem.F.type_list_insert b5L (pv 8) (a0A a0E (a0A (a1D (a0P (K := K) rfl) (pv 3) (pv 2) (fun _ _ => rfl)) a0C))))
   (a0D (a0M (i := 2) sc_free_start.nd rfl (Or.inl rfl) (a0K a3Q (pv 2) (a0K a1Z a0E (a1D (a0P (K := K) rfl) (pv 3) (pv 2) (fun _ _ => rfl))))))))
   (a0D (a0O (b3T (a0T (K := K) rfl (pv 2) (fun _ => rfl)) a3S (pv 8)))))))), ?_⟩
 refine ⟨_, rfl, p, rfl, ⟨_, SqL.of hp⟩, ?_⟩
 refine c3M (fun _ => some .non) (SqL.of hp) (Nat.le_trans (show (qs.map V.ref).length <= 5000 by omega) (by decide)) (fun x H1 N hx s1 hN => ?_) (fun H1 pl s1 hfree => ?_)
 ·exact hN H1 s1
 obtain ⟨G, hnew⟩ : ∃ G, G = upd H1 pl (.lst ((qs.map V.ref).filterMap fun _ => some V.non)) := ⟨_, rfl⟩
 have nG : New H1 pl (.lst ((qs.map V.ref).filterMap fun _ => some V.non)) G := by rw [hnew]; exact New.mk0 hfree
 rw [<- hnew]
 have hl := nG.here
 have eN : (qs.map V.ref).filterMap (fun _ => some V.non) = (List.replicate (2 ^ n) (none : Option Nat)).map optN := by
  rw [List.map_replicate, <- lq]
  have : ∀ l : List Addr, (l.map V.ref).filterMap (fun _ => some V.non) = List.replicate l.length V.non := fun l => by
   induction l with
   | nil => rfl
   | cons a r ih =>
    show V.non :: (r.map V.ref).filterMap (fun _ => some V.non) = _
    rw [ih]; rfl
  exact this qs
 rw [eN] at hl
 have s02 : Same H G := s1.trans nG.same
 have fpl : H pl = none := s1.free nG.fresh
 have lsAt : ∀ {ls : List (Option Nat)} {m : Nat}, m < ls.length -> atI (ls.map optN) (m : Int) = some (optN (ls.getD m none)) := fun {ls m} h => a2Q (by
  rw [List.getElem?_map, List.getElem?_eq_getElem h, τα, List.getElem?_eq_getElem h]; rfl)
 have optE : ∀ o : Option Nat, (!decide (optN o = .non)) = o.isSome := fun o => by cases o <;> simp [optN]
 refine ⟨_, rfl, p, rfl, ⟨_, SqL.of (s02 _ _ hp)⟩, ?_⟩
 refine a3L (xs := qs.map V.ref) (fun i σ H' => ∃ (ls : List (Option Nat)) (gg ll vv bb : Option V), σ = [some (.ref p), some (.ref pb), some (.int (M : Int)), some (.ref pl), gg, ll, vv, bb, none] /\ Same H H' /\ H' pl = some (.lst (ls.map optN)) /\ LastI n (a6U n ts bs) i 0 ls) ⟨_, none, none, none, none, rfl, s02, hl, b5X n _⟩ (fun i σ H' _ ⟨_, _, _, _, _, _, s, _⟩ => SqL.of (s _ _ hp)) ?_ ?_
 ·rintro g x σ H5 pe H6 hx ⟨ls, gg, ll, vv, bb, rfl, s5, ht5, LI⟩ n6
  rw [List.getElem?_map] at hx
  obtain ⟨qg, hqg, rfl⟩ := Option.map_eq_some_iff.mp hx
  have gl : g < 2 ^ n := by
   rw [<- lq]
   exact (List.getElem?_eq_some_iff.mp hqg).1
  obtain ⟨ms, S, hms, nd, hS, BM⟩ := bq g qg hqg
  refine ⟨pe, _, rfl, SqT.of n6.here, rfl, _, _, rfl, _, _, rfl, rfl, ?_⟩
  have s6 : Same H H6 := s5.trans n6.same
  have ht6 := n6.same _ _ ht5
  have ll' := LI.len
  have core : (g = 0 \/ ls.getD g none ≠ none) -> ∀ H7 (D : Ends), Same H H7 -> H7 pl = some (.lst (ls.map optN)) -> (∀ (σ : St) H', (∃ (ls : List (Option Nat)) (gg ll vv bb : Option V), σ = [some (.ref p), some (.ref pb), some (.int (M : Int)), some (.ref pl), gg, ll, vv, bb, none] /\ Same H H' /\ H' pl = some (.lst (ls.map optN)) /\ LastI n (a6U n ts bs) (g + 1) 0 ls) -> D.nx σ H') ->
    tFor (c6R K (c3F (tVar 5) tNil)) (gTup K 2 (c3B (b2L 6) (c3B (b2L 7) gNil))) (tIfS (tAnd (tTru K (tVar 7)) (tNot (tTru K (tOp (rIxL K) (tVar 1) (tVar 7))))) (tAsg (tVar 6) (gSub (tVar 3) (tOp (rI0 fun i j => V.int (Builtin.bitOr i j)) (tVar 4) (tOp (rI CPow fun i j => V.int (i * 2 ^ j.toNat)) (tC (V.int 1)) (tVar 6))) c6S)) c5Z) D [some (.ref p), some (.ref pb), some (.int (M : Int)), some (.ref pl), some (.int (g : Int)), some (.ref qg), vv, bb, none] H7 := by
   intro reach H7 D s7 ht7 done
   refine ⟨_, rfl, qg, rfl, ⟨_, SqL.of (s7 _ _ hms)⟩, ?_⟩
   refine a3L (xs := natV ms) (fun v σ H' => ∃ (ls : List (Option Nat)) (vv bb : Option V), σ = [some (.ref p), some (.ref pb), some (.int (M : Int)), some (.ref pl), some (.int (g : Int)), some (.ref qg), vv, bb, none] /\ Same H H' /\ H' pl = some (.lst (ls.map optN)) /\ (g = 0 \/ ls.getD g none ≠ none) /\ LastI n (a6U n ts bs) g v ls) ⟨ls, _, _, rfl, s7, ht7, reach, LI⟩ (fun i σ H' _ ⟨_, _, _, _, s, _⟩ => SqL.of (s _ _ hms)) ?_ ?_
   ·rintro v x σ H8 pf H9 hx ⟨ls, vv, bb, rfl, s8, ht8, rch, LI⟩ n9
    have vn : v < n := by
     have := (List.getElem?_eq_some_iff.mp hx).1
     rw [a0J, BM.len] at this
     exact this
    have ex : x = .int ((ms.getD v 0 : Nat) : Int) := by
     rw [List.getElem?_map, BM.get vn] at hx
     injection hx with hx
     exact hx.symm
    subst ex
    refine ⟨pf, _, rfl, SqT.of n9.here, rfl, _, _, rfl, _, _, rfl, rfl, ?_⟩
    have s9 : Same H H9 := s8.trans n9.same
    have ht9 := n9.same _ _ ht8
    refine ⟨_, rfl, _, rfl, ?_⟩
    by_cases c : v ∈ S
    ·rw [b4L BM vn c]
     exact iteF ⟨ls, _, _, rfl, s9, ht9, rch, b1S LI (.inl ((hS v).mp c))⟩
    ·obtain ⟨nz, pop⟩ := b4M BM nd gl hS vn c
     have bi := c7N BM nd gl hS vn c
     have gb : g.testBit v = false := by
      cases e : g.testBit v with
      | false => rfl
      | true => exact absurd ((hS v).mpr e) c
     have bl : ms.getD v 0 < 2 ^ n := a1T fun u hu => by
      rw [BM.bit v vn] at hu
      exact (BM.far v u hu).2
     rw [show ((((ms.getD v 0 : Nat) : Int)) != 0) = true from by simpa using nz]
     have bAt : ∀ j : Nat, j < 2 ^ n -> atI (bs.map V.bl) (j : Int) = some (.bl (bs.getD j false)) := fun j hj => a2Q (by
      rw [List.getElem?_map, List.getElem?_eq_getElem (by omega), τα, List.getElem?_eq_getElem (by omega)]; rfl)
     refine iteT ⟨_, rfl, _, rfl, pb, _, _, _, rfl, rfl, s9.seq hb, bAt _ bl, _, rfl, ?_⟩
     cases hbb : bs.getD (ms.getD v 0) false with
     | true =>
      refine iteF ⟨ls, _, _, rfl, s9, ht9, rch, b1S LI (.inr fun z => ?_)⟩
      unfold a6U at z
      rw [<- bi, hbb] at z
      cases z
     | false =>
      obtain ⟨tb, sb, ab⟩ := a2J gb
      have ml : (g ||| 2 ^ v) < 2 ^ n := Nat.or_lt_two_pow gl (Nat.pow_lt_pow_right (by decide) vn)
      refine iteT ⟨_, rfl, _, rfl, _, rfl, _, rfl, _, _, rfl, rfl, ⟨by omega, by omega, by decide⟩, _, _, rfl, rfl, ?_⟩
      dsimp only
      rw [shl1, a4M]
      have lc := LI.len
      refine ⟨pl, _, _, g ||| 2 ^ v, rfl, rfl, ht9, a3Z (by rw [List.length_map]; omega), fun H10 c10 => ?_⟩
      have p2 : 0 < 2 ^ v := Nat.pow_pos (by decide)
      refine ⟨ls.set (g ||| 2 ^ v) (some v), _, _, rfl, s9.chg fpl c10, ?_, ?_, b8V LI vn gl gb ?_ rch⟩
      ·rw [c10.here, List.map_set]; rfl
      ·rw [b1T (by omega), if_neg (by omega)]
       exact rch
      ·unfold a6U
       rw [<- bi]; exact hbb
   ·rintro σ H8 ⟨ls, vv, bb, rfl, s8, ht8, rch, LI⟩
    rw [a0J, BM.len] at LI
    exact done _ _ ⟨ls, _, _, _, _, rfl, s8, ht8, b8U LI⟩
  refine ⟨_, rfl, rfl, _, rfl, ?_⟩
  by_cases g0 : g = 0
  ·subst g0
   exact iteT (core (.inl rfl) _ _ s6 ht6 fun σ H' z => z)
  ·rw [show decide (V.int (g : Int) = V.int 0) = false from decide_eq_false (fun z => by injection z with z; omega)]
   refine iteF ⟨_, rfl, _, rfl, pl, _, _, _, rfl, rfl, SqL.of ht6, lsAt (by omega), rfl, _, rfl, ?_⟩
   rw [optE]
   cases hlg : ls.getD g none with
   | none => exact iteF ⟨ls, _, _, _, _, rfl, s6, ht6, b8T LI g0 hlg⟩
   | some v => exact iteT (core (.inr (by rw [hlg]; exact fun z => by cases z)) _ _ s6 ht6 fun σ H' z => z)
 ·rintro σ H5 ⟨ls, gg, ll, vv, bb, rfl, s5, ht5, LI⟩
  rw [lq'] at LI
  have lc := LI.len
  refine ⟨(by show 0 <= 1000; decide), fun pt H6 n6 => ?_⟩
  have fpt : H pt = none := s5.free n6.fresh
  have plt : pl ≠ pt := fun z => by
   have := n6.fresh
   rw [<- z, ht5] at this
   cases this
  let Iw : Nat -> St -> Hp -> Prop := fun m σ H' => ∃ tl : List Nat, σ = [some (.ref p), some (.ref pb), some (.int (m : Int)), some (.ref pl), gg, ll, vv, bb, some (.ref pt)] /\ Same H H' /\ H' pl = some (.lst (ls.map optN)) /\ H' pt = some (.lst (natV tl)) /\ m <= M /\ (m = M \/ m = 0 \/ ls.getD m none ≠ none) /\ (∀ os, FreeP n (a6U n ts bs) m os -> FreeP n (a6U n ts bs) M (os ++ tl))
  refine ⟨Iw, ⟨M, [], rfl, s5.trans n6.same, n6.same _ _ ht5, n6.here, Nat.le_refl _, .inl rfl, fun os z => by rw [List.append_nil]; exact z⟩, ?_⟩
  rintro m σ H7 ⟨tl, rfl, s7, hl7, ht7, mM, mm, ft⟩
  refine ⟨_, rfl, _, rfl, ?_⟩
  by_cases m0 : m = 0
  ·subst m0
   refine iteF (iteF ⟨_, rfl, _, rfl, ?_⟩)
   have f := ft [] .nil
   exact iteF ⟨_, rfl, q1 pt tl H7 s7 fpt ht7 f⟩
  ·rw [show (((m : Nat) : Int) != 0) = true from by simpa using m0]
   refine iteT ⟨_, rfl, _, rfl, pl, _, _, _, rfl, rfl, SqL.of hl7, lsAt (by omega), rfl, _, rfl, ?_⟩
   rw [optE]
   cases hlm : ls.getD m none with
   | none =>
    refine iteF ⟨_, rfl, _, rfl, ?_⟩
    rw [show (((m : Nat) : Int) != 0) = true from by simpa using m0]
    refine iteT (q2 H7 s7 fun os z => ?_)
    rcases mm with mm | mm | mm
    ·subst mm
     rcases c1J LI z with z | z
     ·exact m0 z
     ·exact z hlm
    ·exact m0 mm
    ·exact mm hlm
   | some v =>
    obtain ⟨vn, ge, ml, nx, bk⟩ := b1U LI hlm ft
    have p2 : 0 < 2 ^ v := Nat.pow_pos (by decide)
    have tz : tl.length <= 10 := by
     obtain ⟨os, f⟩ := b8W LI m m (Nat.le_refl _) (.inr (by rw [hlm]; exact fun z => by cases z))
     have f2 := ft os f
     have := a2K f2.nodup f2.inn
     rw [List.length_append] at this
     omega
    refine iteT ⟨Iw (m - 2 ^ v), fun σ' H' z => ⟨m - 2 ^ v, by omega, z⟩, ?_⟩
    have lsm : atI (ls.map optN) (m : Int) = some (.int (v : Int)) := by rw [lsAt (by omega), hlm]; rfl
    refine ⟨_, rfl, .inl ⟨rfl, _, SqL.of ht7⟩, _, rfl, _, rfl, pl, _, _, _, rfl, rfl, SqL.of hl7, lsm, ?_⟩
    refine ⟨pt, _, _, _, rfl, rfl, ht7, (by rw [a0J]; omega), by decide, by omega, fun H8 c8 => ?_⟩
    have pt1 : pl ≠ pt := plt
    have hl8 := (c8.rest pl plt).trans hl7
    refine ⟨_, rfl, _, rfl, _, rfl, pl, _, _, _, rfl, rfl, SqL.of hl8, lsm, _, _, rfl, rfl, ⟨by omega, by omega, by decide⟩, _, _, rfl, rfl, ?_⟩
    dsimp only
    rw [shl1]
    refine ⟨v :: tl, ?_, s7.chg fpt c8, hl8, c8.here, by omega, .inr nx, bk⟩
    rw [show ((m : Int) - ((2 ^ v : Nat) : Int)) = ((m - 2 ^ v : Nat) : Int) by omega]
    rfl
end
abbrev a5F : Stmt := top 28
theorem a8N : FnScope ["graph"] ["graph"] (a0F a5F) := ⟨rfl, rfl, rfl, by decide +kernel, rfl, by decide +kernel, by decide +kernel⟩
def c1K (K : Φρ) : Sp := fun vs H Q _ => ∃ (g : V) (n : Nat) (ts : List ζζ), vs = [g] /\ GraphV K H g n ts /\ (∀ t ∈ ts, 0 <= t.1 /\ t.1 < t.2 /\ t.2 < (n : Int)) /\ n <= 10 /\
 ∀ cs H', Same H H' -> CostOk n ts cs -> Q (.int (cs.getD (2 ^ n - 1) 0)) H'
theorem c2U {xs : List V} {v : V} {j : Nat} (hl : xs.length = j + 1) (h : xs[j]? = some v) : atI xs (-1) = some v := by
 obtain ⟨hj, e⟩ := List.getElem?_eq_some_iff.mp h
 have : xs = xs.take j ++ [v] := by
  rw [<- e, <- List.take_succ_eq_append_getElem hj, List.take_of_length_le (by omega)]
 rw [this]
 exact c0F _ _
section
variable {P : Program} {w : World} {K : Φρ} {mg : Str -> Option Value} {base : Heap}
abbrev DZ29 (K : PySem.W.Frag) (mg : Str -> Option Value) := Dn K mg "least_width" a5F ["graph"]
set_option maxHeartbeats 4000000 in
theorem a4N (B : Bl mg) (dZ32 : DZ32 K mg) (dZ19 : DZ19 K mg) (dZ40 : DZ40 K mg) (dZ12 : DZ12 K mg) (dZ17 : DZ17 K mg) (dZ16 : DZ16 K mg) (dZ29 : DZ29 K mg) : FnOk P w K mg base CX0 4 dZ29.f dZ29.fd ["graph"] (c1K K) := by
 have gZ16 : FnOk P w K mg base CX0 3 _ _ _ _ := c1I B dZ32 dZ19 dZ40 dZ12 dZ17 dZ16
 refine dZ29.F.ok a8N (fun vs H Q E h => ?_) (fun cdv A outer s H vs Q E hr h => ?_)
 ·obtain ⟨g, n, ts, rfl, _⟩ := h
  rfl
 obtain ⟨g, n, ts, rfl, hG, okt, n10, q⟩ := h
 have p0 : 0 < 2 ^ n := Nat.pow_pos (by decide)
 refine ⟨_, (a0D (a0O (a1D (a0P (K := K) rfl) (a0G gZ16 hr rfl dZ16.m dZ16.F.kp dZ16.b .nil a0U (a0A (pv 0) a0C)) (b0H a6E a0E) (fun _ _ => rfl)))), ?_⟩
 refine ⟨_, rfl, g, n, ts, rfl, hG, okt, n10, fun r cs H1 s1 f1 h1 C => ?_⟩
 have l := C.len
 refine ⟨_, rfl, r, _, _, .int (cs.getD (2 ^ n - 1) 0), rfl, rfl, SqL.of h1, c2U (j := 2 ^ n - 1) (by rw [List.length_map]; omega) ?_, q cs H1 s1 C⟩
 rw [List.getElem?_map, List.getElem?_eq_getElem (by omega), τα, List.getElem?_eq_getElem (by omega)]; rfl
end
end K
namespace K
open PySem L2 Lw Bg
def a0Q : List Nat -> Nat
 | [] => 0
 | v :: r => a0Q r ||| 2 ^ v
theorem a1S : ∀ (p : List Nat) (u : Nat), (a0Q p).testBit u = decide (u ∈ p)
 | [], u => by unfold a0Q; rw [Nat.zero_testBit]; simp
 | v :: r, u => by
  unfold a0Q
  rw [Nat.testBit_or, a1S r u, Nat.testBit_two_pow, Bool.eq_iff_iff, Bool.or_eq_true, decide_eq_true_iff, decide_eq_true_iff, decide_eq_true_iff, List.mem_cons]
  constructor
  ·rintro (h | h)
   ·exact .inr h
   ·exact .inl h.symm
  ·rintro (h | h)
   ·exact .inr h.symm
   ·exact .inl h
theorem a7F {n : Nat} : ∀ {p : List Nat}, (∀ v ∈ p, v < n) -> a0Q p < 2 ^ n
 | [], _ => Nat.pow_pos (by decide)
 | v :: r, h => Nat.or_lt_two_pow (a7F fun x hx => h x (List.mem_cons_of_mem _ hx)) (Nat.pow_lt_pow_right (by decide) (h v List.mem_cons_self))
theorem c4V {M : Nat} {p : List Nat} (h : ∀ u, M.testBit u = true ↔ u ∈ p) : M = a0Q p := Nat.eq_of_testBit_eq fun u => by
 rw [a1S, Bool.eq_iff_iff, h, decide_eq_true_iff]
structure Pcs (ts : List ζζ) (ls : List Nat) (ps : List (List Nat)) : Prop where
 sub : ∀ p ∈ ps, p.Sublist ls
 ne : ∀ p ∈ ps, p ≠ []
 all : ∀ x ∈ ls, ∃ p ∈ ps, x ∈ p
 dis : ps.Pairwise fun p q => ∀ x ∈ p, x ∉ q
 apart : ps.Pairwise fun p q => ∀ x ∈ p, ∀ y ∈ q, tieT ts x y = false
 con : ∀ p ∈ ps, ∀ x ∈ p, ∀ y ∈ p, x = y \/ PathT ts p x y
def b8X (H : Hp) (p : Addr) (ps : List (List Nat)) : Prop := ∃ qs : List Addr, H p = some (.lst (qs.map V.ref)) /\ Paired (fun q l => H q = some (.lst (natV l))) qs ps
def c7P (ps : List (List Nat)) : Prop := ps.Pairwise fun p q => p.headD 0 < q.headD 0
abbrev a8D : Stmt := top 13
theorem b1V : FnScope ["graph", "places"] ["graph", "places"] (a0F a8D) := ⟨rfl, rfl, rfl, by decide +kernel, rfl, by decide +kernel, by decide +kernel⟩
abbrev b4O : Stmt := top 14
theorem sc_pieces : FnScope ["graph", "places", "told", "left", "piece"] ["graph", "places"] (a0F b4O) := ⟨rfl, rfl, rfl, by decide +kernel, rfl, by decide +kernel, by decide +kernel⟩
abbrev a6Q : Stmt := top 15
theorem sc_piece_from : FnScope ["graph", "places", "v", "piece", "more"] ["graph", "places", "v"] (a0F a6Q) := ⟨rfl, rfl, rfl, by decide +kernel, rfl, by decide +kernel, by decide +kernel⟩
def a3A (l : List Nat) : List Int := l.map fun (x : Nat) => (x : Int)
theorem mem_natIp {l : List Nat} {x : Int} : x ∈ a3A l ↔ ∃ u : Nat, u ∈ l /\ x = (u : Int) := by
 unfold a3A
 rw [List.mem_map]
 constructor
 ·rintro ⟨u, h, e⟩; exact ⟨u, h, e.symm⟩
 ·rintro ⟨u, h, e⟩; exact ⟨u, h, e.symm⟩
theorem tieT_around {ts : List ζζ} {u v : Nat} : (u : Int) ∈ a3O ts (v : Int) ↔ tieT ts v u = true := by
 rw [tied_mem]
 unfold tieT
 rw [Bool.or_eq_true, decide_eq_true_iff, decide_eq_true_iff]
 exact or_comm
theorem c4W {l : List Int} (up : l.Pairwise (· < ·)) (h : ∀ x ∈ l, 0 <= x) : ∃ p : List Nat, l = a3A p /\ p.Pairwise (· < ·) := by
 have e : l = a3A (l.map Int.toNat) := by
  unfold a3A
  rw [List.map_map]
  conv => lhs; rw [<- List.map_id l]
  refine List.map_congr_left fun x hx => ?_
  have := h x hx
  show x = ((x.toNat : Nat) : Int)
  omega
 refine ⟨_, e, ?_⟩
 refine List.pairwise_map.mpr (List.Pairwise.imp_of_mem (fun {a b} ha hb hab => ?_) up)
 have := h a ha
 have := h b hb
 omega
theorem b5Y {p ls : List Nat} (up : p.Pairwise (· < ·)) (ul : ls.Pairwise (· < ·)) (h : ∀ x ∈ p, x ∈ ls) : p.Sublist ls := by
 have ndp : p.Nodup := up.imp fun h => Nat.ne_of_lt h
 have ndl : ls.Nodup := ul.imp fun h => Nat.ne_of_lt h
 have e : p = ls.filter fun x => decide (x ∈ p) := by
  refine List.Perm.eq_of_pairwise (le := (· < ·)) (fun a b _ _ h1 h2 => by omega) up (ul.sublist List.filter_sublist) ((List.perm_ext_iff_of_nodup ndp (ndl.sublist List.filter_sublist)).mpr fun x => ?_)
  rw [List.mem_filter, decide_eq_true_iff]
  exact ⟨fun hx => ⟨h x hx, hx⟩, fun hx => hx.2⟩
 rw [e]
 exact List.filter_sublist
theorem pigJ {α : Type} [DecidableEq α] : ∀ {l U : List α}, l.Nodup -> (∀ x ∈ l, x ∈ U) -> l.length <= U.length
 | [], _, _, _ => Nat.zero_le _
 | x :: r, U, h, s => by
  have h' := List.nodup_cons.mp h
  have hx := s x List.mem_cons_self
  have := List.length_erase_of_mem hx
  have p := List.length_pos_of_mem hx
  have ih := pigJ (l := r) (U := U.erase x) h'.2 fun y hy => (List.mem_erase_of_ne (fun (e : y = x) => h'.1 (e ▸ hy))).mpr (s y (List.mem_cons_of_mem _ hy))
  rw [List.length_cons]; omega
structure PieceOf (ts : List ζζ) (ls : List Nat) (v : Nat) (p : List Nat) : Prop where
 up : p.Pairwise (· < ·)
 mem : ∀ y, y ∈ p ↔ y ∈ ls /\ (y = v \/ PathT ts ls v y)
def b3J (K : Φρ) : Sp := fun vs H Q _ => ∃ (g : V) (n : Nat) (ts : List ζζ) (a : Addr) (ls : List Nat) (v : Nat), vs = [g, .ref a, .int (v : Int)] /\ GraphV K H g n ts /\ (∀ t ∈ ts, 0 <= t.1 /\ t.1 < t.2 /\ t.2 < (n : Int)) /\ n <= 10 /\ ts.length <= 100 /\ SqL K H a (natV ls) /\ ls.Nodup /\ (∀ x ∈ ls, x < n) /\ v ∈ ls /\
 ∀ r p H', Same H H' -> H r = none -> H' r = some (.lst (natV p)) -> PieceOf ts ls v p -> Q (.ref r) H'
def PcsN (H H' : Hp) (r : Addr) (ps : List (List Nat)) : Prop := ∃ qs : List Addr, H' r = some (.lst (qs.map V.ref)) /\ r ∉ qs /\ (∀ q ∈ qs, H q = none) /\ Paired (fun q l => H' q = some (.lst (natV l))) qs ps
def c1L (K : Φρ) : Sp := fun vs H Q _ => ∃ (g : V) (n : Nat) (ts : List ζζ) (a : Addr) (ls : List Nat), vs = [g, .ref a] /\ GraphV K H g n ts /\ (∀ t ∈ ts, 0 <= t.1 /\ t.1 < t.2 /\ t.2 < (n : Int)) /\ n <= 10 /\ ts.length <= 100 /\ H a = some (.lst (natV ls)) /\ ls.Pairwise (· < ·) /\ (∀ x ∈ ls, x < n) /\
 ∀ r ps H', Same H H' -> H r = none -> PcsN H H' r ps -> Pcs ts ls ps -> c7P ps -> Q (.ref r) H'
def a4A (ts : List ζζ) (ls : List Nat) : Prop := ls ≠ [] /\ ∀ x ∈ ls, ∀ y ∈ ls, x = y \/ PathT ts ls x y
def c1M (K : Φρ) : Sp := fun vs H Q _ => ∃ (g : V) (n : Nat) (ts : List ζζ) (a : Addr) (ls : List Nat), vs = [g, .ref a] /\ GraphV K H g n ts /\ (∀ t ∈ ts, 0 <= t.1 /\ t.1 < t.2 /\ t.2 < (n : Int)) /\ n <= 10 /\ ts.length <= 100 /\ H a = some (.lst (natV ls)) /\ ls.Pairwise (· < ·) /\ (∀ x ∈ ls, x < n) /\
 ∀ b H', Same H H' -> (b = true ↔ a4A ts ls) -> Q (.bl b) H'
theorem c4X {ts : List ζζ} {ls : List Nat} {ps : List (List Nat)} (h : Pcs ts ls ps) : ps.length = 1 ↔ a4A ts ls := by
 constructor
 ·intro e
  match ps, e, h with
  | [p], _, h =>
   have pm : p ∈ [p] := List.mem_singleton.mpr rfl
   refine ⟨fun z => ?_, fun x hx y hy => ?_⟩
   ·obtain ⟨x, r, e⟩ := List.exists_cons_of_ne_nil (h.ne p pm)
    have := (h.sub p pm).subset (show x ∈ p by rw [e]; exact List.mem_cons_self)
    rw [z] at this
    exact absurd this List.not_mem_nil
   ·obtain ⟨q, hq, qx⟩ := h.all x hx
    obtain ⟨q', hq', qy⟩ := h.all y hy
    rw [List.mem_singleton.mp hq] at qx
    rw [List.mem_singleton.mp hq'] at qy
    exact (h.con p pm x qx y qy).imp id fun z => z.mono fun a ha => (h.sub p pm).subset ha
 ·rintro ⟨ne, co⟩
  match ps, h with
  | [], h =>
   obtain ⟨x, r, e⟩ := List.exists_cons_of_ne_nil ne
   obtain ⟨q, hq, _⟩ := h.all x (by rw [e]; exact List.mem_cons_self)
   exact absurd hq List.not_mem_nil
  | [p], _ => rfl
  | p :: q :: r, h =>
   exfalso
   obtain ⟨x, r1, ex⟩ := List.exists_cons_of_ne_nil (h.ne p List.mem_cons_self)
   obtain ⟨y, r2, ey⟩ := List.exists_cons_of_ne_nil (h.ne q (List.mem_cons_of_mem _ List.mem_cons_self))
   have xp : x ∈ p := by rw [ex]; exact List.mem_cons_self
   have yq : y ∈ q := by rw [ey]; exact List.mem_cons_self
   have xl := (h.sub p List.mem_cons_self).subset xp
   have yl := (h.sub q (List.mem_cons_of_mem _ List.mem_cons_self)).subset yq
   obtain ⟨d1, _⟩ := List.pairwise_cons.mp h.dis
   obtain ⟨a1, _⟩ := List.pairwise_cons.mp h.apart
   have stay : ∀ {a u : Nat}, a ∈ p -> u ∈ ls -> tieT ts a u = true -> u ∈ p := fun {a u} ha hu t => by
    obtain ⟨s, hs, us⟩ := h.all u hu
    rcases List.mem_cons.mp hs with e | hs
    ·rw [<- e]; exact us
    ·rw [a1 s hs a ha u us] at t
     cases t
   have all : ∀ u, PathT ts ls x u -> u ∈ ls -> u ∈ p := fun u pth => by
    induction pth with
    | one t => exact fun hu => stay xp hu t
    | step _ m t ih => exact fun hu => stay (ih m) hu t
   rcases co x xl y yl with e | pth
   ·rw [e] at xp
    exact d1 q List.mem_cons_self y xp yq
   ·exact d1 q List.mem_cons_self y (all y pth yl) yq
theorem a4I {α β : Type} {F G : α -> β -> Prop} : ∀ {xs : List α} {ys : List β}, Paired F xs ys -> (∀ x y, x ∈ xs -> F x y -> G x y) -> Paired G xs ys
 | _, _, .nil, _ => .nil
 | _, _, .cons h t, g => .cons (g _ _ List.mem_cons_self h) (a4I t fun x y hx => g x y (List.mem_cons_of_mem _ hx))
theorem c7Q {K : Φρ} {H H' : Hp} {a b : Addr} {xs : List V} {o : HO} (h : SqL K H a xs) (ne : a ≠ b) (c : Chg H b o H') : SqL K H' a xs := by
 rcases h with (h | ⟨o', h⟩) | h
 ·exact .inl (.inl ((c.rest a ne).trans h))
 ·exact .inl (.inr ⟨o', (c.rest a ne).trans h⟩)
 ·exact .inr h
section
variable {P : Program} {w : World} {K : Φρ} {mg : Str -> Option Value} {base : Heap}
abbrev DZ35 (K : PySem.W.Frag) (mg : Str -> Option Value) := Dn K mg "piece_from" a6Q ["graph", "places", "v"]
set_option maxHeartbeats 8000000 in
theorem a9W (B : Bl mg) (dZ26 : DZ26 K mg) (dZ23 : DZ23 K mg) (dZ15 : DZ15 K mg) (dZ27 : DZ27 K mg) (dZ30 : DZ30 K mg) (dZ13 : DZ13 K mg) (dZ38 : DZ38 K mg) (dZ35 : DZ35 K mg) : FnOk P w K mg base CX0 5 dZ35.f dZ35.fd ["graph", "places", "v"] (b3J K) := by
 have gZ13 : FnOk P w K mg base CX0 4 _ _ _ _ := (b1L B dZ26 dZ23 dZ13).mono (by decide)
 have gZ15 : FnOk P w K mg base CX0 4 _ _ _ _ := (b8B B dZ15).mono (by decide)
 have gZ27 : FnOk P w K mg base CX0 4 _ _ _ _ := (b4I B dZ27).mono (by decide)
 have gZ38 : FnOk P w K mg base CX0 4 _ _ _ _ := c7L B dZ26 dZ23 dZ30 dZ27 dZ13 dZ38
 refine dZ35.F.ok sc_piece_from (fun vs H Q E h => ?_) (fun cdv A outer s H vs Q E hr h => ?_)
 ·obtain ⟨g, n, ts, a, ls, v, rfl, _⟩ := h
  rfl
 obtain ⟨g, n, ts, a, ls, v, rfl, hG, okt, n10, l100, hA, nd, hn, vl, q⟩ := h
 have vn := hn v vl
 have t16 : ∀ t ∈ ts, 0 <= t.1 /\ t.1 < 16 /\ 0 <= t.2 /\ t.2 < 16 := fun t ht => by have := okt t ht; omega
 have hA' : ∀ {H' : Hp}, Same H H' -> SqL K H' a ((a3A ls).map V.int) := fun {H'} s => by
  have := s.seq hA
  rw [a0Y] at this
  exact this
 have al : ∀ u : Nat, (a3O ts (u : Int)).length <= 1000 := fun u => by
  unfold a3O
  rw [List.length_append]
  have h1 := List.length_filterMap_le (fun t : Int × Int => if t.2 = (u : Int) then some t.1 else none) ts
  have h2 := List.length_filterMap_le (fun t : Int × Int => if t.1 = (u : Int) then some t.2 else none) ts
  omega
 have tn : ∀ {x y : Nat}, tieT ts x y = true -> x ≠ y := fun {x y} h z => by
  subst z
  unfold tieT at h
  rw [Bool.or_self] at h
  have := okt _ (of_decide_eq_true h)
  omega
 refine ⟨_, (a0B (a0M (i := 3) sc_piece_from.nd rfl (Or.inl rfl) (a2S (a0A (pv 2) a0C)))
   (a0B (a0M (i := 4) sc_piece_from.nd rfl (Or.inl rfl) (a0G gZ15 hr rfl dZ15.m dZ15.F.kp dZ15.b .nil a0U (a0A (a0G gZ13 hr rfl dZ13.m dZ13.F.kp dZ13.b .nil a0U (a0A (pv 0) (a0A (pv 2) a0C))) (a0A (pv 1) a0C))))
   (a0B (a6X PassesOwn.never (a0T (K := K) rfl (pv 4) (fun _ => rfl))
   (a0B (a0M (i := 3) sc_piece_from.nd rfl (Or.inl rfl) (a0G gZ27 hr rfl dZ27.m dZ27.F.kp dZ27.b .nil a0U (a0A (pv 3) (a0A (pv 4) a0C))))
   (a0D (a0M (i := 4) sc_piece_from.nd rfl (Or.inl rfl) (a0G gZ15 hr rfl dZ15.m dZ15.F.kp dZ15.b .nil a0U (a0A (a0G gZ38 hr rfl dZ38.m dZ38.F.kp dZ38.b .nil a0U (a0A (pv 0) (a0A (pv 3) a0C))) (a0A (pv 1) a0C)))))))
   (a0D (a0O (pv 3)))))), ?_⟩
 refine ⟨_, rfl, (by show 1 <= 1000; decide), fun p1 H1 n1 => ?_⟩
 refine ⟨_, rfl, _, rfl, g, n, ts, v, rfl, hG.same n1.same, by omega, by omega, by omega, fun H2 p3 H3 s2 n3 => ?_⟩
 have s13 : Same H1 H3 := s2.trans n3.same
 have s03 : Same H H3 := n1.same.trans s13
 refine ⟨_, rfl, p3, a, _, _, rfl, SqL.of n3.here, hA' s03, al v, fun H4 p5 H5 s4 n5 => ?_⟩
 have s05 : Same H H5 := s03.trans (s4.trans n5.same)
 let Iw : Nat -> St -> Hp -> Prop := fun m σ H' => ∃ (pp pm : Addr) (P M : List Int), σ = [some g, some (.ref a), some (.int (v : Int)), some (.ref pp), some (.ref pm)] /\ Same H H' /\ H pp = none /\ H' pp = some (.lst (P.map V.int)) /\ H' pm = some (.lst (M.map V.int)) /\ M.length <= 1000 /\ m = ls.length - P.length /\ P.Pairwise (· < ·) /\ ((v : Nat) : Int) ∈ P /\
   (∀ x ∈ P, ∃ u : Nat, x = (u : Int) /\ u ∈ ls /\ (u = v \/ PathT ts ls v u)) /\ ∀ x, x ∈ M ↔ ∃ u : Nat, x = (u : Int) /\ u ∈ ls /\ x ∉ P /\ ∃ y : Nat, (y : Int) ∈ P /\ tieT ts y u = true
 refine ⟨Iw,
  ⟨_, p1, p5, [(v : Int)], _, rfl, s05, n1.fresh, (s13.trans (s4.trans n5.same)) _ _ n1.here, n5.here, Nat.le_trans (List.length_filter_le _ _) (al v), rfl, List.pairwise_singleton _ _, List.mem_singleton.mpr rfl, fun x hx => ⟨v, List.mem_singleton.mp hx, vl, .inl rfl⟩, fun x => ?_⟩, ?_⟩
 ·unfold b3G
  rw [List.mem_filter, decide_eq_true_iff]
  constructor
  ·rintro ⟨h1, h2⟩
   obtain ⟨u, ul, e⟩ := mem_natIp.mp h2
   subst e
   have t := tieT_around.mp h1
   refine ⟨u, rfl, ul, fun z => tn t ?_, v, List.mem_singleton.mpr rfl, t⟩
   have := List.mem_singleton.mp z
   omega
  ·rintro ⟨u, rfl, ul, _, y, hy, t⟩
   have e := List.mem_singleton.mp hy
   have : y = v := by omega
   subst this
   exact ⟨tieT_around.mpr t, mem_natIp.mpr ⟨u, ul, rfl⟩⟩
 rintro m σ H6 ⟨pp, pm, P, M, rfl, s6, fpp, hp6, hm6, lM, rfl, up, vP, sP, mM⟩
 refine ⟨_, rfl, _, .inl ⟨_, SqL.of hm6, rfl⟩, ?_⟩
 have clo : ∀ u, PathT ts ls v u -> M = [] -> u ∈ ls -> (u : Int) ∈ P := fun u pth => by
  intro eM
  have step : ∀ {y u : Nat}, (y : Int) ∈ P -> u ∈ ls -> tieT ts y u = true -> (u : Int) ∈ P := fun {y u} hy hu t => by
   apply Classical.byContradiction
   intro c
   have : (u : Int) ∈ M := (mM _).mpr ⟨u, rfl, hu, c, y, hy, t⟩
   rw [eM] at this
   exact absurd this List.not_mem_nil
  induction pth with
  | one t => exact fun hu => step vP hu t
  | step _ m t ih => exact fun hu => step (ih m) hu t
 by_cases hM : M = []
 ·rw [show (!(M.map V.int).isEmpty) = false by rw [hM]; rfl]
  refine iteF ⟨_, rfl, ?_⟩
  obtain ⟨p, ep, pu⟩ := c4W up fun x hx => by
   obtain ⟨u, e, _⟩ := sP x hx
   omega
  have hp6' : H6 pp = some (.lst (natV p)) := by
   rw [hp6, ep, a0Y]; rfl
  refine q pp p H6 s6 fpp hp6' ⟨pu, fun y => ?_⟩
  have inP : (y : Int) ∈ P ↔ y ∈ p := by
   rw [ep, mem_natIp]
   constructor
   ·rintro ⟨u, hu, e⟩
    have : u = y := by omega
    rw [<- this]; exact hu
   ·exact fun h => ⟨y, h, rfl⟩
  rw [<- inP]
  constructor
  ·intro h
   obtain ⟨u, e, ul, c⟩ := sP _ h
   have : u = y := by omega
   subst this
   exact ⟨ul, c⟩
  ·rintro ⟨yl, c⟩
   rcases c with c | c
   ·rw [c]; exact vP
   ·exact clo y c hM yl
 ·have Mne : M ≠ [] := hM
  rw [show (!(M.map V.int).isEmpty) = true by
   cases M with
   | nil => exact absurd rfl hM
   | cons _ _ => rfl]
  refine iteT ⟨fun σ' H' => ∃ m', m' < ls.length - P.length /\ Iw m' σ' H', fun σ' H' z => z, ?_⟩
  have smP : b3C P := fun x hx => by
   obtain ⟨u, e, ul, _⟩ := sP x hx
   have := hn u ul
   omega
  have smM : b3C M := fun x hx => by
   obtain ⟨u, e, ul, _⟩ := (mM x).mp hx
   have := hn u ul
   omega
  refine ⟨_, rfl, _, rfl, pp, pm, P, M, rfl, SqL.of hp6, SqL.of hm6, smP, smM, fun H7 p8 H8 s7 n8 => ?_⟩
  have s68 : Same H6 H8 := s7.trans n8.same
  have s08 := s6.trans s68
  have mJ : ∀ x, x ∈ a2Y P M ↔ x ∈ P \/ x ∈ M := fun x => by
   unfold a2Y
   rw [mem_upF, decide_eq_true_iff]
   constructor
   ·exact fun h => h.2.2
   ·intro h
    have := h.elim (smP x) (smM x)
    exact ⟨this.1, this.2, h⟩
  have sJ : ∀ x ∈ a2Y P M, ∃ u : Nat, x = (u : Int) /\ u ∈ ls /\ (u = v \/ PathT ts ls v u) := fun x hx => by
   rcases (mJ x).mp hx with h | h
   ·exact sP x h
   ·obtain ⟨u, e, ul, _, y, hy, t⟩ := (mM x).mp h
    refine ⟨u, e, ul, .inr ?_⟩
    obtain ⟨y', ey, yl, c⟩ := sP _ hy
    have : y' = y := by omega
    subst this
    rcases c with c | c
    ·rw [<- c]; exact .one t
    ·exact .step c yl t
  have rb : ∀ x ∈ a2Y P M, 0 <= x /\ x < ((n : Nat) : Int) := fun x hx => by
   obtain ⟨u, e, ul, _⟩ := sJ x hx
   have := hn u ul
   omega
  refine ⟨_, rfl, _, rfl, g, (n : Int), ts, p8, a2Y P M, rfl, hG.same s08, by omega, by omega, t16, SqL.of n8.here, rb, fun H9 p10 H10 s9 n10 => ?_⟩
  have s8_10 : Same H8 H10 := s9.trans n10.same
  have s0_10 := s08.trans s8_10
  have rl : (rimF ts (a2Y P M)).length <= 1000 := by
   unfold rimF b1J
   refine Nat.le_trans (List.length_filter_le _ _) (Nat.le_trans (b8E _) (by decide))
  refine ⟨_, rfl, p10, a, _, _, rfl, SqL.of n10.here, hA' s0_10, rl, fun H11 p12 H12 s11 n12 => ?_⟩
  have s8_12 : Same H8 H12 := s8_10.trans (s11.trans n12.same)
  have Jlen : P.length < (a2Y P M).length := by
   obtain ⟨z, zr, ez⟩ := List.exists_cons_of_ne_nil Mne
   have zM : z ∈ M := by rw [ez]; exact List.mem_cons_self
   obtain ⟨_, _, _, zP, _⟩ := (mM z).mp zM
   have ndP : P.Nodup := up.imp fun h => Int.ne_of_lt h
   have := pigJ (l := z :: P) (U := a2Y P M) (List.nodup_cons.mpr ⟨zP, ndP⟩) fun x hx => by
    rcases List.mem_cons.mp hx with e | h
    ·rw [e]; exact (mJ z).mpr (.inr zM)
    ·exact (mJ x).mpr (.inl h)
   exact this
  have Jle : (a2Y P M).length <= ls.length := by
   have nd2 : (a2Y P M).Nodup := (b7T _).imp fun h => Int.ne_of_lt h
   have := pigJ (l := a2Y P M) (U := a3A ls) nd2 fun x hx => by
    obtain ⟨u, e, ul, _⟩ := sJ x hx
    exact mem_natIp.mpr ⟨u, ul, e⟩
   unfold a3A at this
   rw [List.length_map] at this
   exact this
  refine ⟨_, by omega, p8, p12, a2Y P M, _, rfl, s08.trans s8_12, s6.free (s7.free n8.fresh), s8_12 _ _ n8.here, n12.here, Nat.le_trans (List.length_filter_le _ _) rl, rfl, b7T _, (mJ _).mpr (.inl vP), sJ, fun x => ?_⟩
  unfold b3G rimF b1J b1M
  rw [List.mem_filter, decide_eq_true_iff, List.mem_filter, mem_upF, List.any_eq_true]
  constructor
  ·rintro ⟨⟨⟨_, _, y, hy, ty⟩, nj⟩, hx⟩
   obtain ⟨u, ul, e⟩ := mem_natIp.mp hx
   subst e
   obtain ⟨y', ey, _⟩ := sJ y hy
   subst ey
   refine ⟨u, rfl, ul, by simpa using nj, y', hy, tieT_around.mp (of_decide_eq_true ty)⟩
  ·rintro ⟨u, rfl, ul, nj, y, hy, t⟩
   have := hn u ul
   exact ⟨⟨⟨by omega, by omega, (y : Int), hy, decide_eq_true (tieT_around.mpr t)⟩, by simpa using nj⟩, mem_natIp.mpr ⟨u, ul, rfl⟩⟩
abbrev DZ36 (K : PySem.W.Frag) (mg : Str -> Option Value) := Dn K mg "pieces" b4O ["graph", "places"]
set_option maxHeartbeats 8000000 in
theorem b1W (B : Bl mg) (dZ26 : DZ26 K mg) (dZ23 : DZ23 K mg) (dZ15 : DZ15 K mg) (dZ27 : DZ27 K mg) (dZ30 : DZ30 K mg) (dZ13 : DZ13 K mg) (dZ38 : DZ38 K mg) (dZ35 : DZ35 K mg) (dZ36 : DZ36 K mg) : FnOk P w K mg base CX0 6 dZ36.f dZ36.fd ["graph", "places"] (c1L K) := by
 have gZ35 : FnOk P w K mg base CX0 5 _ _ _ _ := a9W B dZ26 dZ23 dZ15 dZ27 dZ30 dZ13 dZ38 dZ35
 have gZ30 : FnOk P w K mg base CX0 5 _ _ _ _ := (b3H B dZ30).mono (by decide)
 refine dZ36.F.ok sc_pieces (fun vs H Q E h => ?_) (fun cdv A outer s H vs Q E hr h => ?_)
 ·obtain ⟨g, n, ts, a, ls, rfl, _⟩ := h
  rfl
 obtain ⟨g, n, ts, a, ls, rfl, hG, okt, n10, l100, hA, up, hn, q⟩ := h
 have nd : ls.Nodup := up.imp fun h => Nat.ne_of_lt h
 have ll := a2K nd hn
 refine ⟨_, (a0B (a0M (i := 2) sc_pieces.nd rfl (Or.inl rfl) (a2S a0C))
   (a0B (a0M (i := 3) sc_pieces.nd rfl (Or.inl rfl) (pv 1))
   (a0B (a6X PassesOwn.never (a0T (K := K) rfl (pv 3) (fun _ => rfl))
   (a0B (a0M (i := 4) sc_pieces.nd rfl (Or.inl rfl) (a0G gZ35 hr rfl dZ35.m dZ35.F.kp dZ35.b .nil a0U (a0A (pv 0) (a0A (pv 3) (a0A (a1D (a0P (K := K) rfl) (pv 3) a0E (fun _ _ => rfl)) a0C)))))
   (a0B (a2O (a3R (K := K) rfl PySem.F.plainAttrs_list PySem.F.slot_list_append PySem.F.type_list_append a1X (pv 2) (a0A (pv 4) a0C)))
   (a0D (a0M (i := 3) sc_pieces.nd rfl (Or.inl rfl) (a0G gZ30 hr rfl dZ30.m dZ30.F.kp dZ30.b .nil a0U (a0A (pv 3) (a0A (pv 4) a0C))))))))
   (a0D (a0O (pv 2)))))), ?_⟩
 refine ⟨(by show 0 <= 1000; decide), fun pt H1 n1 => ?_⟩
 refine ⟨_, rfl, ?_⟩
 let Iw : Nat -> St -> Hp -> Prop := fun m σ H' => ∃ (al : Addr) (lf : List Nat) (ps : List (List Nat)) (qs : List Addr) (pp : Option V), σ = [some g, some (.ref a), some (.ref pt), some (.ref al), pp] /\ Same H H' /\ H' pt = some (.lst (qs.map V.ref)) /\ pt ∉ qs /\ al ≠ pt /\ Paired (fun q l => H' q = some (.lst (natV l))) qs ps /\ SqL K H' al (natV lf) /\ m = lf.length /\ lf.Sublist ls /\ qs.length + lf.length <= ls.length /\
   (∀ p ∈ ps, p.Sublist ls /\ p ≠ [] /\ (∀ x ∈ p, ∀ y ∈ p, x = y \/ PathT ts p x y) /\ (∀ x ∈ p, x ∉ lf) /\ ∀ x ∈ p, ∀ y ∈ lf, tieT ts x y = false) /\ (∀ x ∈ ls, x ∈ lf \/ ∃ p ∈ ps, x ∈ p) /\ (ps.Pairwise fun p q => ∀ x ∈ p, x ∉ q) /\ (ps.Pairwise fun p q => ∀ x ∈ p, ∀ y ∈ q, tieT ts x y = false) /\ c7P ps /\ (∀ p ∈ ps, ∀ y ∈ lf, p.headD 0 < y) /\ ∀ q ∈ qs, H q = none
 refine ⟨Iw,
  ⟨_, a, ls, [], [], none, rfl, n1.same, n1.here, List.not_mem_nil, ?_, .nil, SqL.of (n1.same _ _ hA), rfl, List.Sublist.refl _, by simp, fun p hp => absurd hp List.not_mem_nil, fun x hx => .inl hx, .nil, .nil, .nil, fun p hp => absurd hp List.not_mem_nil, fun q hq => absurd hq List.not_mem_nil⟩, ?_⟩
 ·intro z
  have := n1.fresh
  rw [<- z, hA] at this
  cases this
 rintro m σ H2 ⟨al, lf, ps, qs, pp, rfl, s2, ht2, nq, alt, pq, hl2, rfl, sub, cnt, pr, all, dis, apa, hds, hlo, fqs⟩
 refine ⟨_, rfl, _, .inl ⟨_, hl2, rfl⟩, ?_⟩
 by_cases hlf : lf = []
 ·rw [show (!(natV lf).isEmpty) = false by rw [hlf]; rfl]
  refine iteF ⟨_, rfl, q pt ps H2 s2 n1.fresh ⟨qs, ht2, nq, fqs, pq⟩ ⟨fun p hp => (pr p hp).1, fun p hp => (pr p hp).2.1, fun x hx => ?_, dis, apa, fun p hp => (pr p hp).2.2.1⟩ hds⟩
  rcases all x hx with h | h
  ·rw [hlf] at h; exact absurd h List.not_mem_nil
  ·exact h
 ·rw [show (!(natV lf).isEmpty) = true by
   cases lf with
   | nil => exact absurd rfl hlf
   | cons _ _ => rfl]
  obtain ⟨v, lr, el⟩ := List.exists_cons_of_ne_nil hlf
  have vl : v ∈ lf := by rw [el]; exact List.mem_cons_self
  have upf : lf.Pairwise (· < ·) := up.sublist sub
  have ndf : lf.Nodup := nd.sublist sub
  have at0 : atI (natV lf) 0 = some (.int (v : Int)) := by
   have : atI (natV lf) ((0 : Nat) : Int) = some (.int (v : Int)) := a2Q (by rw [el]; rfl)
   exact this
  refine iteT ⟨fun σ' H' => ∃ m', m' < lf.length /\ Iw m' σ' H', fun σ' H' z => z, ?_⟩
  refine ⟨_, rfl, _, rfl, _, rfl, al, _, _, _, rfl, rfl, hl2, at0, g, n, ts, al, lf, v, rfl, hG.same s2, okt, n10, l100, hl2, ndf, fun x hx => hn x (sub.subset hx), vl, fun pr3 p H3 s3 f3 h3 PO => ?_⟩
  have vp : v ∈ p := (PO.mem v).mpr ⟨vl, .inl rfl⟩
  have s03 := s2.trans s3
  have ht3 := s3 _ _ ht2
  have lq2 := Paired.length pq
  refine ⟨_, rfl, .inl ⟨rfl, _, SqL.of ht3⟩, _, rfl, pt, _, _, rfl, rfl, ht3, by rw [List.length_map]; omega, fun H4 c4 => ?_⟩
  have s04 : Same H H4 := s03.chg n1.fresh c4
  have p3t : pr3 ≠ pt := fun z => by
   rw [z, ht2] at f3
   cases f3
  have h4 : H4 pr3 = some (.lst (natV p)) := (c4.rest pr3 p3t).trans h3
  have hl4 : SqL K H4 al (natV lf) := c7Q (s3.seq hl2) alt c4
  have hl4' : SqL K H4 al ((a3A lf).map V.int) := by rw [a0Y] at hl4; exact hl4
  have h4' : SqL K H4 pr3 ((a3A p).map V.int) := by
   have := SqL.of (K := K) h4
   rw [a0Y] at this
   exact this
  have lfl : lf.length <= 10 := by have := sub.length_le; omega
  refine ⟨_, rfl, _, rfl, al, pr3, _, _, rfl, hl4', h4', by unfold a3A; rw [List.length_map]; omega, fun H5 p6 H6 s5 n6 => ?_⟩
  have s46 : Same H4 H6 := s5.trans n6.same
  have e6 : b1J (a3A lf) (a3A p) = a3A (lf.filter fun x => !decide (x ∈ p)) := by
   unfold b1J a3A
   rw [List.filter_map]
   refine congrArg _ (List.filter_congr fun x _ => ?_)
   show (!decide ((x : Int) ∈ p.map fun (y : Nat) => (y : Int))) = _
   rw [show decide ((x : Int) ∈ p.map fun (y : Nat) => (y : Int)) = decide (x ∈ p) from decide_eq_decide.mpr (by
    rw [List.mem_map]
    constructor
    ·rintro ⟨y, hy, e⟩
     have : y = x := by omega
     rw [<- this]; exact hy
    ·exact fun h => ⟨x, h, rfl⟩)]
  have h6 : H6 p6 = some (.lst (natV (lf.filter fun x => !decide (x ∈ p)))) := by
   rw [n6.here, e6, a0Y]; rfl
  have p6t : p6 ≠ pt := fun z => by
   have := n6.fresh
   rw [z, s5 _ _ c4.here] at this
   cases this
  have lf' : (lf.filter fun x => !decide (x ∈ p)).length < lf.length := by
   have := List.length_filter_lt_length_iff_exists (l := lf) (p := fun x => !decide (x ∈ p))
   refine this.mpr ⟨v, vl, ?_⟩
   rw [decide_eq_true vp]; exact Bool.false_ne_true
  have subp : p.Sublist lf := b5Y PO.up upf fun x hx => ((PO.mem x).mp hx).1
  have mf : ∀ x, (x ∈ lf.filter fun x => !decide (x ∈ p)) ↔ x ∈ lf /\ x ∉ p := fun x => by rw [List.mem_filter]; simp
  have headP : p.headD 0 = v := by
   obtain ⟨x, r, ex⟩ := List.exists_cons_of_ne_nil (List.ne_nil_of_mem vp)
   have xl : x ∈ lf := subp.subset (by rw [ex]; exact List.mem_cons_self)
   have h1 : v <= x := by
    rw [el] at xl
    rcases List.mem_cons.mp xl with c | c
    ·omega
    ·have := (List.pairwise_cons.mp (el ▸ upf)).1 x c; omega
   have h2 : x <= v := by
    have vp' := vp
    rw [ex] at vp'
    rcases List.mem_cons.mp vp' with c | c
    ·omega
    ·have := (List.pairwise_cons.mp (ex ▸ PO.up)).1 v c; omega
   rw [ex]
   show x = v
   omega
  have inP : ∀ u, PathT ts lf v u -> PathT ts p v u := fun u pth => by
   induction pth with
   | one t => exact .one t
   | step q m t ih => exact .step ih ((PO.mem _).mpr ⟨m, .inr q⟩) t
  have conv : ∀ x ∈ p, x = v \/ PathT ts p v x := fun x hx => ((PO.mem x).mp hx).2.imp id (inP x)
  refine ⟨_, lf', p6, lf.filter fun x => !decide (x ∈ p), ps ++ [p], qs ++ [pr3], _, rfl, s04.trans s46, ?_, ?_, p6t, ?_, SqL.of h6, rfl, List.filter_sublist.trans sub, ?_, ?_, ?_, ?_, ?_, ?_, ?_, ?_⟩
  ·rw [s46 _ _ c4.here, List.map_append]; rfl
  ·intro z
   rcases List.mem_append.mp z with z | z
   ·exact nq z
   ·exact p3t (List.mem_singleton.mp z).symm
  ·refine a2I (a4I pq fun q l hq h => s46 _ _ ((c4.rest q fun z => nq (by rw [<- z]; exact hq)).trans (s3 _ _ h))) (s46 _ _ h4)
  ·rw [List.length_append]
   show qs.length + 1 + _ <= _
   omega
  ·intro q hq
   rcases List.mem_append.mp hq with hq | hq
   ·obtain ⟨a1, a2, a3, a4, a5⟩ := pr q hq
    exact ⟨a1, a2, a3, fun x hx z => a4 x hx ((mf x).mp z).1, fun x hx y hy => a5 x hx y ((mf y).mp hy).1⟩
   ·rw [List.mem_singleton.mp hq]
    refine ⟨subp.trans sub, List.ne_nil_of_mem vp, fun x hx y hy => ?_, fun x hx z => ((mf x).mp z).2 hx, fun x hx y hy => ?_⟩
    ·by_cases c : x = y
     ·exact .inl c
     ·refine .inr ?_
      rcases conv x hx with e | p1
      ·rcases conv y hy with e' | p2
       ·exact absurd (e.trans e'.symm) c
       ·rw [e]; exact p2
      ·rcases conv y hy with e' | p2
       ·rw [e']; exact p1.symm
       ·exact PathT.glue vp p1.symm p2
    ·obtain ⟨yl, yp⟩ := (mf y).mp hy
     cases t : tieT ts x y with
     | false => rfl
     | true =>
      refine absurd ((PO.mem y).mpr ⟨yl, .inr ?_⟩) yp
      obtain ⟨xl, c⟩ := (PO.mem x).mp hx
      rcases c with c | c
      ·rw [<- c]; exact .one t
      ·exact .step c xl t
  ·intro x hx
   rcases all x hx with h | ⟨q, hq, h⟩
   ·by_cases c : x ∈ p
    ·exact .inr ⟨p, List.mem_append_right _ (List.mem_singleton.mpr rfl), c⟩
    ·exact .inl ((mf x).mpr ⟨h, c⟩)
   ·exact .inr ⟨q, List.mem_append_left _ hq, h⟩
  ·refine List.pairwise_append.mpr ⟨dis, List.pairwise_singleton _ _, fun q hq r hr x hx z => ?_⟩
   rw [List.mem_singleton.mp hr] at z
   exact (pr q hq).2.2.2.1 x hx (subp.subset z)
  ·refine List.pairwise_append.mpr ⟨apa, List.pairwise_singleton _ _, fun q hq r hr x hx y hy => ?_⟩
   rw [List.mem_singleton.mp hr] at hy
   exact (pr q hq).2.2.2.2 x hx y (subp.subset hy)
  ·refine List.pairwise_append.mpr ⟨hds, List.pairwise_singleton _ _, fun q hq r hr => ?_⟩
   rw [List.mem_singleton.mp hr, headP]
   exact hlo q hq v vl
  ·intro q hq y hy
   obtain ⟨yl, yp⟩ := (mf y).mp hy
   rcases List.mem_append.mp hq with hq | hq
   ·exact hlo q hq y yl
   ·rw [List.mem_singleton.mp hq, headP]
    rw [el] at yl
    rcases List.mem_cons.mp yl with c | c
    ·exact absurd (c ▸ vp) yp
    ·exact (List.pairwise_cons.mp (el ▸ upf)).1 y c
  ·intro q hq
   rcases List.mem_append.mp hq with hq | hq
   ·exact fqs q hq
   ·rw [List.mem_singleton.mp hq]; exact s2.free f3
abbrev DZ24 (K : PySem.W.Frag) (mg : Str -> Option Value) := Dn K mg "is_joined" a8D ["graph", "places"]
set_option maxHeartbeats 8000000 in
theorem b1X (B : Bl mg) (dZ26 : DZ26 K mg) (dZ23 : DZ23 K mg) (dZ15 : DZ15 K mg) (dZ27 : DZ27 K mg) (dZ30 : DZ30 K mg) (dZ13 : DZ13 K mg) (dZ38 : DZ38 K mg) (dZ35 : DZ35 K mg) (dZ36 : DZ36 K mg) (dZ24 : DZ24 K mg) : FnOk P w K mg base CX0 7 dZ24.f dZ24.fd ["graph", "places"] (c1M K) := by
 have gZ36 : FnOk P w K mg base CX0 6 _ _ _ _ := b1W B dZ26 dZ23 dZ15 dZ27 dZ30 dZ13 dZ38 dZ35 dZ36
 refine dZ24.F.ok b1V (fun vs H Q E h => ?_) (fun cdv A outer s H vs Q E hr h => ?_)
 ·obtain ⟨g, n, ts, a, ls, rfl, _⟩ := h
  rfl
 obtain ⟨g, n, ts, a, ls, rfl, hG, okt, n10, l100, hA, up, hn, q⟩ := h
 refine ⟨_, (a0D (a0O (a5T a3U (a0I (a0S (K := K) rfl) rfl B.len (by decide +kernel) (a0A (a0G gZ36 hr rfl dZ36.m dZ36.F.kp dZ36.b .nil a0U (a0A (pv 0) (a0A (pv 1) a0C))) a0C)) a0E (a0W _)))), ?_⟩
 refine ⟨_, rfl, _, rfl, g, n, ts, a, ls, rfl, hG, okt, n10, l100, hA, up, hn, fun r ps H1 s1 f1 ⟨qs, h1, _, _, d1⟩ PO _ => ?_⟩
 have lq := Paired.length d1
 refine ⟨r, _, rfl, .inl (SqL.of h1), rfl, ?_⟩
 refine q _ H1 s1 ?_
 rw [decide_eq_true_iff, List.length_map, lq, <- c4X PO]
 constructor
 ·intro h; injection h with h; omega
 ·intro h; rw [h]; rfl
end
end K
namespace K
open PySem L2 Lw Bg
theorem b1Y {n : Nat} : ∀ {ls : List Nat}, ls.Nodup -> (∀ v ∈ ls, v < n) -> ∃ M : Nat, (ls.map fun (v : Nat) => ((2 ^ v : Nat) : Int)).sum = (M : Int) /\ M < 2 ^ n /\ ∀ u, M.testBit u = true ↔ u ∈ ls
 | [], _, _ => ⟨0, rfl, Nat.pow_pos (by decide), fun u => by rw [Nat.zero_testBit]; simp⟩
 | v :: r, nd, hn => by
  obtain ⟨nv, nr⟩ := List.nodup_cons.mp nd
  obtain ⟨M, e, l, t⟩ := b1Y nr fun x hx => hn x (List.mem_cons_of_mem _ hx)
  have vn := hn v List.mem_cons_self
  have f : M.testBit v = false := by
   cases c : M.testBit v with
   | false => rfl
   | true => exact absurd ((t v).mp c) nv
  obtain ⟨_, _, a⟩ := a2J f
  refine ⟨M ||| 2 ^ v, ?_, Nat.or_lt_two_pow l (Nat.pow_lt_pow_right (by decide) vn), fun u => ?_⟩
  ·rw [List.map_cons, List.sum_cons, e, <- a]; omega
  ·rw [Nat.testBit_or, Nat.testBit_two_pow, Bool.or_eq_true, t u, decide_eq_true_iff, List.mem_cons]
   constructor
   ·rintro (h | h)
    ·exact .inr h
    ·exact .inl h.symm
   ·rintro (h | h)
    ·exact .inr h.symm
    ·exact .inl h
abbrev b1Z : Stmt := top 18
theorem b5Z : FnScope ["places"] ["places"] (a0F b1Z) := ⟨rfl, rfl, rfl, by decide +kernel, rfl, by decide +kernel, by decide +kernel⟩
abbrev c2V : Stmt := top 30
theorem sc_flaw : FnScope ["graph", "sets", "k", "places", "bags", "parts", "j", "near"] ["graph", "sets"] (a0F c2V) := ⟨rfl, rfl, rfl, by decide +kernel, rfl, by decide +kernel, by decide +kernel⟩
abbrev b4P : Stmt := top 31
theorem sc_nearby : FnScope ["bags", "places", "near", "v"] ["bags", "places"] (a0F b4P) := ⟨rfl, rfl, rfl, by decide +kernel, rfl, by decide +kernel, by decide +kernel⟩
inductive FlawR where
 | ok
 | part (k : Nat)
 | apart (j k : Nat)
def b8Y (J : Nat -> Prop) (T : Nat -> Nat -> Prop) (m : Nat) : FlawR -> Prop
 | .ok => (∀ i, i < m -> J i) /\ ∀ j k, j < k -> k < m -> T j k
 | .part k => k < m /\ ¬ J k /\ ∀ i, i < k -> J i
 | .apart j k => (∀ i, i < m -> J i) /\ j < k /\ k < m /\ ¬ T j k /\ (∀ j' k', j' < j -> j' < k' -> k' < m -> T j' k') /\ ∀ k', j < k' -> k' < k -> T j k'
theorem b8Z {J : Nat -> Prop} {T : Nat -> Nat -> Prop} {m : Nat} {r s : FlawR} (hr : b8Y J T m r) (hs : b8Y J T m s) : r = s := by
 cases r with
 | ok =>
  cases s with
  | ok => rfl
  | part k => exact absurd (hr.1 k hs.1) hs.2.1
  | apart j k => exact absurd (hr.2 j k hs.2.1 hs.2.2.1) hs.2.2.2.1
 | part k =>
  cases s with
  | ok => exact absurd (hs.1 k hr.1) hr.2.1
  | part k' =>
   rcases Nat.lt_trichotomy k k' with c | c | c
   ·exact absurd (hs.2.2 k c) hr.2.1
   ·rw [c]
   ·exact absurd (hr.2.2 k' c) hs.2.1
  | apart j k' => exact absurd (hs.1 k hr.1) hr.2.1
 | apart j k =>
  obtain ⟨a1, a2, a3, a4, a5, a6⟩ := hr
  cases s with
  | ok => exact absurd (hs.2 j k a2 a3) a4
  | part k' => exact absurd (a1 k' hs.1) hs.2.1
  | apart j' k' =>
   obtain ⟨b1, b2, b3, b4, b5, b6⟩ := hs
   rcases Nat.lt_trichotomy j j' with c | c | c
   ·exact absurd (b5 j k c a2 a3) a4
   ·subst c
    rcases Nat.lt_trichotomy k k' with d | d | d
    ·exact absurd (b6 k a2 d) a4
    ·rw [d]
    ·exact absurd (a6 k' b2 d) b4
   ·exact absurd (a5 j' k' c b2 b3) b4
def c9H (H : Hp) (v : V) : FlawR -> Prop
 | .ok => v = .non
 | .part k => ∃ p, v = .ref p /\ H p = some (.tup [.str "part", .int (k : Int)])
 | .apart j k => ∃ p, v = .ref p /\ H p = some (.tup [.str "apart", .int (j : Int), .int (k : Int)])
def Touch (ts : List ζζ) (p q : List Nat) : Prop := ∃ y ∈ q, ∃ x ∈ p, x = y \/ tieT ts x y = true
def c1N (ts : List ζζ) (ss : List (List Nat)) (i : Nat) : Prop := a4A ts (ss.getD i [])
def b2A (ts : List ζζ) (ss : List (List Nat)) (j k : Nat) : Prop := Touch ts (ss.getD j []) (ss.getD k [])
structure SetsOk (n : Nat) (ss : List (List Nat)) : Prop where
 up : ∀ p ∈ ss, p.Pairwise (· < ·)
 lt : ∀ p ∈ ss, ∀ x ∈ p, x < n
 len : ss.length <= 400
def c4Y (K : Φρ) : Sp := fun vs H Q _ => ∃ (a : Addr) (ls : List Nat) (n : Nat), vs = [.ref a] /\ SqL K H a (natV ls) /\ ls.Nodup /\ (∀ v ∈ ls, v < n) /\ n <= 10 /\ ∀ H', Same H H' -> Q (.int ((a0Q ls : Nat) : Int)) H'
def c1O (K : Φρ) : Sp := fun vs H Q _ => ∃ (b a : Addr) (n : Nat) (ts : List ζζ) (ms : List Nat) (ls : List Nat), vs = [.ref b, .ref a] /\ SqL K H b (natV ms) /\ BagsM n ms (a3N n ts) /\ SqL K H a (natV ls) /\ (∀ v ∈ ls, v < n) /\ ∀ (m : Nat), (∀ u, m.testBit u = true ↔ ∃ v ∈ ls, a3N n ts v u = true) -> Q (.int (m : Int)) H
def c7R (K : Φρ) : Sp := fun vs H Q _ => ∃ (g : V) (n : Nat) (ts : List ζζ) (a : Addr) (ss : List (List Nat)), vs = [g, .ref a] /\ GraphV K H g n ts /\ (∀ t ∈ ts, 0 <= t.1 /\ t.1 < t.2 /\ t.2 < (n : Int)) /\ n <= 10 /\ ts.length <= 100 /\ b8X H a ss /\ SetsOk n ss /\
 ∀ v r H', Same H H' -> c9H H' v r -> b8Y (c1N ts ss) (b2A ts ss) ss.length r -> Q v H'
theorem and_zero {a b : Nat} : a &&& b = 0 ↔ ¬ ∃ u, a.testBit u = true /\ b.testBit u = true := by
 constructor
 ·rintro h ⟨u, h1, h2⟩
  have : (a &&& b).testBit u = true := by rw [Nat.testBit_and, h1, h2]; rfl
  rw [h, Nat.zero_testBit] at this
  cases this
 ·intro h
  refine Nat.eq_of_testBit_eq fun u => ?_
  rw [Nat.zero_testBit, Nat.testBit_and]
  cases c : a.testBit u with
  | false => rfl
  | true =>
   cases d : b.testBit u with
   | false => rfl
   | true => exact absurd ⟨u, c, d⟩ h
section
variable {P : Program} {w : World} {K : Φρ} {mg : Str -> Option Value} {base : Heap}
abbrev DZ31 (K : PySem.W.Frag) (mg : Str -> Option Value) := Dn K mg "mask_of" b1Z ["places"]
set_option maxHeartbeats 4000000 in
theorem a6A (B : Bl mg) (Bs : mg "sum" = none) (dZ31 : DZ31 K mg) : FnOk P w K mg base CX0 1 dZ31.f dZ31.fd ["places"] (c4Y K) := by
 refine dZ31.F.ok b5Z (fun vs H Q E h => ?_) (fun cdv A outer s H vs Q E hr h => ?_)
 ·obtain ⟨a, ls, n, rfl, _⟩ := h
  rfl
 obtain ⟨a, ls, n, rfl, hA, nd, hn, n10, q⟩ := h
 have ll := a2K nd hn
 refine ⟨_, (a0D (a0O (a0I (b1B (K := K) rfl rfl) rfl Bs (by decide +kernel) (a0A (a3W ["v"] [none]  (by kernel_rfl) rfl (a0R (K := K) rfl (pv 0)) (fun _ _ _ _ _ => (a0H (i := 0) (show (["v"] : List Str).Nodup by decide +kernel) rfl (Or.inl rfl))) (fun _ _ _ _ _ => a1G) (fun _ _ _ _ _ => (a0K a1Z a0E (pv 0)))) a0C)))), ?_⟩
 refine ⟨_, rfl, a, rfl, ⟨_, hA⟩, ?_⟩
 refine a4L (fun x => match x with | .int z => some (.int ((2 ^ z.toNat : Nat) : Int)) | _ => none) hA (by rw [a0J]; omega) (fun x H1 N hx s1 hN => ?_) (fun H1 p H2 s1 n2 => ?_)
 ·obtain ⟨v, hv, rfl⟩ := List.mem_map.mp hx
  have hN' := hN H1 s1
  dsimp only at hN'
  rw [Int.toNat_natCast] at hN'
  have vn := hn v hv
  refine ⟨_, rfl, _, _, rfl, rfl, ⟨by omega, by omega, by decide⟩, ?_⟩
  dsimp only
  rw [shl1]
  exact hN'
 have e2 : (natV ls).filterMap (fun x => match x with | .int z => some (V.int ((2 ^ z.toNat : Nat) : Int)) | _ => none) = (ls.map fun (v : Nat) => ((2 ^ v : Nat) : Int)).map V.int := by
  unfold natV
  rw [List.filterMap_map, List.map_map]
  refine a3X fun m _ => ?_
  simp only [Function.comp_apply, Int.toNat_natCast]
 rw [e2] at n2
 obtain ⟨M, e, l, t⟩ := b1Y nd hn
 refine ⟨p, _, rfl, SqL.of n2.here, ?_⟩
 rw [e, c4V t]
 exact q H2 (s1.trans n2.same)
abbrev DZ33 (K : PySem.W.Frag) (mg : Str -> Option Value) := Dn K mg "nearby" b4P ["bags", "places"]
set_option maxHeartbeats 4000000 in
theorem b9A (B : Bl mg) (dZ33 : DZ33 K mg) : FnOk P w K mg base CX0 1 dZ33.f dZ33.fd ["bags", "places"] (c1O K) := by
 refine dZ33.F.ok sc_nearby (fun vs H Q E h => ?_) (fun cdv A outer s H vs Q E hr h => ?_)
 ·obtain ⟨b, a, n, ts, ms, ls, rfl, _⟩ := h
  rfl
 obtain ⟨b, a, n, ts, ms, ls, rfl, hb, BM, hA, hn, q⟩ := h
 refine ⟨_, (a0B (a0M (i := 2) sc_nearby.nd rfl (Or.inl rfl) a0E)
   (a0B (a1I PassesOwn.never rfl (a0R (K := K) rfl (pv 1)) (a0H (i := 3) sc_nearby.nd rfl (Or.inl rfl))
   (a0D (a0M (i := 2) sc_nearby.nd rfl (Or.inl rfl) (a0K a7L (pv 2) (a1D (a0P (K := K) rfl) (pv 0) (pv 3) (fun _ _ => rfl))))))
   (a0D (a0O (pv 2))))), ?_⟩
 refine ⟨_, rfl, a, rfl, ⟨_, hA⟩, ?_⟩
 refine a2E (xs := natV ls) (fun i σ H' => (∃ (m : Nat) (vv : Option V), σ = [some (.ref b), some (.ref a), some (.int (m : Int)), vv] /\ ∀ u, m.testBit u = true ↔ ∃ v ∈ ls.take i, a3N n ts v u = true) /\ H' = H) ⟨⟨0, none, rfl, fun u => by rw [Nat.zero_testBit]; simp⟩, rfl⟩ (fun i σ H' _ ⟨_, e⟩ => by rw [e]; exact hA) ?_ ?_
 ·rintro i x σ H1 hx ⟨⟨m, vv, rfl, hm⟩, rfl⟩
  rw [List.getElem?_map] at hx
  obtain ⟨v, hv, rfl⟩ := Option.map_eq_some_iff.mp hx
  obtain ⟨hil, hiv⟩ := List.getElem?_eq_some_iff.mp hv
  have vn := hn v (List.mem_of_getElem? hv)
  refine ⟨_, rfl, _, rfl, _, rfl, b, _, _, _, rfl, rfl, hb, a2T (by rw [BM.len]; exact vn), _, _, rfl, rfl, ?_⟩
  dsimp only
  rw [a4M]
  refine ⟨⟨_, _, rfl, fun u => ?_⟩, rfl⟩
  rw [Nat.testBit_or, Bool.or_eq_true, hm, BM.bit v vn, List.take_succ_eq_append_getElem hil, hiv]
  constructor
  ·rintro (⟨w, hw, t⟩ | t)
   ·exact ⟨w, List.mem_append_left _ hw, t⟩
   ·exact ⟨v, List.mem_append_right _ (List.mem_singleton.mpr rfl), t⟩
  ·rintro ⟨w, hw, t⟩
   rcases List.mem_append.mp hw with hw | hw
   ·exact .inl ⟨w, hw, t⟩
   ·rw [List.mem_singleton.mp hw] at t; exact .inr t
 ·rintro σ H1 ⟨⟨m, vv, rfl, hm⟩, rfl⟩
  rw [a0J, List.take_length] at hm
  exact ⟨_, rfl, q m hm⟩
abbrev DZ20 (K : PySem.W.Frag) (mg : Str -> Option Value) := Dn K mg "flaw" c2V ["graph", "sets"]
set_option maxHeartbeats 8000000 in
theorem c4Z (B : Bl mg) (Bs : mg "sum" = none) (dZ26 : DZ26 K mg) (dZ23 : DZ23 K mg) (dZ25 : DZ25 K mg) (dZ15 : DZ15 K mg) (dZ27 : DZ27 K mg) (dZ30 : DZ30 K mg) (dZ13 : DZ13 K mg) (dZ24 : DZ24 K mg) (dZ36 : DZ36 K mg) (dZ35 : DZ35 K mg) (dZ38 : DZ38 K mg) (dZ31 : DZ31 K mg) (dZ19 : DZ19 K mg) (dZ20 : DZ20 K mg) (dZ33 : DZ33 K mg) : FnOk P w K mg base CX0 8 dZ20.f dZ20.fd ["graph", "sets"] (c7R K) := by
 have gZ24 : FnOk P w K mg base CX0 7 _ _ _ _ := b1X B dZ26 dZ23 dZ15 dZ27 dZ30 dZ13 dZ38 dZ35 dZ36 dZ24
 have gZ25 : FnOk P w K mg base CX0 7 _ _ _ _ := (b7X B dZ26 dZ23 dZ25).mono (by decide)
 have gZ31 : FnOk P w K mg base CX0 7 _ _ _ _ := (a6A B Bs dZ31).mono (by decide)
 have gZ19 : FnOk P w K mg base CX0 7 _ _ _ _ := (a5A B dZ19).mono (by decide)
 have gZ33 : FnOk P w K mg base CX0 7 _ _ _ _ := (b9A B dZ33).mono (by decide)
 refine dZ20.F.ok sc_flaw (fun vs H Q E h => ?_) (fun cdv A outer s H vs Q E hr h => ?_)
 ·obtain ⟨g, n, ts, a, ss, rfl, _⟩ := h
  rfl
 obtain ⟨g, n, ts, a, ss, rfl, hG, okt, n10, l100, ⟨qs, hA, pq⟩, SO, q⟩ := h
 obtain ⟨pg, ta, rfl, hP, hT⟩ := id hG
 have lq := Paired.length pq
 have slen := SO.len
 have lqm : (qs.map V.ref).length = ss.length := by rw [List.length_map, lq]
 refine ⟨_, (a0B (a1I PassesOwn.never rfl (a3Y (K := K) rfl rfl B.enumerate (a0A (pv 1) a0C)) (a2R (K := K) (n := 2) rfl rfl (a0Z (a0H (i := 2) sc_flaw.nd rfl (Or.inl rfl)) (a0Z (a0H (i := 3) sc_flaw.nd rfl (Or.inl rfl)) a2P)))
   (a0D (a1Q (PW.pt (a4Q (a3D (a0T (K := K) rfl (a0G gZ25 hr rfl dZ25.m dZ25.F.kp dZ25.b .nil a0U (a0A (a1D (a2A (K := K) rfl) (pv 0) a0E (fun _ _ => rfl)) (a0A (pv 3) a0C))) (fun _ => rfl))) (a4W (a3D (a0T (K := K) rfl (a0G gZ24 hr rfl dZ24.m dZ24.F.kp dZ24.b .nil a0U (a0A (pv 0) (a0A (pv 3) a0C))) (fun _ => rfl))))))
   (a0D (a0O (a3K (a0A a8T (a0A (pv 2) a0C)))))
   a0V)))
   (a0B (a0M (i := 4) sc_flaw.nd rfl (Or.inl rfl) (a0G gZ19 hr rfl dZ19.m dZ19.F.kp dZ19.b .nil a0U (a0A (pv 0) a0C)))
   (a0B (a1W (i := 5) ["places"] [none] sc_flaw.nd rfl rfl (by kernel_rfl) rfl (a0R (K := K) rfl (pv 1)) (fun _ _ _ _ _ => (a0H (i := 0) (show (["places"] : List Str).Nodup by decide +kernel) rfl (Or.inl rfl))) (fun _ _ _ _ _ => a1G) (fun _ _ _ _ _ => (a0G gZ31 hr rfl dZ31.m dZ31.F.kp dZ31.b .nil a0U (a0A (pv 0) a0C))) (by rfl))
   (a0B (a1I PassesOwn.never rfl (a3Y (K := K) rfl rfl B.enumerate (a0A (pv 1) a0C)) (a2R (K := K) (n := 2) rfl rfl (a0Z (a0H (i := 6) sc_flaw.nd rfl (Or.inl rfl)) (a0Z (a0H (i := 3) sc_flaw.nd rfl (Or.inl rfl)) a2P)))
   (a0B (a0M (i := 7) sc_flaw.nd rfl (Or.inl rfl) (a0G gZ33 hr rfl dZ33.m dZ33.F.kp dZ33.b .nil a0U (a0A (pv 4) (a0A (pv 3) a0C))))
   (a0D (a1I PassesOwn.never rfl (a3H rfl B.range (a0A (a0K a2U (pv 6) a0E) (a0A (a0I (a0S (K := K) rfl) rfl B.len (by decide +kernel) (a0A (pv 5) a0C)) a0C))) (a0H (i := 2) sc_flaw.nd rfl (Or.inl rfl))
   (a0D (a1Q (a3D (a0T (K := K) rfl (a0K a3T (pv 7) (a1D (a0P (K := K) rfl) (pv 5) (pv 2) (fun _ _ => rfl))) (fun _ => rfl)))
   (a0D (a0O (a3K (a0A a8T (a0A (pv 6) (a0A (pv 2) a0C))))))
   a0V))))))
   (a0D (a0O a3S)))))), ?_⟩
 have at_ : ∀ {i : Nat} {x : V}, (qs.map V.ref)[i]? = some x -> ∃ qi p, x = .ref qi /\ qs[i]? = some qi /\ ss[i]? = some p /\ H qi = some (.lst (natV p)) /\ p ∈ ss := fun {i x} hx => by
  rw [List.getElem?_map] at hx
  obtain ⟨qi, hqi, rfl⟩ := Option.map_eq_some_iff.mp hx
  obtain ⟨p, hp, hqp⟩ := a0X pq hqi
  exact ⟨qi, p, rfl, hqi, hp, hqp, List.mem_of_getElem? hp⟩
 refine ⟨_, rfl, a, rfl, ⟨_, SqL.of hA⟩, ?_⟩
 refine a3L (xs := qs.map V.ref) (fun i σ H' => (∃ kk pl : Option V, σ = [some (.ref pg), some (.ref a), kk, pl, none, none, none, none]) /\ Same H H' /\ ∀ j, j < i -> c1N ts ss j) ⟨⟨none, none, rfl⟩, Same.refl _, fun j hj => absurd hj (Nat.not_lt_zero _)⟩ (fun i σ H' _ ⟨_, s, _⟩ => SqL.of (s _ _ hA)) ?_ ?_
 ·rintro i x σ H1 pe H2 hx ⟨⟨kk, pl, rfl⟩, s1, jn⟩ n2
  obtain ⟨qi, p, rfl, hqi, hp, hqp, pm⟩ := at_ hx
  have s2 := s1.trans n2.same
  have up := SO.up p pm
  have lt := SO.lt p pm
  have pl10 : p.length <= 10 := by
   have := a2K (up.imp fun h => Nat.ne_of_lt h) lt
   omega
  have hq2 := s2 _ _ hqp
  have hq2i : SqL K H2 qi ((p.map fun (x : Nat) => (x : Int)).map V.int) := by
   have := SqL.of (K := K) hq2
   rw [a0Y] at this
   exact this
  have setT : setF (n : Int) (p.map fun (x : Nat) => (x : Int)) = true := (c3T _ _).mpr ⟨fun v hv => by
   obtain ⟨u, hu, rfl⟩ := List.mem_map.mp hv
   have := lt u hu
   omega, List.pairwise_map.mpr (up.imp fun {a b} h => by omega)⟩
  refine ⟨pe, _, rfl, SqT.of n2.here, rfl, _, _, rfl, _, _, rfl, rfl, ?_⟩
  refine ⟨_, rfl, pg, _, _, _, rfl, rfl, s2.tupq hP, rfl, _, rfl, (n : Int), qi, _, rfl, hq2i, by rw [List.length_map]; omega, fun H3 s3 => ?_⟩
  rw [setT]
  refine ⟨_, rfl, iteF ?_⟩
  have s23 := s2.trans s3
  refine ⟨_, rfl, _, rfl, .ref pg, n, ts, qi, p, rfl, hG.same s23, okt, n10, l100, s23 _ _ hqp, up, lt, fun b H4 s4 hb => ?_⟩
  have s24 := s23.trans s4
  have eJ : c1N ts ss i ↔ a4A ts p := by
   unfold c1N
   rw [τα, hp]; rfl
  cases b with
  | true =>
   refine ⟨_, rfl, iteF ⟨⟨_, _, rfl⟩, s24, fun j hj => ?_⟩⟩
   by_cases c : j = i
   ·rw [c]; exact eJ.mpr (hb.mp rfl)
   ·exact jn j (by omega)
  | false =>
   refine ⟨_, rfl, iteT ⟨_, rfl, (by show 2 <= 1000; decide), fun p5 H5 n5 => ?_⟩⟩
   have il : i < ss.length := (List.getElem?_eq_some_iff.mp hp).1
   exact q _ (.part i) H5 (s24.trans n5.same) ⟨p5, rfl, n5.here⟩ ⟨il, fun z => Bool.false_ne_true (hb.mpr (eJ.mp z)), jn⟩
 rintro σ H1 ⟨⟨kk, pl, rfl⟩, s1, jn⟩
 rw [lqm] at jn
 refine ⟨_, rfl, .ref pg, n, ts, rfl, hG.same s1, okt, n10, fun pb ms H2 s2 f2 h2 BM => ?_⟩
 have s02 := s1.trans s2
 refine ⟨_, rfl, a, rfl, ⟨_, SqL.of (s02 _ _ hA)⟩, ?_⟩
 refine a5U (K := K) (a := a) (xs := qs.map V.ref) (fun i ys G => Same H2 G /\ ys = natV ((ss.take i).map a0Q)) ⟨Same.refl _, rfl⟩ (fun i ys G hi ⟨s, e⟩ => ⟨SqL.of ((s02.trans s) _ _ hA), ?_⟩) (fun i x ys G hi ⟨s, e⟩ => ?_) ?_
 ·rw [e, a0J, List.length_map, List.length_take]
  exact Nat.le_of_lt (a1R (by omega))
 ·obtain ⟨qi, p, rfl, hqi, hp, hqp, pm⟩ := at_ hi
  refine ⟨_, rfl, qi, p, n, rfl, SqL.of ((s02.trans s) _ _ hqp), (SO.up p pm).imp (fun h => Nat.ne_of_lt h), SO.lt p pm, n10, fun H3 s3 => ⟨s.trans s3, ?_⟩⟩
  obtain ⟨hil, hix⟩ := List.getElem?_eq_some_iff.mp hp
  rw [e, List.take_succ_eq_append_getElem hil, hix]
  unfold natV
  rw [List.map_append, List.map_append]
  rfl
 intro ys G0 ⟨s0, e0⟩ pm hpm
 rw [lqm, List.take_length] at e0
 subst e0
 have nM := New.mk0 (H := G0) (p := pm) (o := .lst (natV (ss.map a0Q))) hpm
 generalize upd G0 pm (.lst (natV (ss.map a0Q))) = H3 at nM ⊢
 have s23 : Same H2 H3 := s0.trans nM.same
 have s03 := s02.trans s23
 have lm : (natV (ss.map a0Q)).length = ss.length := by rw [a0J, List.length_map]
 refine ⟨_, rfl, a, rfl, ⟨_, SqL.of (s03 _ _ hA)⟩, ?_⟩
 refine a3L (xs := qs.map V.ref) (fun i σ H' => (∃ kk pl jj nn : Option V, σ = [some (.ref pg), some (.ref a), kk, pl, some (.ref pb), some (.ref pm), jj, nn]) /\ Same H3 H' /\ ∀ j k, j < i -> j < k -> k < ss.length -> b2A ts ss j k) ⟨⟨_, _, none, none, rfl⟩, Same.refl _, fun j k hj => absurd hj (Nat.not_lt_zero _)⟩ (fun i σ H' _ ⟨_, s, _⟩ => SqL.of ((s03.trans s) _ _ hA)) ?_ ?_
 ·rintro i x σ H4 pe H5 hx ⟨⟨kk, pl, jj, nn, rfl⟩, s4, tn⟩ n5
  obtain ⟨qi, p, rfl, hqi, hp, hqp, pm'⟩ := at_ hx
  have s35 := s4.trans n5.same
  have s05 := s03.trans s35
  refine ⟨pe, _, rfl, SqT.of n5.here, rfl, _, _, rfl, _, _, rfl, rfl, ?_⟩
  refine ⟨_, rfl, _, rfl, pb, qi, n, ts, ms, p, rfl, SqL.of ((s23.trans s35) _ _ h2), BM, SqL.of (s05 _ _ hqp), SO.lt p pm', fun nr hnr => ?_⟩
  have il : i < ss.length := (List.getElem?_eq_some_iff.mp hp).1
  have hm5 : H5 pm = some (.lst (natV (ss.map a0Q))) := s35 _ _ nM.here
  refine ⟨_, rfl, _, _, rfl, rfl, _, rfl, pm, _, rfl, .inl (SqL.of hm5), _, _, rfl, ⟨by omega, by omega, by rw [lm]; omega, by rw [lm]; omega⟩, ?_⟩
  obtain ⟨N, hN⟩ : ∃ N, N = ss.length - (i + 1) := ⟨_, rfl⟩
  rw [show ((((natV (ss.map a0Q)).length : Nat) : Int) - ((i : Int) + 1)).toNat = N by rw [lm]; omega]
  refine a2B (lo := (i : Int) + 1) (n := N) (fun l σ H' => (∃ kk : Option V, σ = [some (.ref pg), some (.ref a), kk, some (.ref qi), some (.ref pb), some (.ref pm), some (.int (i : Int)), some (.int (nr : Int))]) /\ H' = H5 /\ ∀ k, i < k -> k < i + 1 + l -> b2A ts ss i k) ⟨⟨_, rfl⟩, rfl, fun k h1 h2 => by omega⟩ ?_ ?_
  ·rintro l σ H6 hl ⟨⟨kk, rfl⟩, rfl, tk⟩
   have ek : (i : Int) + 1 + (l : Int) = ((i + 1 + l : Nat) : Int) := by omega
   rw [ek]
   have kl : i + 1 + l < ss.length := by omega
   obtain ⟨pk, hpk⟩ : ∃ pk, ss[i + 1 + l]? = some pk := ⟨ss[i + 1 + l], List.getElem?_eq_getElem kl⟩
   have atk : atI (natV (ss.map a0Q)) ((i + 1 + l : Nat) : Int) = some (.int ((a0Q pk : Nat) : Int)) := a2Q (by
    unfold natV
    rw [List.getElem?_map, List.getElem?_map, hpk]; rfl)
   refine ⟨_, rfl, _, rfl, _, rfl, pm, _, _, _, rfl, rfl, SqL.of hm5, atk, _, _, rfl, rfl, _, rfl, ?_⟩
   rw [a3M]
   have eT : (nr &&& a0Q pk = 0) ↔ ¬ b2A ts ss i (i + 1 + l) := by
    rw [and_zero]
    refine not_congr ?_
    unfold b2A Touch
    rw [τα, τα, hp, hpk]
    show _ ↔ ∃ y ∈ pk, ∃ x ∈ p, x = y \/ tieT ts x y = true
    have pkl := SO.lt pk (List.mem_of_getElem? hpk)
    have ppl := SO.lt p pm'
    have tr : ∀ {x y : Nat}, x ∈ p -> y ∈ pk -> (a3N n ts x y = true ↔ x = y \/ tieT ts x y = true) := fun {x y} hx hy => by
     have := ppl x hx
     have := pkl y hy
     unfold a3N tieT
     rw [decide_eq_true (show x < n /\ y < n from ⟨by omega, by omega⟩), Bool.true_and, Bool.or_eq_true, Bool.or_eq_true, Bool.or_eq_true, decide_eq_true_iff, or_assoc]
     exact or_congr_left eq_comm
    constructor
    ·rintro ⟨u, h1, h2⟩
     rw [a1S, decide_eq_true_iff] at h2
     obtain ⟨x, hx, t⟩ := (hnr u).mp h1
     exact ⟨u, h2, x, hx, (tr hx h2).mp t⟩
    ·rintro ⟨y, hy, x, hx, t⟩
     exact ⟨y, (hnr y).mpr ⟨x, hx, (tr hx hy).mpr t⟩, by rw [a1S]; exact decide_eq_true hy⟩
   by_cases c : nr &&& a0Q pk = 0
   ·rw [c]
    refine iteT ⟨_, rfl, _, rfl, (by show 3 <= 1000; decide), fun p7 H7 n7 => ?_⟩
    exact q _ (.apart i (i + 1 + l)) H7 ((s05).trans n7.same) ⟨p7, rfl, n7.here⟩ ⟨jn, by omega, kl, eT.mp c, tn, fun k' h1 h2 => tk k' h1 h2⟩
   ·rw [show (((nr &&& a0Q pk : Nat) : Int) != 0) = true by simpa using c]
    refine iteF ⟨⟨_, rfl⟩, rfl, fun k h1 h2 => ?_⟩
    by_cases d : k = i + 1 + l
    ·rw [d]
     exact Classical.byContradiction fun z => c (eT.mpr z)
    ·exact tk k h1 (by omega)
  ·rintro σ H6 ⟨⟨kk, rfl⟩, rfl, tk⟩
   refine ⟨⟨_, _, _, _, rfl⟩, s35, fun j k hj hk hk2 => ?_⟩
   by_cases d : j = i
   ·subst d
    exact tk k hk (by omega)
   ·exact tn j k (by omega) hk hk2
 ·rintro σ H4 ⟨⟨kk, pl, jj, nn, rfl⟩, s4, tn⟩
  rw [lqm] at tn
  exact q _ .ok H4 (s03.trans s4) rfl ⟨jn, fun j k hj hk => tn j k (by omega) hj hk⟩
end
end K
namespace K
open PySem L2 Lw Bg
abbrev St' := Nat -> Prop
inductive Rc (ts : List ζζ) (T : St') (x : Nat) : Nat -> Prop
 | refl (h : T x) : Rc ts T x x
 | step {y z : Nat} (p : Rc ts T x y) (t : tieT ts y z = true) (h : T z) : Rc ts T x z
section
variable {ts : List ζζ}
theorem Rc.snd {T : St'} {x y : Nat} (h : Rc ts T x y) : T y := by
 cases h with
 | refl h => exact h
 | step _ _ h => exact h
theorem Rc.trans {T : St'} {x y z : Nat} (a : Rc ts T x y) (b : Rc ts T y z) : Rc ts T x z := by
 induction b with
 | refl _ => exact a
 | step _ t h ih => exact .step ih t h
theorem Rc.symm {T : St'} {x y : Nat} (a : Rc ts T x y) : Rc ts T y x := by
 induction a with
 | refl h => exact .refl h
 | step p t h ih => exact (Rc.step (.refl h) (a1J t) p.snd).trans ih
theorem Rc.mono {T T' : St'} {x y : Nat} (a : Rc ts T x y) (s : ∀ u, T u -> T' u) : Rc ts T' x y := by
 induction a with
 | refl h => exact .refl (s _ h)
 | step _ t h ih => exact .step ih t (s _ h)
theorem Rc.inn {T : St'} {x y : Nat} (a : Rc ts T x y) : Rc ts (fun u => Rc ts T x u) x y := by
 induction a with
 | refl h => exact .refl (.refl h)
 | step p t h ih => exact .step ih t (.step p t h)
theorem Rc.leaves {T C : St'} {x y : Nat} (a : Rc ts T x y) : C x -> ¬ C y -> ∃ u v, C u /\ T u /\ ¬ C v /\ T v /\ tieT ts u v = true := by
 induction a with
 | refl h => exact fun c n => absurd c n
 | @step y z p t h ih =>
  intro c n
  by_cases d : C y
  ·exact ⟨y, z, d, p.snd, n, h, t⟩
  ·exact ih c d
def Comp (ts : List ζζ) (T C : St') : Prop := ∃ x, T x /\ ∀ y, C y ↔ Rc ts T x y
theorem Comp.sub {T C : St'} (h : Comp ts T C) {y : Nat} (hy : C y) : T y := by
 obtain ⟨x, _, e⟩ := h
 exact ((e y).mp hy).snd
theorem Comp.con {T C : St'} (h : Comp ts T C) {y z : Nat} (hy : C y) (hz : C z) : Rc ts C y z := by
 obtain ⟨x, _, e⟩ := h
 have a := ((e y).mp hy).inn.mono (T' := C) fun u hu => (e u).mpr hu
 have b := ((e z).mp hz).inn.mono (T' := C) fun u hu => (e u).mpr hu
 exact a.symm.trans b
theorem Comp.all {T C : St'} (h : Comp ts T C) {y z : Nat} (hy : C y) (r : Rc ts T y z) : C z := by
 obtain ⟨x, _, e⟩ := h
 exact (e z).mpr (((e y).mp hy).trans r)
theorem Comp.tie {T C : St'} (h : Comp ts T C) {y z : Nat} (hy : C y) (t : tieT ts y z = true) (hz : T z) : C z := h.all hy (.step (.refl (h.sub hy)) t hz)
theorem Comp.ne {T C : St'} (h : Comp ts T C) : ∃ x, C x := by
 obtain ⟨x, hx, e⟩ := h
 exact ⟨x, (e x).mpr (.refl hx)⟩
theorem Comp.at {T : St'} {x : Nat} (h : T x) : Comp ts T fun y => Rc ts T x y := ⟨x, h, fun _ => Iff.rfl⟩
theorem Comp.of {T C : St'} {x : Nat} (hx : C x) (sub : ∀ y, C y -> T y) (con : ∀ y, C y -> Rc ts C x y) (cl : ∀ y z, C y -> tieT ts y z = true -> T z -> C z) : Comp ts T C := by
 refine ⟨x, sub x hx, fun y => ⟨fun hy => (con y hy).mono sub, fun r => ?_⟩⟩
 induction r with
 | refl _ => exact hx
 | step _ t h ih => exact cl _ _ ih t h
inductive Dec (ts : List ζζ) (A : St' -> Prop) : St' -> Prop
 | mk {C : St'} (Y : St') (ok : A Y) (near : ∀ a b, C a -> tieT ts a b = true -> ¬ C b -> Y b) (h : ∀ C', Comp ts (fun x => C x /\ ¬ Y x) C' -> Dec ts A C') : Dec ts A C
def Down (A : St' -> Prop) : Prop := ∀ Y Z : St', (∀ x, Z x -> Y x) -> A Y -> A Z
def Nb (ts : List ζζ) (C : St') : St' := fun b => ¬ C b /\ ∃ a, C a /\ tieT ts a b = true
theorem c5A {V : St'} {A G : St' -> Prop} (DA : Down A) {C : St'} (h : Dec ts A C) :
  (∀ x, C x -> V x) -> (∀ a b, V a -> tieT ts a b = true -> V b) ->
  (∀ Y : St', (∀ x, Y x -> C x \/ Nb ts C x) -> (∀ x, Nb ts C x -> Y x) -> A Y -> ∀ D, Comp ts (fun x => V x /\ ¬ Y x) D -> (∀ x, D x -> ¬ C x) -> Dec ts A D) ->
  Dec ts G C \/ ∃ Z, A Z /\ ¬ G Z /\ ∀ D, Comp ts (fun x => V x /\ ¬ Z x) D -> Dec ts A D := by
 induction h with
 | @mk C Y ok near h ih =>
  intro CV clV out
  obtain ⟨Y', eY⟩ : ∃ Y' : St', Y' = fun x => Y x /\ (C x \/ Nb ts C x) := ⟨_, rfl⟩
  have ok' : A Y' := DA Y Y' (fun x hx => by rw [eY] at hx; exact hx.1) ok
  have nb' : ∀ x, Nb ts C x -> Y' x := fun x hx => by
   rw [eY]
   obtain ⟨nx, a, ca, t⟩ := id hx
   exact ⟨near a x ca t nx, .inr hx⟩
  have sub' : ∀ x, Y' x -> C x \/ Nb ts C x := fun x hx => by rw [eY] at hx; exact hx.2
  have same : ∀ x, C x -> (¬ Y' x ↔ ¬ Y x) := fun x cx => by
   rw [eY]
   exact not_congr ⟨fun z => z.1, fun z => ⟨z, .inl cx⟩⟩
  have eqC : (fun x => C x /\ ¬ Y' x) = fun x => C x /\ ¬ Y x := funext fun x => propext (and_congr_right fun cx => same x cx)
  have near' : ∀ a b, C a -> tieT ts a b = true -> ¬ C b -> Y' b := fun a b ca t nb => nb' b ⟨nb, a, ca, t⟩
  rw [<- eqC] at h ih
  have part : ∀ D, Comp ts (fun x => V x /\ ¬ Y' x) D -> (∃ x, D x /\ C x) -> Comp ts (fun x => C x /\ ¬ Y' x) D := fun D hD ⟨x, dx, cx⟩ => by
   have dc : ∀ y, Rc ts D x y -> C y := fun y r => by
    induction r with
    | refl _ => exact cx
    | @step u v p t hv ih2 =>
     refine Classical.byContradiction fun nc => ?_
     exact (hD.sub hv).2 (near' u v ih2 t nc)
   refine Comp.of dx (fun y dy => ⟨dc y (hD.con dx dy), (hD.sub dy).2⟩) (fun y dy => hD.con dx dy) fun y z dy t ⟨cz, nz⟩ => hD.tie dy t ⟨CV z cz, nz⟩
  by_cases g : G Y'
  ·by_cases all : ∀ C', Comp ts (fun x => C x /\ ¬ Y' x) C' -> Dec ts G C'
   ·exact .inl (.mk Y' g near' all)
   ·obtain ⟨C', hC'⟩ := Classical.not_forall.mp all
    obtain ⟨hC, nC⟩ := Classical.not_imp.mp hC'
    have sb : ∀ x, C' x -> C x := fun x hx => (hC.sub hx).1
    refine (ih C' hC (fun x hx => CV x (sb x hx)) clV fun Z sZ nZ aZ D hD dis => ?_).elim (fun z => absurd z nC) .inr
    have nbY : ∀ x, Nb ts C' x -> Y' x := fun x ⟨nx, a, ca, t⟩ => by
     refine Classical.byContradiction fun ny => ?_
     by_cases cx : C x
     ·exact nx (hC.tie ca t ⟨cx, ny⟩)
     ·exact ny (near' a x (sb a ca) t cx)
    have nearD : ∀ a b, D a -> tieT ts a b = true -> ¬ D b -> Y' b := fun a b da t nb => by
     have Zb : Z b := Classical.byContradiction fun nz => nb (hD.tie da t ⟨clV a b (hD.sub da).1 t, nz⟩)
     rcases sZ b Zb with cb | cb
     ·-- b in C': then a is of its edge, so in Z
      exact absurd (nZ a ⟨dis a da, b, cb, a1J t⟩) (hD.sub da).2
     ·exact nbY b cb
    refine .mk Y' ok' nearD fun D' hD' => ?_
    have full : Comp ts (fun x => V x /\ ¬ Y' x) D' := by
     obtain ⟨x, dx⟩ := hD'.ne
     refine Comp.of dx (fun y dy => ⟨(hD.sub (hD'.sub dy).1).1, (hD'.sub dy).2⟩) (fun y dy => hD'.con dx dy) fun y z dy t ⟨vz, nz⟩ => ?_
     refine hD'.tie dy t ⟨?_, nz⟩
     exact Classical.byContradiction fun nd => nz (nearD y z (hD'.sub dy).1 t nd)
    by_cases m : ∃ x, D' x /\ C x
    ·exact h D' (part D' full m)
    ·exact out Y' sub' nb' ok' D' full fun x dx cx => m ⟨x, dx, cx⟩
  ·refine .inr ⟨Y', ok', g, fun D hD => ?_⟩
   by_cases m : ∃ x, D x /\ C x
   ·exact h D (part D hD m)
   ·exact out Y' sub' nb' ok' D hD fun x dx cx => m ⟨x, dx, cx⟩
theorem c1P {V : St'} {A G : St' -> Prop} (DA : Down A) (h : Dec ts A V) (clV : ∀ a b, V a -> tieT ts a b = true -> V b) : Dec ts G V \/ ∃ Z, A Z /\ ¬ G Z /\ ∀ D, Comp ts (fun x => V x /\ ¬ Z x) D -> Dec ts A D := by
 refine c5A DA h (fun x hx => hx) clV fun Y _ _ _ D hD dis => ?_
 obtain ⟨x, dx⟩ := hD.ne
 exact absurd (hD.sub dx).1 (dis x dx)
end
open Classical in
noncomputable def a1A (n : Nat) (Y : St') : Nat := (List.range n).countP fun x => decide (Y x)
open Classical in
theorem a9X {n : Nat} {Y Z : St'} (h : ∀ x, x < n -> Y x -> Z x) : a1A n Y <= a1A n Z := by
 unfold a1A
 refine List.countP_mono_left fun x hx hy => ?_
 exact decide_eq_true (h x (List.mem_range.mp hx) (of_decide_eq_true hy))
open Classical in
theorem b4Q {n x : Nat} {Y : St'} (xn : x < n) (h : Y x) : 0 < a1A n Y := List.countP_pos_iff.mpr ⟨x, List.mem_range.mpr xn, decide_eq_true h⟩
open Classical in
theorem b9B {n x : Nat} {Y Z : St'} (s : ∀ x, Y x -> Z x) (xn : x < n) (h : ¬ Y x) (g : Z x) : a1A n Y < a1A n Z :=
 Srt.countP_lt (fun z hz => decide_eq_true (s z (of_decide_eq_true hz))) (List.mem_range.mpr xn) (decide_eq_false h) (decide_eq_true g)
open Classical in
theorem b9C {n : Nat} {Y : St'} (h : ∀ x, ¬ Y x) : a1A n Y = 0 := by
 unfold a1A
 rw [List.countP_eq_zero]
 exact fun a _ z => h a (of_decide_eq_true z)
open Classical in
theorem a4B {n : Nat} {Y : St'} {f : Nat -> Bool} (h : ∀ x, Y x ↔ f x = true) : a1A n Y = (List.range n).countP f := by
 unfold a1A
 exact List.countP_congr fun x _ => by rw [decide_eq_true_iff]; exact h x
open Classical in
theorem c1Q {n : Nat} {a b c d : St'} (h : ∀ x, x < n -> ((a x -> c x \/ d x) /\ (b x -> c x \/ d x) /\ (a x -> b x -> c x /\ d x))) : a1A n a + a1A n b <= a1A n c + a1A n d := by
 unfold a1A
 have go : ∀ l : List Nat, (∀ x ∈ l, x < n) -> (l.countP fun x => decide (a x)) + (l.countP fun x => decide (b x)) <= (l.countP fun x => decide (c x)) + (l.countP fun x => decide (d x)) := fun l => by
  induction l with
  | nil => intro _; simp
  | cons x r ih =>
   intro hl
   have i := ih fun y hy => hl y (List.mem_cons_of_mem _ hy)
   obtain ⟨h1, h2, h3⟩ := h x (hl x List.mem_cons_self)
   rw [List.countP_cons, List.countP_cons, List.countP_cons, List.countP_cons]
   by_cases ca : a x <;> by_cases cb : b x <;> by_cases cc : c x <;> by_cases cd : d x <;> simp [ca, cb, cc, cd] at h1 h2 h3 ⊢ <;> omega
 exact go _ fun x hx => List.mem_range.mp hx
theorem c2W {P : St' -> Prop} (f : St' -> Nat) : ∀ (k : Nat) (X : St'), P X -> f X <= k -> ∃ X, P X /\ (∀ Y, P Y -> f X <= f Y) /\ f X <= k
 | 0, X, h, l => ⟨X, h, fun Y _ => by omega, l⟩
 | k + 1, X, h, l => by
  by_cases c : ∃ Y, P Y /\ f Y <= k
  ·obtain ⟨Y, hY, lY⟩ := c
   obtain ⟨Z, a, b, d⟩ := c2W f k Y hY lY
   exact ⟨Z, a, b, by omega⟩
  ·exact ⟨X, h, fun Y hY => Classical.byContradiction fun z => c ⟨Y, hY, by omega⟩, l⟩
abbrev bitP (b : Nat) : St' := fun x => b.testBit x = true
def JnM (ts : List ζζ) (b : Nat) : Prop := ∃ x, bitP b x /\ ∀ y, bitP b y -> Rc ts (bitP b) x y
def TcM (ts : List ζζ) (b c : Nat) : Prop := ∃ x y, bitP b x /\ bitP c y /\ (x = y \/ tieT ts x y = true)
def CvM (B : List Nat) (Y : St') : Prop := ∀ b ∈ B, ∃ x, bitP b x /\ Y x
def AB (n k : Nat) (B : List Nat) (Y : St') : Prop := k < a1A n Y -> ¬ CvM B Y
structure FamM (n : Nat) (ts : List ζζ) (B : List Nat) : Prop where
 lt : ∀ b ∈ B, b < 2 ^ n
 jn : ∀ b ∈ B, JnM ts b
 tc : ∀ b ∈ B, ∀ c ∈ B, TcM ts b c
def ExtM (n : Nat) (ts : List ζζ) (k : Nat) (B : List Nat) : Prop := ∃ B', (∀ b ∈ B, b ∈ B') /\ FamM n ts B' /\ ∀ Y, CvM B' Y -> k < a1A n Y
theorem b9D (n k : Nat) (B : List Nat) : Down (AB n k B) := fun Y Z s h l c => by
 refine h (Nat.lt_of_lt_of_le l (a9X fun x _ hx => s x hx)) fun b hb => ?_
 obtain ⟨x, h1, h2⟩ := c b hb
 exact ⟨x, h1, s x h2⟩
theorem JnM.con {ts : List ζζ} {b : Nat} (h : JnM ts b) {x y : Nat} (hx : bitP b x) (hy : bitP b y) : Rc ts (bitP b) x y := by
 obtain ⟨z, _, e⟩ := h
 exact (e x hx).symm.trans (e y hy)
theorem JnM.tch {ts : List ζζ} {b : Nat} (h : JnM ts b) : TcM ts b b := by
 obtain ⟨z, hz, _⟩ := h
 exact ⟨z, z, hz, hz, .inl rfl⟩
theorem TcM.symm {ts : List ζζ} {b c : Nat} (h : TcM ts b c) : TcM ts c b := by
 obtain ⟨x, y, hx, hy, e⟩ := h
 exact ⟨y, x, hy, hx, e.imp Eq.symm fun t => a1J t⟩
section
variable {ts : List ζζ} {n k : Nat} {B : List Nat}
theorem b9E {X P Z : St'} {pm : Nat} (jn : ∀ b ∈ B, JnM ts b) (lt : ∀ b ∈ B, ∀ x, bitP b x -> x < n) (clV : ∀ a b, tieT ts a b = true -> b < n) (hX : CvM B X) (min : ∀ Y, CvM B Y -> a1A n X <= a1A n Y) (Xk : a1A n X <= k)
  (hP : Comp ts (fun x => x < n /\ ¬ X x) P) (hm : ∀ x, bitP pm x ↔ P x) (hZ : CvM B Z) (ZP : ∀ x, P x -> ¬ Z x) {D : St'} (h : Dec ts (AB n k (pm :: B)) D) :
  (∀ x, D x -> ¬ Z x) -> ∀ P', Comp ts (fun x => P x /\ D x) P' -> Dec ts (AB n k B) P' := by
 induction h with
 | @mk D Y ok near h ih =>
  intro DZ P' hP'
  have XP : ∀ {x}, P x -> ¬ X x := fun {x} px => (hP.sub px).2
  have edge : ∀ {a b}, P a -> tieT ts a b = true -> ¬ P b -> X b := fun {a b} pa t nb => Classical.byContradiction fun nx => nb (hP.tie pa t ⟨clV a b t, nx⟩)
  obtain ⟨W, eW⟩ : ∃ W : St', W = fun x => (Y x /\ P x) \/ (X x /\ (D x \/ Y x)) := ⟨_, rfl⟩
  have Wd : ∀ {x}, W x ↔ (Y x /\ P x) \/ (X x /\ (D x \/ Y x)) := fun {x} => by rw [eW]
  refine .mk W (fun kW cW => ?_) (fun a b pa t nb => ?_) fun C' hC' => ?_
  ·-- the bag is well
   obtain ⟨S, eS⟩ : ∃ S : St', S = fun x => (X x /\ ¬ (D x /\ ¬ Y x)) \/ (Y x /\ ¬ X x /\ ¬ P x) := ⟨_, rfl⟩
   have Sd : ∀ {x}, S x ↔ (X x /\ ¬ (D x /\ ¬ Y x)) \/ (Y x /\ ¬ X x /\ ¬ P x) := fun {x} => by rw [eS]
   have covS : CvM B S := fun b hb => by
    refine Classical.byContradiction fun none => ?_
    have no : ∀ {x}, bitP b x -> ¬ S x := fun {x} hx sx => none ⟨x, hx, sx⟩
    obtain ⟨x, bx, xx⟩ := hX b hb
    obtain ⟨z, bz, zz⟩ := hZ b hb
    have XD : ∀ {u}, bitP b u -> X u -> D u /\ ¬ Y u := fun {u} bu xu => Classical.byContradiction fun c => no bu (Sd.mpr (.inl ⟨xu, c⟩))
    have YP : ∀ {u}, bitP b u -> Y u -> P u := fun {u} bu yu => by
     refine Classical.byContradiction fun np => no bu (Sd.mpr ?_)
     by_cases xu : X u
     ·exact .inl ⟨xu, fun c => c.2 yu⟩
     ·exact .inr ⟨yu, xu, np⟩
    obtain ⟨u, v, cu, bu, cv, bv, t⟩ := ((jn b hb).con bx bz).leaves (C := fun u => (D u /\ ¬ Y u) \/ P u) (.inl (XD bx xx)) fun c => c.elim (fun c => DZ z c.1 zz) fun c => ZP z c zz
    have nP : ¬ P v := fun c => cv (.inr c)
    have nD : ¬ (D v /\ ¬ Y v) := fun c => cv (.inl c)
    rcases cu with ⟨du, _⟩ | pu
    ·refine nP (YP bv ?_)
     by_cases dv : D v
     ·exact Classical.byContradiction fun ny => nD ⟨dv, ny⟩
     ·exact near u v du t dv
    ·exact nD (XD bv (edge pu t nP))
   have l1 := min S covS
   have l2 : a1A n W + a1A n S <= a1A n X + a1A n Y := c1Q fun x _ => by
    rw [Wd, Sd]
    refine ⟨?_, ?_, ?_⟩
    ·rintro (⟨y, _⟩ | ⟨x, _⟩)
     ·exact .inr y
     ·exact .inl x
    ·rintro (⟨x, _⟩ | ⟨y, _⟩)
     ·exact .inl x
     ·exact .inr y
    ·rintro (⟨y, p⟩ | ⟨x1, d⟩)
     ·rintro (⟨x2, _⟩ | ⟨_, _, np⟩)
      ·exact ⟨x2, y⟩
      ·exact absurd p np
     ·rintro (⟨_, nd⟩ | ⟨y, nx, _⟩)
      ·refine ⟨x1, Classical.byContradiction fun ny => ?_⟩
       exact nd ⟨d.resolve_right ny, ny⟩
      ·exact absurd x1 nx
   have kY : k < a1A n Y := by omega
   obtain ⟨p, yp, pp⟩ : ∃ p, Y p /\ P p := Classical.byContradiction fun c => by
    have := a9X (n := n) (Y := W) (Z := X) fun x _ wx => by
     rcases Wd.mp wx with ⟨y, p⟩ | ⟨x, _⟩
     ·exact absurd ⟨_, y, p⟩ c
     ·exact x
    omega
   refine ok kY fun b hb => ?_
   rcases List.mem_cons.mp hb with e | hb
   ·rw [e]; exact ⟨p, (hm p).mpr pp, yp⟩
   ·refine Classical.byContradiction fun none => ?_
    have no : ∀ {x}, bitP b x -> ¬ Y x := fun {x} hx sx => none ⟨x, hx, sx⟩
    obtain ⟨x, bx, wx⟩ := cW b hb
    have dx : D x := by
     rcases Wd.mp wx with ⟨y, _⟩ | ⟨_, d⟩
     ·exact absurd y (no bx)
     ·exact d.resolve_right (no bx)
    obtain ⟨z, bz, zz⟩ := hZ b hb
    obtain ⟨u, v, cu, bu, cv, bv, t⟩ := ((jn b hb).con bx bz).leaves (C := D) dx fun c => DZ z c zz
    exact no bv (near u v cu t cv)
  ·obtain ⟨p1, d1⟩ := hP'.sub pa
   refine Wd.mpr ?_
   by_cases pb : P b
   ·refine .inl ⟨?_, pb⟩
    refine Classical.byContradiction fun ny => nb (hP'.tie pa t ⟨pb, Classical.byContradiction fun nd => ny (near a b d1 t nd)⟩)
   ·refine .inr ⟨edge p1 t pb, ?_⟩
    by_cases db : D b
    ·exact .inl db
    ·exact .inr (near a b d1 t db)
  ·obtain ⟨x, cx⟩ := hC'.ne
   have dn : ∀ {y}, C' y -> P y /\ D y /\ ¬ Y y := fun {y} hy => by
    obtain ⟨h1, h2⟩ := hC'.sub hy
    obtain ⟨p, d⟩ := hP'.sub h1
    exact ⟨p, d, fun yy => h2 (Wd.mpr (.inl ⟨yy, p⟩))⟩
   have D'c : Comp ts (fun x => D x /\ ¬ Y x) fun y => Rc ts (fun x => D x /\ ¬ Y x) x y := Comp.at (dn cx).2
   refine ih _ D'c (fun y hy => DZ y (D'c.sub hy).1) C' (Comp.of cx (fun y hy => ⟨(dn hy).1, (hC'.con cx hy).mono fun u hu => (dn hu).2⟩) (fun y hy => hC'.con cx hy) fun y z hy t ⟨pz, dz⟩ => ?_)
   have dz' := dz.snd
   refine hC'.tie hy t ⟨hP'.tie (hC'.sub hy).1 t ⟨pz, dz'.1⟩, fun wz => ?_⟩
   rcases Wd.mp wz with ⟨y, _⟩ | ⟨xz, _⟩
   ·exact dz'.2 y
   ·exact XP pz xz
open Classical in
theorem dual (n10 : 0 < 2 ^ n) (clV : ∀ a b, tieT ts a b = true -> b < n) : ∀ (m : Nat) (B : List Nat), ((List.range (2 ^ n)).countP fun x => decide (x ∉ B)) < m -> FamM n ts B -> ¬ ExtM n ts k B -> Dec ts (AB n k B) fun x => x < n
 | 0, B, hm, _, _ => absurd hm (Nat.not_lt_zero _)
 | m + 1, B, hm, F, nE => by
  have lt : ∀ b ∈ B, ∀ x, bitP b x -> x < n := fun b hb x hx => by
   refine Classical.byContradiction fun c => ?_
   have := F.lt b hb
   have h2 : b.testBit x = false := Nat.testBit_lt_two_pow (Nat.lt_of_lt_of_le this (Nat.pow_le_pow_right (by decide) (by omega)))
   rw [show b.testBit x = true from hx] at h2
   cases h2
  obtain ⟨Y0, c0, l0⟩ : ∃ Y, CvM B Y /\ a1A n Y <= k := Classical.byContradiction fun c => nE ⟨B, fun b hb => hb, F, fun Y hY => Nat.lt_of_not_le fun z => c ⟨Y, hY, z⟩⟩
  obtain ⟨X, hX, min, Xk⟩ := c2W (P := CvM B) (a1A n) k Y0 c0 l0
  refine Classical.byContradiction fun notV => ?_
  refine notV (.mk X (fun z => absurd z (by omega)) (fun a b _ t nb => absurd (clV a b t) nb) fun P hP => ?_)
  obtain ⟨p, pp⟩ := hP.ne
  obtain ⟨pm, hpm, pml⟩ : ∃ pm : Nat, (∀ x, bitP pm x ↔ P x) /\ pm < 2 ^ n := by
   refine ⟨a5Z (fun x => decide (P x)) n, fun x => ?_, ?_⟩
   ·show (a5Z (fun x => decide (P x)) n).testBit x = true ↔ _
    rw [a2D, Bool.and_eq_true, decide_eq_true_iff, decide_eq_true_iff]
    exact ⟨fun h => h.2, fun h => ⟨(hP.sub h).1, h⟩⟩
   ·refine Nat.lt_pow_two_of_testBit _ fun i hi => ?_
    rw [a2D, decide_eq_false (by omega)]; rfl
  by_cases c : ∀ b ∈ B, TcM ts pm b
  ·-- the piece comes to the family
   have jp : JnM ts pm := ⟨p, (hpm p).mpr pp, fun y hy => (hP.con pp ((hpm y).mp hy)).mono fun u hu => (hpm u).mpr hu⟩
   have F' : FamM n ts (pm :: B) := by
    refine ⟨fun b hb => ?_, fun b hb => ?_, fun b hb c' hc => ?_⟩
    ·rcases List.mem_cons.mp hb with e | hb
     ·rw [e]; exact pml
     ·exact F.lt b hb
    ·rcases List.mem_cons.mp hb with e | hb
     ·rw [e]; exact jp
     ·exact F.jn b hb
    ·rcases List.mem_cons.mp hb with e | hb
     ·rcases List.mem_cons.mp hc with e' | hc
      ·rw [e, e']; exact jp.tch
      ·rw [e]; exact c c' hc
     ·rcases List.mem_cons.mp hc with e' | hc
      ·rw [e']; exact (c b hb).symm
      ·exact F.tc b hb c' hc
   have new : pm ∉ B := fun z => by
    obtain ⟨x, h1, h2⟩ := hX pm z
    exact (hP.sub ((hpm x).mp h1)).2 h2
   have less := Srt.countP_lt (l := List.range (2 ^ n)) (p := fun x => decide (x ∉ pm :: B)) (q := fun x => decide (x ∉ B)) (fun z hz => decide_eq_true fun y => of_decide_eq_true hz (List.mem_cons_of_mem _ y)) (List.mem_range.mpr pml) (decide_eq_false fun z => z List.mem_cons_self) (decide_eq_true new)
   have D' := dual n10 clV m (pm :: B) (by omega) F' fun ⟨B', s, f, h⟩ => nE ⟨B', fun b hb => s b (List.mem_cons_of_mem _ hb), f, h⟩
   rcases c1P (G := AB n k B) (b9D n k (pm :: B)) D' fun a b _ t => clV a b t with d | ⟨Z, aZ, gZ, hD⟩
   ·exact absurd d notV
   ·obtain ⟨kZ, cZ⟩ : k < a1A n Z /\ CvM B Z := by
     refine Classical.byContradiction fun z => gZ fun a b => z ⟨a, b⟩
    have ZP : ∀ x, P x -> ¬ Z x := fun x px zx => aZ kZ fun b hb => by
     rcases List.mem_cons.mp hb with e | hb
     ·rw [e]; exact ⟨x, (hpm x).mpr px, zx⟩
     ·exact cZ b hb
    have pV : (fun x => x < n /\ ¬ Z x) p := ⟨(hP.sub pp).1, ZP p pp⟩
    have cD : Comp ts (fun x => x < n /\ ¬ Z x) fun y => Rc ts (fun x => x < n /\ ¬ Z x) p y := Comp.at pV
    refine b9E F.jn lt clV hX min Xk hP hpm cZ ZP (hD _ cD) (fun x hx => (cD.sub hx).2) P (Comp.of pp (fun y py => ⟨py, (hP.con pp py).mono fun u hu => ⟨(hP.sub hu).1, ZP u hu⟩⟩) (fun y py => hP.con pp py) fun y z py t ⟨pz, _⟩ => pz)
  ·-- a part that it does not touch
   obtain ⟨b, hb⟩ := Classical.not_forall.mp c
   obtain ⟨hb, nt⟩ := Classical.not_imp.mp hb
   refine .mk (fun x => P x \/ Nb ts P x) (fun _ cv => ?_) (fun a b' pa t nb => .inr ⟨nb, a, pa, t⟩) fun C' hC' => ?_
   ·obtain ⟨x, bx, h⟩ := cv b hb
    rcases h with px | ⟨_, a, pa, t⟩
    ·exact nt ⟨x, x, (hpm x).mpr px, bx, .inl rfl⟩
    ·exact nt ⟨a, x, (hpm a).mpr pa, bx, .inr t⟩
   ·obtain ⟨x, cx⟩ := hC'.ne
    exact absurd (.inl (hC'.sub cx).1) (hC'.sub cx).2
end
theorem a5G {n : Nat} {ts : List ζζ} {S v u : Nat} (n10 : n <= 10) (Sl : S < 2 ^ n) (vn : v < n) (vS : S.testBit v = false) : bitP (bagN n ts S v) u ↔ u < n /\ S.testBit u = false /\ (v = u \/ PathT ts (a0L S) v u) := by
 obtain ⟨pn, pl, pm⟩ := a2Z n10 Sl
 have R := a7Z (ts := ts) pn pl
 have hv : v ∉ a0L S := fun z => by have := (pm v).mp z; rw [vS] at this; cases this
 show (bagN n ts S v).testBit u = true ↔ _
 unfold bagN
 rw [a2D, Bool.and_eq_true, decide_eq_true_iff]
 refine and_congr_right fun un => ?_
 by_cases c : S.testBit u = true
 ·rw [R.gone v u vn hv ((pm u).mpr c), c]
  exact ⟨fun z => absurd z Bool.false_ne_true, fun z => absurd z.1.symm Bool.false_ne_true⟩
 ·have c' : S.testBit u = false := Bool.eq_false_iff.mpr c
  rw [R.path v u vn un hv fun z => c ((pm u).mp z)]
  exact ⟨fun z => ⟨c', z⟩, fun z => z.2⟩
abbrev a2H (n : Nat) (ts : List ζζ) (A : St' -> Prop) (S v : Nat) : Prop := A (bitP (bagN n ts S v))
theorem or_bit {S v u : Nat} : (S ||| 2 ^ v).testBit u = true ↔ S.testBit u = true \/ u = v := by
 rw [Nat.testBit_or, Nat.testBit_two_pow, Bool.or_eq_true, decide_eq_true_iff]
 exact or_congr_right eq_comm
section
variable {ts : List ζζ} {n : Nat}
theorem a5H {A : St' -> Prop} {C : St'} (Cn : ∀ x, C x -> x < n) {good : Nat -> Nat -> Prop} : ∀ (j : Nat) (S : Nat) (os : List Nat), FreeP n good S os -> (∀ S', (∀ u, bitP S u -> bitP S' u) -> (∀ u, bitP S' u -> bitP S u \/ C u) -> S' < 2 ^ n -> ∀ x, C x -> ¬ bitP S' x -> good S' x) -> a1A n (fun u => C u /\ ¬ bitP S u) <= j -> ∃ S' os', FreeP n good S' os' /\ ∀ u, bitP S' u ↔ bitP S u \/ C u := by
 intro j
 induction j with
 | zero =>
  intro S os h _ l
  refine ⟨S, os, h, fun u => ⟨.inl, fun c => c.elim id fun cu => Classical.byContradiction fun nb => ?_⟩⟩
  have : 0 < a1A n fun u => C u /\ ¬ bitP S u := b4Q (Cn u cu) ⟨cu, nb⟩
  omega
 | succ j ih =>
  intro S os h g l
  by_cases c : ∃ x, C x /\ ¬ bitP S x
  ·obtain ⟨x, cx, nx⟩ := c
   have xn := Cn x cx
   have nx' : S.testBit x = false := Bool.eq_false_iff.mpr nx
   have h1 := FreeP.snoc h nx' xn (g S (fun _ hu => hu) (fun _ hu => .inl hu) h.lt x cx nx)
   obtain ⟨S', os', f, e⟩ := ih (S ||| 2 ^ x) _ h1 (fun S' s1 s2 sl y cy ny => g S' (fun u hu => s1 u (or_bit.mpr (.inl hu))) (fun u hu => by
    rcases s2 u hu with q | q
    ·rcases or_bit.mp q with q | q
     ·exact .inl q
     ·rw [q]; exact .inr cx
    ·exact .inr q) sl y cy ny) (by
     have : a1A n (fun u => C u /\ ¬ bitP (S ||| 2 ^ x) u) < a1A n fun u => C u /\ ¬ bitP S u := by
      exact b9B (fun z hz => ⟨hz.1, fun q => hz.2 (or_bit.mpr (.inl q))⟩) xn (fun z => z.2 (or_bit.mpr (.inr rfl))) ⟨cx, nx⟩
     omega)
   refine ⟨S', os', f, fun u => (e u).trans ?_⟩
   constructor
   ·rintro (q | q)
    ·rcases or_bit.mp q with q | q
     ·exact .inl q
     ·rw [q]; exact .inr cx
    ·exact .inr q
   ·rintro (q | q)
    ·exact .inl (or_bit.mpr (.inl q))
    ·exact .inr q
  ·exact ⟨S, os, h, fun u => ⟨.inl, fun q => q.elim id fun cu => Classical.byContradiction fun nb => c ⟨u, cu, nb⟩⟩⟩
theorem b9F (n10 : n <= 10) {A : St' -> Prop} (DA : Down A) {C : St'} (h : Dec ts A C) :
  (∀ x, C x -> x < n) -> ∀ S os, FreeP n (a2H n ts A) S os -> (∀ a b, C a -> bitP S b -> tieT ts a b = false) -> (∀ a, C a -> ¬ bitP S a) -> ∃ S' os', FreeP n (a2H n ts A) S' os' /\ ∀ u, bitP S' u ↔ bitP S u \/ C u := by
 induction h with
 | @mk C Y ok near h ih =>
  intro Cn S0 os0 f0 nt dis
  have p1 : ∀ (j S : Nat) (os : List Nat), FreeP n (a2H n ts A) S os -> (∀ u, bitP S u ↔ bitP S0 u \/ (bitP S u /\ C u /\ ¬ Y u)) -> (∀ u v, bitP S u -> C u /\ ¬ Y u -> C v /\ ¬ Y v -> tieT ts u v = true -> bitP S v) -> a1A n (fun u => (C u /\ ¬ Y u) /\ ¬ bitP S u) <= j -> ∃ S' os', FreeP n (a2H n ts A) S' os' /\ ∀ u, bitP S' u ↔ bitP S0 u \/ (C u /\ ¬ Y u) := by
   intro j
   induction j with
   | zero =>
    intro S os f e cl l
    refine ⟨S, os, f, fun u => ⟨fun hu => ((e u).mp hu).imp id fun z => z.2, fun q => q.elim (fun z => (e u).mpr (.inl z)) fun cu => Classical.byContradiction fun nb => ?_⟩⟩
    have : 0 < a1A n fun u => (C u /\ ¬ Y u) /\ ¬ bitP S u := b4Q (Cn u cu.1) ⟨cu, nb⟩
    omega
   | succ j ihj =>
    intro S os f e cl l
    by_cases c : ∃ x, (C x /\ ¬ Y x) /\ ¬ bitP S x
    ·obtain ⟨x, cx, nx⟩ := c
     have cc : Comp ts (fun x => C x /\ ¬ Y x) fun y => Rc ts (fun x => C x /\ ¬ Y x) x y := Comp.at cx
     have out : ∀ y, Rc ts (fun x => C x /\ ¬ Y x) x y -> ¬ bitP S y := fun y r => by
      induction r with
      | refl _ => exact nx
      | @step u v p t hv ih2 => exact fun z => ih2 (cl v u z hv p.snd (a1J t))
     obtain ⟨S1, os1, f1, e1⟩ := ih _ cc (fun y hy => Cn y (cc.sub hy).1) S os f (fun a b ha hb => by
      rcases (e b).mp hb with q | ⟨_, q⟩
      ·exact nt a b (cc.sub ha).1 q
      ·cases t : tieT ts a b with
       | false => rfl
       | true => exact absurd hb (out b (cc.tie ha t q))) out
     refine ihj S1 os1 f1 (fun u => ?_) (fun u v hu cu cv t => ?_) ?_
     ·constructor
      ·intro hu
       rcases (e1 u).mp hu with q | q
       ·rcases (e u).mp q with q | q
        ·exact .inl q
        ·exact .inr ⟨hu, q.2⟩
       ·exact .inr ⟨hu, cc.sub q⟩
      ·rintro (q | q)
       ·exact (e1 u).mpr (.inl ((e u).mpr (.inl q)))
       ·exact q.1
     ·rcases (e1 u).mp hu with q | q
      ·exact (e1 v).mpr (.inl (cl u v q cu cv t))
      ·exact (e1 v).mpr (.inr (cc.tie q t cv))
     ·have : a1A n (fun u => (C u /\ ¬ Y u) /\ ¬ bitP S1 u) < a1A n fun u => (C u /\ ¬ Y u) /\ ¬ bitP S u := by
       exact b9B (fun z hz => ⟨hz.1, fun q => hz.2 ((e1 z).mpr (.inl q))⟩) (Cn x cx.1) (fun z => z.2 ((e1 x).mpr (.inr (.refl cx)))) ⟨cx, nx⟩
      omega
    ·exact ⟨S, os, f, fun u => ⟨fun hu => ((e u).mp hu).imp id fun z => z.2, fun q => q.elim (fun z => (e u).mpr (.inl z)) fun cu => Classical.byContradiction fun nb => c ⟨u, cu, nb⟩⟩⟩
  obtain ⟨S1, os1, f1, e1⟩ := p1 _ S0 os0 f0 (fun u => ⟨.inl, fun q => q.elim id fun z => z.1⟩) (fun u v hu cu _ _ => absurd hu (dis u cu.1)) (Nat.le_refl _)
  have gd : ∀ S', (∀ u, bitP S1 u -> bitP S' u) -> (∀ u, bitP S' u -> bitP S1 u \/ C u) -> S' < 2 ^ n -> ∀ x, C x -> ¬ bitP S' x -> a2H n ts A S' x := fun S' s1 s2 sl x cx nx => by
   refine DA Y _ (fun u hu => ?_) ok
   have nx' : S'.testBit x = false := Bool.eq_false_iff.mpr nx
   obtain ⟨un, uS, r⟩ := (a5G n10 sl (Cn x cx) nx').mp hu
   have inY : ∀ {w}, C w -> ¬ bitP S' w -> Y w := fun {w} cw nw => Classical.byContradiction fun ny => nw (s1 w ((e1 w).mpr (.inr ⟨cw, ny⟩)))
   have uS' : ¬ bitP S' u := fun z => by rw [show S'.testBit u = true from z] at uS; cases uS
   rcases r with r | r
   ·rw [<- r]; exact inY cx nx
   ·have pm : ∀ w, w ∈ a0L S' ↔ bitP S' w := fun w => (a2Z n10 sl).2.2 w
    have step : ∀ {a w}, C a -> tieT ts a w = true -> bitP S' w -> C w := fun {a w} ca t hw => by
     rcases s2 w hw with q | q
     ·rcases (e1 w).mp q with q | q
      ·rw [nt a w ca q] at t; cases t
      ·exact q.1
     ·exact q
    have go : ∀ {w}, PathT ts (a0L S') x w -> (bitP S' w -> C w) /\ (¬ bitP S' w -> Y w) := fun {w} p => by
     have last : ∀ {a w}, C a -> tieT ts a w = true -> (bitP S' w -> C w) /\ (¬ bitP S' w -> Y w) := fun {a w} ca t => by
      refine ⟨step ca t, fun nw => ?_⟩
      by_cases cw : C w
      ·exact inY cw nw
      ·exact near a w ca t cw
     induction p with
     | one t => exact last cx t
     | step p m t ih2 => exact last (ih2.1 ((pm _).mp m)) t
    exact (go r).2 uS'
  obtain ⟨S2, os2, f2, e2⟩ := a5H (A := A) Cn _ S1 os1 f1 gd (Nat.le_refl _)
  refine ⟨S2, os2, f2, fun u => (e2 u).trans ?_⟩
  rw [e1 u]
  constructor
  ·rintro ((q | q) | q)
   ·exact .inl q
   ·exact .inr q.1
   ·exact .inr q
  ·rintro (q | q)
   ·exact .inl (.inl q)
   ·exact .inr q
theorem b6A (n10 : n <= 10) {B : List Nat} (F : FamM n ts B) {good : Nat -> Nat -> Prop} {S : Nat} {os : List Nat} (f : FreeP n good S os) : (∀ b ∈ B, ∃ x, bitP b x /\ ¬ bitP S x) \/ ∃ S' v, S' < 2 ^ n /\ v < n /\ S'.testBit v = false /\ good S' v /\ CvM B (bitP (bagN n ts S' v)) := by
 induction f with
 | nil =>
  refine .inl fun b hb => ?_
  obtain ⟨x, hx, _⟩ := F.jn b hb
  exact ⟨x, hx, fun z => absurd (show (0 : Nat).testBit x = true from z) (by rw [Nat.zero_testBit]; exact Bool.false_ne_true)⟩
 | @snoc S v os f vS vn g ih =>
  rcases ih with ih | ih
  ·by_cases c : ∀ b ∈ B, ∃ x, bitP b x /\ ¬ bitP (S ||| 2 ^ v) x
   ·exact .inl c
   ·refine .inr ⟨S, v, f.lt, vn, vS, g, ?_⟩
    obtain ⟨b0, hb0⟩ := Classical.not_forall.mp c
    obtain ⟨hb0, all0⟩ := Classical.not_imp.mp hb0
    have inn : ∀ {w}, bitP b0 w -> bitP S w \/ w = v := fun {w} hw => Classical.byContradiction fun z => all0 ⟨w, hw, fun q => z (or_bit.mp q)⟩
    have v0 : bitP b0 v := by
     obtain ⟨x, h1, h2⟩ := ih b0 hb0
     rcases inn h1 with q | q
     ·exact absurd q h2
     ·rw [<- q]; exact h1
    have pm : ∀ w, w ∈ a0L S ↔ bitP S w := fun w => (a2Z n10 f.lt).2.2 w
    have next : ∀ {w w'}, (v = w \/ (bitP S w /\ PathT ts (a0L S) v w)) -> tieT ts w w' = true -> PathT ts (a0L S) v w' := fun {w w'} r t => by
     rcases r with r | ⟨r1, r2⟩
     ·rw [r]; exact .one t
     ·exact .step r2 ((pm w).mpr r1) t
    have rb0 : ∀ {w}, Rc ts (bitP b0) v w -> v = w \/ (bitP S w /\ PathT ts (a0L S) v w) := fun {w} r => by
     induction r with
     | refl _ => exact .inl rfl
     | @step y z p t hz ih2 =>
      rcases inn hz with q | q
      ·exact .inr ⟨q, next ih2 t⟩
      ·exact .inl q.symm
    intro b hb
    have found : ∀ {u}, bitP b u -> ¬ bitP S u -> (v = u \/ PathT ts (a0L S) v u) -> ∃ x, bitP b x /\ bitP (bagN n ts S v) x := fun {u} bu nu r => by
     have un : u < n := Classical.byContradiction fun c => by
      have := F.lt b hb
      have h2 : b.testBit u = false := Nat.testBit_lt_two_pow (Nat.lt_of_lt_of_le this (Nat.pow_le_pow_right (by decide) (by omega)))
      rw [show b.testBit u = true from bu] at h2
      cases h2
     exact ⟨u, bu, (a5G n10 f.lt vn vS).mpr ⟨un, Bool.eq_false_iff.mpr nu, r⟩⟩
    obtain ⟨x, bx, nx⟩ := ih b hb
    obtain ⟨y, y', hy, hy', e⟩ := F.tc b0 hb0 b hb
    have ry := rb0 ((F.jn b0 hb0).con v0 hy)
    have ry' : v = y' \/ PathT ts (a0L S) v y' := by
     rcases e with e | t
     ·rw [<- e]; exact ry.imp id fun z => z.2
     ·exact .inr (next ry t)
    have walk : ∀ {w}, Rc ts (bitP b) y' w -> (∃ x, bitP b x /\ bitP (bagN n ts S v) x) \/ (bitP S w /\ PathT ts (a0L S) v w) := fun {w} r => by
     have at_ : ∀ {w}, bitP b w -> (v = w \/ PathT ts (a0L S) v w) -> (∃ x, bitP b x /\ bitP (bagN n ts S v) x) \/ (bitP S w /\ PathT ts (a0L S) v w) := fun {w} bw r => by
      by_cases c : bitP S w
      ·refine .inr ⟨c, r.resolve_left fun z => ?_⟩
       rw [<- z] at c
       rw [show S.testBit v = true from c] at vS
       cases vS
      ·exact .inl (found bw c r)
     induction r with
     | refl h => exact at_ h ry'
     | @step a w p t hw ih2 =>
      rcases ih2 with ih2 | ih2
      ·exact .inl ih2
      ·exact at_ hw (.inr (next (.inr ih2) t))
    rcases walk ((F.jn b hb).con hy' bx) with q | q
    ·exact q
    ·exact absurd q.1 nx
  ·exact .inr ih
theorem full_bit {n u : Nat} : bitP (2 ^ n - 1) u ↔ u < n := by
 show (2 ^ n - 1).testBit u = true ↔ _
 rw [Nat.testBit_two_pow_sub_one, decide_eq_true_iff]
theorem c7S {k : Nat} {B : List Nat} (n10 : n <= 10) (clV : ∀ a b, tieT ts a b = true -> b < n) (F : FamM n ts B) (no : ∀ os, ¬ FreeP n (a2H n ts (AB n k B)) (2 ^ n - 1) os) : ExtM n ts k B := by
 refine Classical.byContradiction fun nE => ?_
 have D := dual (k := k) (Nat.pow_pos (by decide)) clV _ B (Nat.lt_succ_self _) F nE
 obtain ⟨S', os', f, e⟩ := b9F n10 (b9D n k B) D (fun x hx => hx) 0 [] .nil (fun a b _ hb => absurd (show (0 : Nat).testBit b = true from hb) (by rw [Nat.zero_testBit]; exact Bool.false_ne_true)) (fun a _ hb => absurd (show (0 : Nat).testBit a = true from hb) (by rw [Nat.zero_testBit]; exact Bool.false_ne_true))
 have : S' = 2 ^ n - 1 := Nat.eq_of_testBit_eq fun u => by
  rw [Bool.eq_iff_iff]
  refine (e u).trans ((or_iff_right fun z => ?_).trans full_bit.symm)
  exact absurd (show (0 : Nat).testBit u = true from z) (by rw [Nat.zero_testBit]; exact Bool.false_ne_true)
 rw [this] at f
 exact no os' f
theorem c5B {k : Nat} {B : List Nat} (n10 : n <= 10) (n0 : 0 < n) (F : FamM n ts B) (big : ∀ Y, CvM B Y -> k < a1A n Y) (os : List Nat) : ¬ FreeP n (a2H n ts (AB n k B)) (2 ^ n - 1) os := fun f => by
 by_cases e : B = []
 ·-- no parts: any bag covers them
  have := big (fun _ => False) (by rw [e]; exact fun b hb => absurd hb List.not_mem_nil)
  have z : a1A n (fun _ => False) = 0 := b9C fun _ h => h
  omega
 ·rcases b6A n10 F f with c | ⟨S, v, _, _, _, g, cv⟩
  ·obtain ⟨b, r, eb⟩ := List.exists_cons_of_ne_nil e
   have hb : b ∈ B := by rw [eb]; exact List.mem_cons_self
   obtain ⟨x, bx, nx⟩ := c b hb
   refine nx (full_bit.mpr (Classical.byContradiction fun c => ?_))
   have := F.lt b hb
   have h2 : b.testBit x = false := Nat.testBit_lt_two_pow (Nat.lt_of_lt_of_le this (Nat.pow_le_pow_right (by decide) (by omega)))
   rw [show b.testBit x = true from bx] at h2
   cases h2
  ·exact g (big _ cv) cv
theorem c1R {k X : Nat} {B : List Nat} (n10 : n <= 10) (n0 : 0 < n) (clV : ∀ a b, tieT ts a b = true -> b < n) (F : FamM n ts B) (no : ∀ os, ¬ FreeP n (a2H n ts (AB n k B)) (2 ^ n - 1) os) (Xk : a1A n (bitP X) <= k) :
  ∃ C, Comp ts (fun x => x < n /\ ¬ bitP X x) C /\ ∀ cm, (∀ x, bitP cm x ↔ C x) -> ∀ os, ¬ FreeP n (a2H n ts (AB n k (cm :: B))) (2 ^ n - 1) os := by
 obtain ⟨B', sub, F', big⟩ := c7S n10 clV F no
 obtain ⟨d, hd⟩ := Classical.not_forall.mp fun c : CvM B' (bitP X) => Nat.lt_irrefl k (Nat.lt_of_lt_of_le (big _ c) Xk)
 obtain ⟨hd, miss⟩ := Classical.not_imp.mp hd
 obtain ⟨x, dx, con⟩ := F'.jn d hd
 have dV : ∀ {u}, bitP d u -> u < n /\ ¬ bitP X u := fun {u} du => by
  refine ⟨Classical.byContradiction fun c => ?_, fun z => miss ⟨u, du, z⟩⟩
  have := F'.lt d hd
  have h2 : d.testBit u = false := Nat.testBit_lt_two_pow (Nat.lt_of_lt_of_le this (Nat.pow_le_pow_right (by decide) (by omega)))
  rw [show d.testBit u = true from du] at h2
  cases h2
 have cc : Comp ts (fun x => x < n /\ ¬ bitP X x) fun y => Rc ts (fun x => x < n /\ ¬ bitP X x) x y := Comp.at (dV dx)
 refine ⟨_, cc, fun cm hcm os f => ?_⟩
 have dC : ∀ {u}, bitP d u -> bitP cm u := fun {u} du => (hcm u).mpr ((con u du).mono fun w hw => dV hw)
 have cmx : bitP cm x := dC dx
 have jc : JnM ts cm := ⟨x, cmx, fun y hy => (cc.con (.refl (dV dx)) ((hcm y).mp hy)).mono fun u hu => (hcm u).mpr hu⟩
 have tc : ∀ b ∈ B', TcM ts cm b := fun b hb => by
  obtain ⟨y, z, hy, hz, e⟩ := F'.tc d hd b hb
  exact ⟨y, z, dC hy, hz, e⟩
 have cl : cm < 2 ^ n := Nat.lt_pow_two_of_testBit _ fun i hi => by
  cases c : cm.testBit i with
  | false => rfl
  | true => exact absurd (cc.sub ((hcm i).mp c)).1 (by omega)
 have F'' : FamM n ts (cm :: B') := by
  refine ⟨fun b hb => ?_, fun b hb => ?_, fun b hb c' hc => ?_⟩
  ·rcases List.mem_cons.mp hb with e | hb
   ·rw [e]; exact cl
   ·exact F'.lt b hb
  ·rcases List.mem_cons.mp hb with e | hb
   ·rw [e]; exact jc
   ·exact F'.jn b hb
  ·rcases List.mem_cons.mp hb with e | hb
   ·rcases List.mem_cons.mp hc with e' | hc
    ·rw [e, e']; exact jc.tch
    ·rw [e]; exact tc c' hc
   ·rcases List.mem_cons.mp hc with e' | hc
    ·rw [e']; exact (tc b hb).symm
    ·exact F'.tc b hb c' hc
 refine c5B n10 n0 F'' (fun Y hY => big Y fun b hb => hY b (List.mem_cons_of_mem _ hb)) os (f.weak fun S v _ _ _ g l c => g l fun b hb => ?_)
 rcases List.mem_cons.mp hb with e | hb
 ·rw [e]; exact c cm List.mem_cons_self
 ·exact c b (List.mem_cons_of_mem _ (sub b hb))
theorem b3K {k cm : Nat} {B : List Nat} (n10 : n <= 10) (cl : cm < 2 ^ n) (no : ∀ os, ¬ FreeP n (a2H n ts (AB n k (cm :: B))) (2 ^ n - 1) os) : ∀ b ∈ B, TcM ts cm b := by
 intro b hb
 refine Classical.byContradiction fun nt => ?_
 have cn : ∀ x, bitP cm x -> x < n := fun x hx => Classical.byContradiction fun c => by
  have h2 : cm.testBit x = false := Nat.testBit_lt_two_pow (Nat.lt_of_lt_of_le cl (Nat.pow_le_pow_right (by decide) (by omega)))
  rw [show cm.testBit x = true from hx] at h2
  cases h2
 obtain ⟨S1, os1, f1, e1⟩ := a5H (A := AB n k (cm :: B)) (C := bitP cm) cn (good := a2H n ts (AB n k (cm :: B))) _ 0 [] .nil (fun S' s1 s2 sl x cx nx => by
  intro _ cv
  obtain ⟨u, bu, hu⟩ := cv b (List.mem_cons_of_mem _ hb)
  obtain ⟨_, _, r⟩ := (a5G n10 sl (cn x cx) (Bool.eq_false_iff.mpr nx)).mp hu
  have inC : ∀ {w}, bitP S' w -> bitP cm w := fun {w} hw => (s2 w hw).elim (fun z => absurd (show (0 : Nat).testBit w = true from z) (by rw [Nat.zero_testBit]; exact Bool.false_ne_true)) id
  rcases r with r | r
  ·rw [<- r] at bu
   exact nt ⟨x, x, cx, bu, .inl rfl⟩
  ·cases r with
   | one t => exact nt ⟨x, u, cx, bu, .inr t⟩
   | step _ m t => exact nt ⟨_, u, inC (((a2Z n10 sl).2.2 _).mp m), bu, .inr t⟩) (Nat.le_refl _)
 obtain ⟨S2, os2, f2, e2⟩ := a5H (A := AB n k (cm :: B)) (C := fun x => x < n) (fun x hx => hx) (good := a2H n ts (AB n k (cm :: B))) _ S1 os1 f1 (fun S' s1 s2 sl x cx nx => by
  intro _ cv
  obtain ⟨u, bu, hu⟩ := cv cm List.mem_cons_self
  obtain ⟨_, h2, _⟩ := (a5G n10 sl cx (Bool.eq_false_iff.mpr nx)).mp hu
  have := s1 u ((e1 u).mpr (.inr bu))
  rw [show S'.testBit u = true from this] at h2
  cases h2) (Nat.le_refl _)
 have : S2 = 2 ^ n - 1 := Nat.eq_of_testBit_eq fun u => by
  rw [Bool.eq_iff_iff]
  refine (e2 u).trans ⟨fun z => full_bit.mpr (z.elim (fun q => ?_) id), fun z => .inr (full_bit.mp z)⟩
  exact ((e1 u).mp q).elim (fun z => absurd (show (0 : Nat).testBit u = true from z) (by rw [Nat.zero_testBit]; exact Bool.false_ne_true)) (cn u)
 rw [this] at f2
 exact no os2 f2
end
end K
namespace K
open PySem L2 Lw Bg
abbrev a5I : Stmt := top 33
theorem a8O : FnScope ["covers", "part"] ["covers", "part"] (a0F a5I) := ⟨rfl, rfl, rfl, by decide +kernel, rfl, by decide +kernel, by decide +kernel⟩
abbrev a5J : Stmt := top 34
theorem sc_small_cover : FnScope ["covers", "sizes", "wide", "mask", "size"] ["covers", "sizes", "wide"] (a0F a5J) := ⟨rfl, rfl, rfl, by decide +kernel, rfl, by decide +kernel, by decide +kernel⟩
abbrev a5K : Stmt := top 35
theorem a8P : FnScope ["covers", "sizes", "wide"] ["covers", "sizes", "wide"] (a0F a5K) := ⟨rfl, rfl, rfl, by decide +kernel, rfl, by decide +kernel, by decide +kernel⟩
theorem a5L {n m : Nat} (n10 : n <= 10) (ml : m < 2 ^ n) : a1A n (bitP m) = popF m := by
 have a : a1A n (bitP m) = (List.range n).countP m.testBit := a4B fun x => Iff.rfl
 have b : popF m = (List.range 10).countP m.testBit := by
  unfold popF a0L
  rw [List.countP_eq_length_filter]
 rw [a, b]
 obtain ⟨k, e⟩ : ∃ k, 10 = n + k := ⟨10 - n, by omega⟩
 rw [e, List.range_add, List.countP_append]
 have z : ((List.range k).map fun x => n + x).countP m.testBit = 0 := by
  rw [List.countP_eq_zero]
  intro x hx
  obtain ⟨y, _, rfl⟩ := List.mem_map.mp hx
  rw [a1C ml (by omega)]
  exact Bool.false_ne_true
 omega
def cvL (L : Nat) (f : Nat -> Bool) : List V := ((List.range L).map f).map V.bl
theorem a9Y (L : Nat) (f : Nat -> Bool) : (cvL L f).length = L := by unfold cvL; rw [List.length_map, List.length_map, List.length_range]
theorem b9G {L : Nat} {f : Nat -> Bool} {m : Nat} (h : m < L) : atI (cvL L f) (m : Int) = some (.bl (f m)) := a2Q (by
 unfold cvL
 rw [List.getElem?_map, List.getElem?_map, List.getElem?_range h]; rfl)
def a4C (f : Nat -> Bool) (p m : Nat) : Bool := f m && decide (m &&& p ≠ 0)
theorem c7T (a b : Nat) : V.int (Builtin.bitAnd (a : Int) (b : Int)) = V.int 0 ↔ a &&& b = 0 := by
 rw [a3M]
 constructor
 ·intro h; injection h with h; omega
 ·intro h; rw [h]; rfl
theorem a9G {α β : Type} (g : β -> V) (f : α -> β) (l : List α) : l.filterMap (fun x => some (g (f x))) = (l.map f).map g := by
 rw [List.map_map]
 exact congrFun (List.filterMap_eq_map' (f := g ∘ f)) l
def c7U (K : Φρ) : Sp := fun vs H Q _ => ∃ (a : Addr) (L p : Nat) (f : Nat -> Bool), vs = [.ref a, .int (p : Int)] /\ SqL K H a (cvL L f) /\ L <= 1024 /\ ∀ r H', Same H H' -> H r = none -> H' r = some (.lst (cvL L (a4C f p))) -> Q (.ref r) H'
def c1S (K : Φρ) : Sp := fun vs H Q _ => ∃ (a b : Addr) (L : Nat) (f : Nat -> Bool) (z : Int), vs = [.ref a, .ref b, .int z] /\ SqL K H a (cvL L f) /\ SqL K H b (a1V L) /\ L <= 1024 /\
 (∀ m H', Same H H' -> m < L -> (popF m : Int) = z -> f m = true -> Q (.int ((m : Nat) : Int)) H') /\ ∀ H', Same H H' -> (∀ m, m < L -> (popF m : Int) = z -> f m = false) -> Q .non H'
def c1T (K : Φρ) : Sp := fun vs H Q _ => ∃ (a b : Addr) (L : Nat) (f : Nat -> Bool) (z : Int), vs = [.ref a, .ref b, .int z] /\ SqL K H a (cvL L f) /\ SqL K H b (a1V L) /\ L <= 1024 /\
 ∀ r H', Same H H' -> H r = none -> H' r = some (.lst (cvL L fun m => f m && decide (z < (popF m : Int)))) -> Q (.ref r) H'
section
variable {P : Program} {w : World} {K : Φρ} {mg : Str -> Option Value} {base : Heap}
abbrev DZ18 (K : PySem.W.Frag) (mg : Str -> Option Value) := Dn K mg "covers_also" a5I ["covers", "part"]
set_option maxHeartbeats 8000000 in
theorem a4O (B : Bl mg) (dZ18 : DZ18 K mg) : FnOk P w K mg base CX0 1 dZ18.f dZ18.fd ["covers", "part"] (c7U K) := by
 refine dZ18.F.ok a8O (fun vs H Q E h => ?_) (fun cdv A outer s H vs Q E hr h => ?_)
 ·obtain ⟨a, L, p, f, rfl, _⟩ := h
  rfl
 obtain ⟨a, L, p, f, rfl, hA, lL, q⟩ := h
 refine ⟨_, (a0D (a0O (a3W ["mask", "covers", "part"] [none, some 0, some 1]  (by kernel_rfl) rfl (a1U rfl B.range (a0A (a0I (a0S (K := K) rfl) rfl B.len (by decide +kernel) (a0A (pv 0) a0C)) a0C)) (fun _ _ _ _ _ => (a0H (i := 0) (show (["mask", "covers", "part"] : List Str).Nodup by decide +kernel) rfl (Or.inl rfl))) (fun _ _ _ _ _ => a1G) (fun _ _ _ _ _ => (b0G (a1D (a0P (K := K) rfl) (pv 1) (pv 0) (fun _ _ => rfl)) (b0F (a5T c0C (a0K a3T (pv 0) (pv 2)) a0E (a0W _)))))))), ?_⟩
 refine ⟨_, rfl, a, _, rfl, .inl hA, _, rfl, by rw [a9Y]; omega, by rw [a9Y]; omega, ?_⟩
 rw [a9Y, Int.toNat_natCast]
 refine b6W (fun m => some (.bl (a4C f p m))) (Nat.le_trans (show L <= 5000 by omega) (by decide)) (fun i H1 N hi s1 hN => ?_) (fun H1 r s1 hf => ?_)
 ·have ei : (0 : Int) + (i : Int) = (i : Int) := by omega
  rw [ei]
  have hN' := hN H1 s1
  refine ⟨_, rfl, _, rfl, a, _, _, _, rfl, rfl, s1.seq hA, b9G hi, f i, rfl, ?_⟩
  unfold a4C at hN'
  cases c : f i with
  | false => rw [c] at hN'; exact iteF hN'
  | true =>
   rw [c] at hN'
   refine iteT ⟨_, rfl, _, rfl, _, _, rfl, rfl, rfl, ?_⟩
   dsimp only
   rw [show (!decide (V.int (Builtin.bitAnd (i : Int) (p : Int)) = V.int 0)) = decide (i &&& p ≠ 0) by
    rw [decide_not]
    exact congrArg not (decide_eq_decide.mpr (c7T i p))]
   exact hN'
 ·have nG := New.mk0 (o := HO.lst (List.filterMap (fun m => some (V.bl (a4C f p m))) (List.range L))) hf
  generalize upd H1 r (HO.lst (List.filterMap (fun m => some (V.bl (a4C f p m))) (List.range L))) = G at nG ⊢
  refine q r G (s1.trans nG.same) (s1.free hf) ?_
  rw [nG.here, a9G]; rfl
abbrev DZ39 (K : PySem.W.Frag) (mg : Str -> Option Value) := Dn K mg "small_cover" a5J ["covers", "sizes", "wide"]
set_option maxHeartbeats 8000000 in
theorem a8Q (B : Bl mg) (dZ39 : DZ39 K mg) : FnOk P w K mg base CX0 1 dZ39.f dZ39.fd ["covers", "sizes", "wide"] (c1S K) := by
 refine dZ39.F.ok sc_small_cover (fun vs H Q E h => ?_) (fun cdv A outer s H vs Q E hr h => ?_)
 ·obtain ⟨a, b, L, f, z, rfl, _⟩ := h
  rfl
 obtain ⟨a, b, L, f, z, rfl, hA, hB, lL, q1, q2⟩ := h
 refine ⟨_, (a0B (a1I PassesOwn.never rfl (a3Y (K := K) rfl rfl B.enumerate (a0A (pv 1) a0C)) (a2R (K := K) (n := 2) rfl rfl (a0Z (a0H (i := 3) sc_small_cover.nd rfl (Or.inl rfl)) (a0Z (a0H (i := 4) sc_small_cover.nd rfl (Or.inl rfl)) a2P)))
   (a0D (a1Q (PW.pt (a7I (a0N a3U (pv 4) (pv 2) (a0W _)) (a4P (a0T (K := K) rfl (a1D (a0P (K := K) rfl) (pv 0) (pv 3) (fun _ _ => rfl)) (fun _ => rfl)))))
   (a0D (a0O (pv 3)))
   a0V)))
   (a0D (a0O a3S))), ?_⟩
 have ll := a4H L
 refine ⟨_, rfl, b, rfl, ⟨_, hB⟩, ?_⟩
 refine a3L (xs := a1V L) (fun i σ H' => (∃ mm ss : Option V, σ = [some (.ref a), some (.ref b), some (.int z), mm, ss]) /\ Same H H' /\ ∀ m, m < i -> (popF m : Int) = z -> f m = false) ⟨⟨_, _, rfl⟩, Same.refl _, fun m h => absurd h (Nat.not_lt_zero _)⟩ (fun i σ H' _ ⟨_, s, _⟩ => s.seq hB) ?_ ?_
 ·rintro i x σ H4 p H5 hi ⟨⟨mm, ss, rfl⟩, s4, no⟩ nw
  have il : i < L := by
   have := (List.getElem?_eq_some_iff.mp hi).1
   rw [ll] at this
   exact this
  obtain rfl : x = .int ((popF i : Nat) : Int) := by
   unfold a1V at hi
   rw [List.getElem?_map, List.getElem?_range il] at hi
   injection hi with hi
   exact hi.symm
  have s5 := s4.trans nw.same
  refine ⟨p, _, rfl, SqT.of nw.here, rfl, _, _, rfl, _, _, rfl, rfl, ?_⟩
  refine ⟨_, rfl, _, rfl, rfl, _, rfl, ?_⟩
  refine ite2 (fun c => ?_) (fun c => ?_)
  ·have c1 : (popF i : Int) = z := by
    have := of_decide_eq_true c
    injection this
   refine ⟨_, rfl, _, rfl, a, _, _, _, rfl, rfl, s5.seq hA, b9G il, _, rfl, ?_⟩
   cases d : f i with
   | true => exact iteT ⟨_, rfl, q1 i H5 s5 il c1 d⟩
   | false =>
    refine iteF ⟨⟨_, _, rfl⟩, s5, fun m hm e => ?_⟩
    by_cases dm : m = i
    ·rw [dm]; exact d
    ·exact no m (by omega) e
  ·have c1 : ¬ (popF i : Int) = z := fun e => c (decide_eq_true (by rw [e]))
   refine iteF ⟨⟨_, _, rfl⟩, s5, fun m hm e => ?_⟩
   by_cases d : m = i
   ·rw [d] at e; exact absurd e c1
   ·exact no m (by omega) e
 ·rintro σ H4 ⟨⟨mm, ss, rfl⟩, s4, no⟩
  rw [ll] at no
  exact q2 H4 s4 no
abbrev DZ14 (K : PySem.W.Frag) (mg : Str -> Option Value) := Dn K mg "barred_bags" a5K ["covers", "sizes", "wide"]
set_option maxHeartbeats 8000000 in
theorem a8R (B : Bl mg) (dZ14 : DZ14 K mg) : FnOk P w K mg base CX0 1 dZ14.f dZ14.fd ["covers", "sizes", "wide"] (c1T K) := by
 refine dZ14.F.ok a8P (fun vs H Q E h => ?_) (fun cdv A outer s H vs Q E hr h => ?_)
 ·obtain ⟨a, b, L, f, z, rfl, _⟩ := h
  rfl
 obtain ⟨a, b, L, f, z, rfl, hA, hB, lL, q⟩ := h
 refine ⟨_, (a0D (a0O (a3W ["mask", "size", "covers", "wide"] [none, none, some 0, some 2]  (by kernel_rfl) rfl (a3Y (K := K) rfl rfl B.enumerate (a0A (pv 1) a0C)) (fun _ _ _ _ _ => (a2R (K := K) (n := 2) rfl rfl (a0Z (a0H (i := 0) (show (["mask", "size", "covers", "wide"] : List Str).Nodup by decide +kernel) rfl (Or.inl rfl)) (a0Z (a0H (i := 1) (show (["mask", "size", "covers", "wide"] : List Str).Nodup by decide +kernel) rfl (Or.inl rfl)) a2P)))) (fun _ _ _ _ _ => a1G) (fun _ _ _ _ _ => (b0G (a1D (a0P (K := K) rfl) (pv 2) (pv 0) (fun _ _ => rfl)) (b0F (a5T b5H (pv 1) (pv 3) (a0W _)))))))), ?_⟩
 refine ⟨_, rfl, b, rfl, ⟨_, hB⟩, ?_⟩
 have ll := a4H L
 refine c1B (K := K) (a := b) (xs := a1V L) (fun i ys G => Same H G /\ ys = cvL i fun m => f m && decide (z < (popF m : Int))) ⟨Same.refl _, rfl⟩ (fun i ys G hi ⟨s, e⟩ => ⟨s.seq hB, ?_⟩) (fun i x ys G p G0 hi ⟨s, e⟩ nw => ?_) fun ys G ⟨s, e⟩ r hf => ?_
 ·rw [e, a9Y]
  rw [ll] at hi
  exact Nat.le_trans (show i <= 5000 by omega) (by decide)
 ·have il : i < L := by
   have := (List.getElem?_eq_some_iff.mp hi).1
   rw [ll] at this
   exact this
  obtain rfl : x = .int ((popF i : Nat) : Int) := by
   unfold a1V at hi
   rw [List.getElem?_map, List.getElem?_range il] at hi
   injection hi with hi
   exact hi.symm
  have s5 := s.trans nw.same
  have nxt : ∀ b, b = (f i && decide (z < (popF i : Int))) -> ys ++ [V.bl b] = cvL (i + 1) fun m => f m && decide (z < (popF m : Int)) := fun b eb => by
   rw [e, eb]
   unfold cvL
   rw [List.range_succ, List.map_append, List.map_append]; rfl
  refine ⟨p, _, rfl, SqT.of nw.here, rfl, _, _, rfl, _, _, rfl, rfl, ?_⟩
  refine ⟨_, rfl, _, rfl, a, _, _, _, rfl, rfl, s5.seq hA, b9G il, f i, rfl, ?_⟩
  cases c : f i with
  | false => exact iteF ⟨s5, nxt false (by rw [c]; rfl)⟩
  | true => exact iteT ⟨_, rfl, _, rfl, _, _, rfl, rfl, s5, nxt _ (by rw [c]; rfl)⟩
 ·have nG := New.mk0 (o := HO.lst ys) hf
  generalize upd G r (HO.lst ys) = G' at nG ⊢
  refine q r G' (s.trans nG.same) (s.free hf) ?_
  rw [nG.here, e, ll]
end
end K
namespace K
open PySem L2 Lw Bg
theorem b9H {α : Type} {R : α -> α -> Prop} : ∀ {l : List α}, l.Pairwise R -> ∀ {a b : α}, a ∈ l -> b ∈ l -> a = b \/ R a b \/ R b a
 | [], _, _, _, h, _ => absurd h List.not_mem_nil
 | x :: l, h, a, b, ha, hb => by
  obtain ⟨h1, h2⟩ := List.pairwise_cons.mp h
  rcases List.mem_cons.mp ha with e1 | ha1
  ·rcases List.mem_cons.mp hb with e2 | hb1
   ·exact .inl (e1.trans e2.symm)
   ·rw [e1]; exact .inr (.inl (h1 b hb1))
  ·rcases List.mem_cons.mp hb with e2 | hb1
   ·rw [e2]; exact .inr (.inr (h1 a ha1))
   ·exact b9H h2 ha1 hb1
theorem a9H {ts : List ζζ} {p : List Nat} {T : St'} (hT : ∀ x ∈ p, T x) {x y : Nat} (hx : x ∈ p) (h : PathT ts p x y) : y ∈ p -> Rc ts T x y := by
 induction h with
 | one t => exact fun hy => .step (.refl (hT x hx)) t (hT _ hy)
 | step _ m t ih => exact fun hy => .step (ih m) t (hT _ hy)
theorem b2B {ts : List ζζ} {p : List Nat} (h : a4A ts p) : JnM ts (a0Q p) := by
 have mb : ∀ u, bitP (a0Q p) u ↔ u ∈ p := fun u => by
  show (a0Q p).testBit u = true ↔ _
  rw [a1S, decide_eq_true_iff]
 obtain ⟨ne, co⟩ := h
 obtain ⟨x, r, e⟩ := List.exists_cons_of_ne_nil ne
 have xp : x ∈ p := by rw [e]; exact List.mem_cons_self
 refine ⟨x, (mb x).mpr xp, fun y hy => ?_⟩
 have yp := (mb y).mp hy
 rcases co x xp y yp with c | c
 ·rw [<- c]; exact .refl ((mb x).mpr xp)
 ·exact a9H (fun u hu => (mb u).mpr hu) xp c yp
theorem b4R {ts : List ζζ} {p q : List Nat} (h : Touch ts p q) : TcM ts (a0Q p) (a0Q q) := by
 obtain ⟨y, hy, x, hx, e⟩ := h
 refine ⟨x, y, ?_, ?_, e⟩
 ·show (a0Q p).testBit x = true
  rw [a1S]; exact decide_eq_true hx
 ·show (a0Q q).testBit y = true
  rw [a1S]; exact decide_eq_true hy
theorem a9Z {ts : List ζζ} {ls : List Nat} {ps : List (List Nat)} {T : St'} (hT : ∀ x, x ∈ ls ↔ T x) (PO : Pcs ts ls ps) {p : List Nat} (hp : p ∈ ps) : Comp ts T (bitP (a0Q p)) := by
 have mb : ∀ u, bitP (a0Q p) u ↔ u ∈ p := fun u => by
  show (a0Q p).testBit u = true ↔ _
  rw [a1S, decide_eq_true_iff]
 obtain ⟨x, r, e⟩ := List.exists_cons_of_ne_nil (PO.ne p hp)
 have xp : x ∈ p := by rw [e]; exact List.mem_cons_self
 refine Comp.of ((mb x).mpr xp) (fun y hy => (hT y).mp ((PO.sub p hp).subset ((mb y).mp hy))) (fun y hy => ?_) fun y z hy t hz => ?_
 ·have yp := (mb y).mp hy
  rcases PO.con p hp x xp y yp with c | c
  ·rw [<- c]; exact .refl ((mb x).mpr xp)
  ·exact a9H (fun u hu => (mb u).mpr hu) xp c yp
 ·refine (mb z).mpr ?_
  have zl := (hT z).mpr hz
  obtain ⟨q, hq, zq⟩ := PO.all z zl
  have yp := (mb y).mp hy
  rcases b9H PO.apart hp hq with c | c | c
  ·rw [c]; exact zq
  ·rw [c y yp z zq] at t; cases t
  ·have := c z zq y yp
   rw [a1J t] at this; cases this
theorem c1U {ts : List ζζ} {ls : List Nat} {ps : List (List Nat)} {T C : St'} (hT : ∀ x, x ∈ ls ↔ T x) (PO : Pcs ts ls ps) (hC : Comp ts T C) : ∃ p ∈ ps, ∀ u, bitP (a0Q p) u ↔ C u := by
 obtain ⟨x, cx⟩ := hC.ne
 obtain ⟨p, hp, xp⟩ := PO.all x ((hT x).mpr (hC.sub cx))
 have cp := a9Z hT PO hp
 have bx : bitP (a0Q p) x := by
  show (a0Q p).testBit x = true
  rw [a1S]; exact decide_eq_true xp
 exact ⟨p, hp, fun u => ⟨fun hu => hC.all cx ((cp.con bx hu).mono fun w hw => cp.sub hw), fun hu => cp.all bx ((hC.con cx hu).mono fun w hw => hC.sub hw)⟩⟩
def b6B (n k : Nat) (B : List Nat) (f : Nat -> Bool) : Prop := ∀ m, m < 2 ^ n -> (f m = true ↔ k < popF m /\ CvM B (bitP m))
theorem c5C (n : Nat) (ts : List ζζ) (S v : Nat) : bagN n ts S v < 2 ^ n := by
 unfold bagN
 refine Nat.lt_pow_two_of_testBit _ fun i hi => ?_
 rw [a2D, decide_eq_false (by omega)]; rfl
theorem b4S {n k : Nat} {ts : List ζζ} {B : List Nat} {f : Nat -> Bool} (n10 : n <= 10) (hf : b6B n k B f) (S v : Nat) : a6U n ts ((List.range (2 ^ n)).map f) S v ↔ a2H n ts (AB n k B) S v := by
 have bl := c5C n ts S v
 unfold a6U a2H AB
 rw [a5L n10 bl, τα, List.getElem?_map, List.getElem?_range bl]
 show f (bagN n ts S v) = false ↔ _
 constructor
 ·intro h l c
  rw [(hf _ bl).mpr ⟨l, c⟩] at h
  cases h
 ·intro h
  cases c : f (bagN n ts S v) with
  | false => rfl
  | true =>
   obtain ⟨a, b⟩ := (hf _ bl).mp c
   exact absurd b (h a)
theorem a7G {n k : Nat} {ts : List ζζ} {B : List Nat} {f : Nat -> Bool} (n10 : n <= 10) (hf : b6B n k B f) {S : Nat} {os : List Nat} : FreeP n (a6U n ts ((List.range (2 ^ n)).map f)) S os ↔ FreeP n (a2H n ts (AB n k B)) S os :=
 ⟨fun h => h.weak fun S v _ _ _ g => (b4S n10 hf S v).mp g, fun h => h.weak fun S v _ _ _ g => (b4S n10 hf S v).mpr g⟩
theorem b9I {B : List Nat} {p m : Nat} : CvM (p :: B) (bitP m) ↔ CvM B (bitP m) /\ m &&& p ≠ 0 := by
 have e : m &&& p ≠ 0 ↔ ∃ x, bitP p x /\ bitP m x := by
  rw [Ne, and_zero]
  exact ⟨fun h => Classical.byContradiction fun c => h fun ⟨u, a, b⟩ => c ⟨u, b, a⟩, fun ⟨x, a, b⟩ h => h ⟨x, b, a⟩⟩
 rw [e]
 constructor
 ·exact fun h => ⟨fun b hb => h b (List.mem_cons_of_mem _ hb), h p List.mem_cons_self⟩
 ·rintro ⟨h1, h2⟩ b hb
  rcases List.mem_cons.mp hb with c | hb
  ·rw [c]; exact h2
  ·exact h1 b hb
theorem b4T {n k p : Nat} {B : List Nat} {f : Nat -> Bool} (hf : b6B n k B f) : b6B n k (p :: B) (a4C f p) := fun m ml => by
 unfold a4C
 rw [Bool.and_eq_true, hf m ml, decide_eq_true_iff, b9I]
 exact ⟨fun h => ⟨h.1.1, h.1.2, h.2⟩, fun h => ⟨⟨h.1, h.2.1⟩, h.2.2⟩⟩
end K
namespace K
open PySem L2 Lw Bg
theorem b6C (lf p : List Nat) : b1J (a3A lf) (a3A p) = a3A (lf.filter fun x => !decide (x ∈ p)) := by
 unfold b1J a3A
 rw [List.filter_map]
 refine congrArg _ (List.filter_congr fun x _ => ?_)
 show (!decide ((x : Int) ∈ p.map fun (y : Nat) => (y : Int))) = _
 rw [show decide ((x : Int) ∈ p.map fun (y : Nat) => (y : Int)) = decide (x ∈ p) from decide_eq_decide.mpr (by
  rw [List.mem_map]
  constructor
  ·rintro ⟨y, hy, e⟩
   have : y = x := by omega
   rw [<- this]; exact hy
  ·exact fun h => ⟨x, h, rfl⟩)]
abbrev a8E : Stmt := top 36
theorem sc_next_part : FnScope ["graph", "small", "bags", "barred", "rest", "found", "part"] ["graph", "small", "bags", "barred"] (a0F a8E) := ⟨rfl, rfl, rfl, by decide +kernel, rfl, by decide +kernel, by decide +kernel⟩
theorem c1V (xs : List V) : cutV xs none (some (-1)) = xs.take (xs.length - 1) := by
 unfold cutV
 have e : HT.sIx xs.length xs.length (some (-1)) = xs.length - 1 := by
  show (if (-1 : Int) < 0 then (-1 + (xs.length : Int)).toNat else min (-1 : Int).toNat xs.length) = xs.length - 1
  rw [if_pos (by decide)]
  omega
 rw [e, show HT.sIx xs.length 0 none = 0 from rfl, List.drop_zero, Nat.sub_zero]
theorem c2X {ts : List ζζ} {n : Nat} (ok : ∀ t ∈ ts, 0 <= t.1 /\ t.1 < t.2 /\ t.2 < (n : Int)) {a b : Nat} (h : tieT ts a b = true) : b < n := by
 unfold tieT at h
 rw [Bool.or_eq_true, decide_eq_true_iff, decide_eq_true_iff] at h
 rcases h with h | h
 ·have := ok _ h
  omega
 ·have := ok _ h
  omega
def c5D (K : Φρ) : Sp := fun vs H Q _ => ∃ (g : V) (n k X : Nat) (ts : List ζζ) (p pb : Addr) (qs : List Addr) (f : Nat -> Bool) (B : List Nat), vs = [g, .int (X : Int), .ref p, .ref pb] /\ GraphV K H g n ts /\ (∀ t ∈ ts, 0 <= t.1 /\ t.1 < t.2 /\ t.2 < (n : Int)) /\ n <= 10 /\ 0 < n /\ ts.length <= 100 /\ X < 2 ^ n /\
 H p = some (.lst (qs.map V.ref)) /\ qs.length = 2 ^ n /\ (∀ (g : Nat) q, qs[g]? = some q -> BagQ n ts H q g) /\ SqL K H pb (cvL (2 ^ n) f) /\ b6B n k B f /\ FamM n ts B /\ (∀ os, ¬ FreeP n (a2H n ts (AB n k B)) (2 ^ n - 1) os) /\ popF X <= k /\
 ∀ cm H', Same H H' -> Comp ts (fun x => x < n /\ ¬ bitP X x) (bitP cm) -> cm < 2 ^ n -> (∀ os, ¬ FreeP n (a2H n ts (AB n k (cm :: B))) (2 ^ n - 1) os) -> Q (.int ((cm : Nat) : Int)) H'
theorem BagQ.same {n : Nat} {ts : List ζζ} {H H' : Hp} {q : Addr} {g : Nat} (h : BagQ n ts H q g) (s : Same H H') : BagQ n ts H' q g := by
 obtain ⟨ms, S, h1, h2⟩ := h
 exact ⟨ms, S, s _ _ h1, h2⟩
section
variable {P : Program} {w : World} {K : Φρ} {mg : Str -> Option Value} {base : Heap}
abbrev DZ34 (K : PySem.W.Frag) (mg : Str -> Option Value) := Dn K mg "next_part" a8E ["graph", "small", "bags", "barred"]
set_option maxHeartbeats 8000000 in
theorem b2C (B : Bl mg) (Bs : mg "sum" = none) (dZ26 : DZ26 K mg) (dZ23 : DZ23 K mg) (dZ15 : DZ15 K mg) (dZ27 : DZ27 K mg) (dZ30 : DZ30 K mg) (dZ13 : DZ13 K mg) (dZ38 : DZ38 K mg) (dZ35 : DZ35 K mg) (dZ36 : DZ36 K mg) (dZ31 : DZ31 K mg) (dZ37 : DZ37 K mg) (dZ21 : DZ21 K mg) (dZ18 : DZ18 K mg) (dZ34 : DZ34 K mg) : FnOk P w K mg base CX0 7 dZ34.f dZ34.fd ["graph", "small", "bags", "barred"] (c5D K) := by
 have gZ36 : FnOk P w K mg base CX0 6 _ _ _ _ := b1W B dZ26 dZ23 dZ15 dZ27 dZ30 dZ13 dZ38 dZ35 dZ36
 have gZ30 : FnOk P w K mg base CX0 6 _ _ _ _ := (b3H B dZ30).mono (by decide)
 have gZ31 : FnOk P w K mg base CX0 6 _ _ _ _ := (a6A B Bs dZ31).mono (by decide)
 have gZ37 : FnOk P w K mg base CX0 6 _ _ _ _ := (a6M B dZ37).mono (by decide)
 have gZ21 : FnOk P w K mg base CX0 6 _ _ _ _ := (a5E B dZ21).mono (by decide)
 have gZ18 : FnOk P w K mg base CX0 6 _ _ _ _ := (a4O B dZ18).mono (by decide)
 refine dZ34.F.ok sc_next_part (fun vs H Q E h => ?_) (fun cdv A outer s H vs Q E hr h => ?_)
 ·obtain ⟨g, n, k, X, ts, p, pb, qs, f, B', rfl, _⟩ := h
  rfl
 obtain ⟨g, n, k, X, ts, p, pb, qs, f, B', rfl, hG, okt, n10, n0, l100, Xl, hp, lq, bq, hb, bar, F, no, Xk, q⟩ := h
 obtain ⟨pg, ta, rfl, hP, hT⟩ := id hG
 have X10 : X < 2 ^ 10 := Nat.lt_of_lt_of_le Xl (Nat.pow_le_pow_right (by decide) n10)
 have p10 : 2 ^ n <= 1024 := Nat.pow_le_pow_right (show 0 < 2 by decide) n10
 have p0 : 0 < 2 ^ n := Nat.pow_pos (by decide)
 refine ⟨_, (a0B (a0M (i := 4) sc_next_part.nd rfl (Or.inl rfl) (a0G gZ30 hr rfl dZ30.m dZ30.F.kp dZ30.b .nil a0U (a0A (b4G rfl B.list B.range (a0A (a1D (a2A (K := K) rfl) (pv 0) a0E (fun _ _ => rfl)) a0C)) (a0A (a0G gZ37 hr rfl dZ37.m dZ37.F.kp dZ37.b .nil a0U (a0A (pv 1) a0C)) a0C))))
   (a0B (a1W (i := 5) ["piece"] [none] sc_next_part.nd rfl rfl (by kernel_rfl) rfl (a0R (K := K) rfl (a0G gZ36 hr rfl dZ36.m dZ36.F.kp dZ36.b .nil a0U (a0A (pv 0) (a0A (pv 4) a0C)))) (fun _ _ _ _ _ => (a0H (i := 0) (show (["piece"] : List Str).Nodup by decide +kernel) rfl (Or.inl rfl))) (fun _ _ _ _ _ => a1G) (fun _ _ _ _ _ => (a0G gZ31 hr rfl dZ31.m dZ31.F.kp dZ31.b .nil a0U (a0A (pv 0) a0C))) (by rfl))
   (a0B (a1I PassesOwn.never rfl (a0R (K := K) rfl (a6Y (a7B (K := K) rfl) (pv 5) a9J (a9K (b0H a6E a0E)))) (a0H (i := 6) sc_next_part.nd rfl (Or.inl rfl))
   (a0D (a1Q (a0N c6H (a0G gZ21 hr rfl dZ21.m dZ21.F.kp dZ21.b .nil a0U (a0A (pv 2) (a0A (a0G gZ18 hr rfl dZ18.m dZ18.F.kp dZ18.b .nil a0U (a0A (pv 3) (a0A (pv 6) a0C))) (a0A (a0K a3Q (a0I (a0S (K := K) rfl) rfl B.len (by decide +kernel) (a0A (pv 2) a0C)) a0E) a0C)))) a3S (a0W _))
   (a0D (a0O (pv 6)))
   a0V)))
   (a0D (a0O (a1D (a0P (K := K) rfl) (pv 5) (b0H a6E a0E) (fun _ _ => rfl))))))), ?_⟩
 refine ⟨_, rfl, pg, _, _, _, rfl, rfl, hP, rfl, n, rfl, by omega, fun p1 H1 n1 => ?_⟩
 refine ⟨_, rfl, X, rfl, X10, fun H2 p3 H3 s2 n3 => ?_⟩
 have nk : ∀ {H' : Hp} {a : Addr} {l : List Nat}, SqL K H' a (natV l) -> SqL K H' a ((a3A l).map V.int) := fun {H' a l} h => by
  rw [a0Y] at h
  exact h
 have s13 := s2.trans n3.same
 refine ⟨p1, p3, _, a3A (a0L X), rfl, nk (SqL.of (s13 _ _ n1.here)), nk (SqL.of n3.here), by unfold a3A; rw [List.length_map, List.length_range]; omega, fun H4 p5 H5 s4 n5 => ?_⟩
 obtain ⟨ls, els⟩ : ∃ ls, ls = (List.range n).filter fun x => !decide (x ∈ a0L X) := ⟨_, rfl⟩
 rw [b6C, <- els, show (a3A ls).map V.int = natV ls by rw [a0Y]; rfl] at n5
 have s05 := n1.same.trans (s13.trans (s4.trans n5.same))
 have mem : ∀ x, x ∈ ls ↔ x < n /\ ¬ bitP X x := fun x => by
  rw [els, List.mem_filter, List.mem_range]
  refine and_congr_right fun _ => ?_
  rw [show (!decide (x ∈ a0L X)) = decide (¬ x ∈ a0L X) by rw [decide_not], decide_eq_true_iff]
  exact not_congr (a1L X10)
 have upl : ls.Pairwise (· < ·) := by rw [els]; exact List.pairwise_lt_range.filter _
 refine ⟨_, rfl, _, rfl, .ref pg, n, ts, p5, ls, rfl, hG.same s05, okt, n10, l100, n5.here, upl, fun x hx => ((mem x).mp hx).1, fun r ps H6 s6 f6 hN PO hds => ?_⟩
 obtain ⟨qp, hr6, nr, fq, pq⟩ := hN
 have lqp := Paired.length pq
 have s06 := s05.trans s6
 have pin : ∀ p ∈ ps, ∀ v ∈ p, v < n := fun p hp v hv => ((mem v).mp ((PO.sub p hp).subset hv)).1
 have pup : ∀ p ∈ ps, p.Pairwise (· < ·) := fun p hp => upl.sublist (PO.sub p hp)
 refine ⟨r, rfl, ⟨_, SqL.of hr6⟩, ?_⟩
 have lps : ps.length <= n := by
  have nd : (ps.map fun p => p.headD 0).Nodup := by
   unfold List.Nodup
   rw [List.pairwise_map]
   exact List.Pairwise.imp (fun {a b} h => Nat.ne_of_lt h) hds
  have := a2K nd fun x hx => by
   obtain ⟨p, hp, rfl⟩ := List.mem_map.mp hx
   obtain ⟨a, b, e⟩ := List.exists_cons_of_ne_nil (PO.ne p hp)
   exact pin p hp _ (by rw [e]; exact List.mem_cons_self)
  rw [List.length_map] at this
  exact this
 refine a7O (fun j => (ps[j]?).bind fun p => some (.int ((a0Q p : Nat) : Int))) (SqL.of hr6) (by rw [List.length_map]; omega) (fun j x H7 N hj s7 hN => ?_) (fun H7 pf H8 s7 n8 => ?_)
 ·rw [List.getElem?_map] at hj
  obtain ⟨qj, hqj, rfl⟩ := Option.map_eq_some_iff.mp hj
  obtain ⟨p', hp', h6⟩ := a0X pq hqj
  have pm := List.mem_of_getElem? hp'
  have hN' : ∀ H', Same H6 H' -> N (some (V.int ((a0Q p' : Nat) : Int))) H' := fun H' s' => by
   have := hN H' s'
   rw [hp'] at this
   exact this
  exact ⟨_, rfl, qj, p', n, rfl, SqL.of (s7 _ _ h6), (pup p' pm).imp fun h => Nat.ne_of_lt h, pin p' pm, n10, fun H9 s9 => hN' H9 (s7.trans s9)⟩
 have e8 : (List.range (qp.map V.ref).length).filterMap (fun j => (ps[j]?).bind fun p => some (V.int ((a0Q p : Nat) : Int))) = natV (ps.map a0Q) := by
  rw [List.length_map, lqp, a3F, show (fun p => some (V.int ((a0Q p : Nat) : Int))) = fun p => some ((fun x : Nat => V.int (x : Int)) (a0Q p)) from rfl, a9G, a0Y, List.map_map, List.map_map, List.map_map]; rfl
 rw [e8] at n8
 have s08 := s06.trans (s7.trans n8.same)
 obtain ⟨C, hC, noC⟩ := c1R n10 n0 (fun a b t => c2X okt t) F no (by rw [a5L n10 Xl]; exact Xk)
 obtain ⟨p0', hp0, eC⟩ := c1U (fun x => mem x) PO hC
 have good0 := noC (a0Q p0') eC
 have mlt : ∀ p ∈ ps, a0Q p < 2 ^ n := fun p hp => a7F (pin p hp)
 have pne : ps ≠ [] := List.ne_nil_of_mem hp0
 have lnz : 0 < ps.length := List.length_pos_iff.mpr pne
 refine ⟨_, rfl, _, rfl, _, rfl, pf, _, rfl, SqL.of n8.here, fun pd H9 n9 => ?_⟩
 rw [show cutV (natV (ps.map a0Q)) none (some (-1)) = natV ((ps.take (ps.length - 1)).map a0Q) by rw [c1V, List.length_map, List.length_map, List.map_take]; unfold natV; rw [List.map_take]] at n9
 refine ⟨pd, rfl, ⟨_, SqL.of n9.here⟩, ?_⟩
 have s09 := s08.trans n9.same
 refine a2E (xs := natV ((ps.take (ps.length - 1)).map a0Q)) (fun i σ H' => (∃ pp : Option V, σ = [some (.ref pg), some (.int (X : Int)), some (.ref p), some (.ref pb), some (.ref p5), some (.ref pf), pp]) /\ Same H9 H' /\ ∀ j, j < i -> ∀ p', ps[j]? = some p' -> ∃ os, FreeP n (a2H n ts (AB n k (a0Q p' :: B'))) (2 ^ n - 1) os) ⟨⟨_, rfl⟩, Same.refl _, fun j hj => absurd hj (Nat.not_lt_zero _)⟩ (fun i σ H' _ ⟨_, s, _⟩ => SqL.of (s _ _ n9.here)) ?_ ?_
 ·rintro i x σ H10 hx ⟨⟨pp, rfl⟩, s10, done⟩
  rw [List.getElem?_map, List.getElem?_map] at hx
  obtain ⟨m, hm, rfl⟩ := Option.map_eq_some_iff.mp hx
  obtain ⟨pi, hpi, rfl⟩ := Option.map_eq_some_iff.mp hm
  have hpi' : ps[i]? = some pi := by
   have := List.getElem?_eq_some_iff.mp hpi
   rw [List.getElem?_take] at hpi
   split at hpi
   ·exact hpi
   ·cases hpi
  have pim := List.mem_of_getElem? hpi'
  have s010 := s09.trans s10
  refine ⟨_, rfl, _, rfl, _, rfl, pb, 2 ^ n, a0Q pi, f, rfl, s010.seq hb, p10, fun pa H11 s11 f11 h11 => ?_⟩
  have s011 := s010.trans s11
  refine ⟨_, rfl, p, _, rfl, .inl (SqL.of (s011 _ _ hp)), _, _, rfl, rfl, ?_⟩
  have eM : (((qs.map V.ref).length : Nat) : Int) - 1 = ((2 ^ n - 1 : Nat) : Int) := by
   rw [List.length_map, lq]; omega
  refine ⟨p, pa, qs, (List.range (2 ^ n)).map (a4C f (a0Q pi)), n, 2 ^ n - 1, ts, by dsimp only; rw [eM]; rfl, s011 _ _ hp, lq, n10, fun g q hq => (bq g q hq).same s011, SqL.of h11, by rw [List.length_map, List.length_range], by omega, fun r os H12 s12 f12 h12 fr => ?_, fun H12 s12 nof => ?_⟩
  ·refine ⟨rfl, _, rfl, iteF ⟨⟨_, rfl⟩, s10.trans (s11.trans s12), fun j hj p' hp' => ?_⟩⟩
   by_cases c : j = i
   ·subst c
    rw [hpi'] at hp'
    injection hp' with e
    rw [<- e]
    exact ⟨os, (a7G n10 (b4T bar)).mp fr⟩
   ·exact done j (by omega) p' hp'
  ·refine ⟨rfl, _, rfl, iteT ⟨_, rfl, q (a0Q pi) H12 (s011.trans s12) (a9Z (fun x => mem x) PO pim) (mlt pi pim) fun os fr => nof os ((a7G n10 (b4T bar)).mpr fr)⟩⟩
 ·rintro σ H10 ⟨⟨pp, rfl⟩, s10, done⟩
  rw [a0J, List.length_map, List.length_take, Nat.min_eq_left (by omega)] at done
  obtain ⟨pl, hpl⟩ : ∃ pl, ps[ps.length - 1]? = some pl := ⟨_, List.getElem?_eq_getElem (by omega)⟩
  have plm := List.mem_of_getElem? hpl
  have e0 : p0' = pl := by
   obtain ⟨j, hj⟩ := List.mem_iff_getElem?.mp hp0
   have jl := (List.getElem?_eq_some_iff.mp hj).1
   by_cases c : j < ps.length - 1
   ·obtain ⟨os, fr⟩ := done j c p0' hj
    exact absurd fr (good0 os)
   ·have : j = ps.length - 1 := by omega
    rw [this, hpl] at hj
    injection hj with e
    exact e.symm
  have at1 : atI (natV (ps.map a0Q)) (-1) = some (.int ((a0Q pl : Nat) : Int)) := c2U (j := ps.length - 1) (by rw [a0J, List.length_map]; omega) (by rw [List.getElem?_map, List.getElem?_map, hpl]; rfl)
  refine ⟨_, rfl, _, rfl, pf, _, _, _, rfl, rfl, SqL.of ((n9.same.trans s10) _ _ n8.here), at1, q (a0Q pl) H10 (s09.trans s10) (a9Z (fun x => mem x) PO plm) (mlt pl plm) (e0 ▸ good0)⟩
end
end K
namespace K
open PySem L2 Lw Bg
theorem c1W {n : Nat} {ts : List ζζ} {cs : List Int} (C : CostOk n ts cs) {S : Nat} (hS : S < 2 ^ n) {w : Int} (w1 : -1 <= w) : cs.getD S 0 <= w ↔ ∃ os, FreeP n (fun S v => (degF n ts S v : Int) <= w) S os := by
 constructor
 ·exact a8B C w S S (Nat.le_refl _) hS
 ·rintro ⟨os, h⟩
  obtain ⟨G, hG, l⟩ := c2T w1 h
  have := b4N C hG
  omega
theorem b2D {n v : Nat} (vn : v < n) {p : Nat -> Bool} (pv : p v = true) : (List.range n).countP p = (List.range n).countP (fun u => p u && !decide (u = v)) + 1 := by
 have go : ∀ l : List Nat, l.Nodup -> l.countP p = l.countP (fun u => p u && !decide (u = v)) + (if v ∈ l then 1 else 0) := fun l => by
  induction l with
  | nil => intro _; simp
  | cons x r ih =>
   intro nd
   obtain ⟨n1, n2⟩ := List.nodup_cons.mp nd
   rw [List.countP_cons, List.countP_cons, ih n2]
   by_cases c : x = v
   ·subst c
    rw [if_neg n1, if_pos List.mem_cons_self, pv]
    simp
   ·have e : (v ∈ x :: r) ↔ v ∈ r := by rw [List.mem_cons]; exact or_iff_right (Ne.symm c)
    rw [decide_eq_false c]
    simp only [e, Bool.not_false, Bool.and_true]
    omega
 rw [go _ List.nodup_range, if_pos (List.mem_range.mpr vn)]
theorem c1X {n : Nat} {ts : List ζζ} {S v : Nat} (n10 : n <= 10) (Sl : S < 2 ^ n) (vn : v < n) (vS : S.testBit v = false) : a1A n (bitP (bagN n ts S v)) = degF n ts S v + 1 := by
 obtain ⟨pn, pl, pm⟩ := a2Z n10 Sl
 have R := a7Z (ts := ts) pn pl
 have hv : v ∉ a0L S := fun z => by have := (pm v).mp z; rw [vS] at this; cases this
 have e : a1A n (bitP (bagN n ts S v)) = (List.range n).countP (runR n ts (a0L S) v) := by
  rw [a4B (f := (bagN n ts S v).testBit) fun x => Iff.rfl]
  refine List.countP_congr fun x hx => ?_
  unfold bagN
  rw [a2D, decide_eq_true (List.mem_range.mp hx), Bool.true_and]
 rw [e, b2D vn ((R.path v v vn vn hv hv).mpr (.inl rfl))]
 unfold degF a6O
 rw [List.countP_eq_length_filter]
theorem c5E : ∀ k, k < 11 -> (List.range 1024).countP (fun m => decide (popF m = k)) <= 252 := by decide +kernel
theorem b9J {n k : Nat} (n10 : n <= 10) : (List.range (2 ^ n)).countP (fun m => decide (popF m = k)) <= 252 := by
 have p10 : 2 ^ n <= 1024 := Nat.pow_le_pow_right (show 0 < 2 by decide) n10
 have l1 : (List.range (2 ^ n)).countP (fun m => decide (popF m = k)) <= (List.range 1024).countP (fun m => decide (popF m = k)) := (List.range_sublist.mpr p10).countP_le
 by_cases c : k < 11
 ·exact Nat.le_trans l1 (c5E k c)
 ·have z : (List.range 1024).countP (fun m => decide (popF m = k)) = 0 := by
   rw [List.countP_eq_zero]
   intro m _ h
   have := of_decide_eq_true h
   have l : popF m <= 10 := by
    unfold popF a0L
    exact Nat.le_trans (List.length_filter_le _ _) (by rw [List.length_range]; exact Nat.le_refl _)
   omega
  omega
theorem b4U {n k : Nat} (kn : k <= n) : ∀ (d m : Nat), m < 2 ^ n -> a1A n (bitP m) + d = k -> ∃ m', m' < 2 ^ n /\ a1A n (bitP m') = k /\ ∀ x, bitP m x -> bitP m' x
 | 0, m, ml, e => ⟨m, ml, by omega, fun x h => h⟩
 | d + 1, m, ml, e => by
  obtain ⟨x, xn, nx⟩ : ∃ x, x < n /\ ¬ bitP m x := Classical.byContradiction fun c => by
   have : a1A n (fun x => x < n) <= a1A n (bitP m) := a9X fun x xn _ => Classical.byContradiction fun z => c ⟨x, xn, z⟩
   have f : a1A n (fun x => x < n) = n := by
    rw [a4B (f := fun x => decide (x < n)) fun x => (decide_eq_true_iff).symm, List.countP_eq_length.mpr fun a ha => decide_eq_true (List.mem_range.mp ha), List.length_range]
   omega
  have ml' : (m ||| 2 ^ x) < 2 ^ n := Nat.or_lt_two_pow ml (Nat.pow_lt_pow_right (by decide) xn)
  have c1 : a1A n (bitP (m ||| 2 ^ x)) = a1A n (bitP m) + 1 := by
   rw [a4B (f := (m ||| 2 ^ x).testBit) fun x => Iff.rfl, a4B (f := m.testBit) fun x => Iff.rfl, b2D xn (or_bit.mpr (.inr rfl))]
   congr 1
   refine List.countP_congr fun u _ => ?_
   rw [Bool.and_eq_true, or_bit]
   constructor
   ·rintro ⟨h, ne⟩
    exact h.resolve_right (by simpa using ne)
   ·intro h
    exact ⟨.inl h, by simpa using fun z : u = x => nx (z ▸ h)⟩
  obtain ⟨m', a, b, c⟩ := b4U kn d _ ml' (by omega)
  exact ⟨m', a, b, fun u hu => c u (or_bit.mpr (.inl hu))⟩
open Classical in
theorem c5F {n k : Nat} (kn : k <= n) {Y : St'} (h : a1A n Y <= k) : ∃ m, m < 2 ^ n /\ a1A n (bitP m) = k /\ ∀ x, x < n -> Y x -> bitP m x := by
 have bit : ∀ x, bitP (a5Z (fun x => decide (Y x)) n) x ↔ x < n /\ Y x := fun x => by
  show (a5Z (fun x => decide (Y x)) n).testBit x = true ↔ _
  rw [a2D, Bool.and_eq_true, decide_eq_true_iff, decide_eq_true_iff]
 have ml : a5Z (fun x => decide (Y x)) n < 2 ^ n := by
  refine Nat.lt_pow_two_of_testBit _ fun i hi => ?_
  rw [a2D, decide_eq_false (by omega)]; rfl
 have le : a1A n (bitP (a5Z (fun x => decide (Y x)) n)) <= a1A n Y := a9X fun x _ hx => ((bit x).mp hx).2
 obtain ⟨m, a, b, c⟩ := b4U kn (k - a1A n (bitP (a5Z (fun x => decide (Y x)) n))) _ ml (by omega)
 exact ⟨m, a, b, fun x xn yx => c x ((bit x).mpr ⟨xn, yx⟩)⟩
theorem b4V {B B' : List Nat} (h : ∀ b, b ∈ B ↔ b ∈ B') {Y : St'} : CvM B Y ↔ CvM B' Y := ⟨fun c b hb => c b ((h b).mpr hb), fun c b hb => c b ((h b).mp hb)⟩
theorem c1Y {n k : Nat} {B B' : List Nat} (h : ∀ b, b ∈ B ↔ b ∈ B') : AB n k B = AB n k B' := funext fun Y => propext (imp_congr_right fun _ => not_congr (b4V h))
theorem b9K {n : Nat} {ts : List ζζ} {B B' : List Nat} (h : ∀ b, b ∈ B ↔ b ∈ B') (F : FamM n ts B) : FamM n ts B' := ⟨fun b hb => F.lt b ((h b).mpr hb), fun b hb => F.jn b ((h b).mpr hb), fun b hb c hc => F.tc b ((h b).mpr hb) c ((h c).mpr hc)⟩
theorem b4W {B : List Nat} {p b : Nat} : b ∈ p :: B ↔ b ∈ B ++ [p] := by
 rw [List.mem_cons, List.mem_append, List.mem_singleton]
 exact or_comm
def CovL (n : Nat) (B : List Nat) (f : Nat -> Bool) : Prop := ∀ m, m < 2 ^ n -> (f m = true ↔ CvM B (bitP m))
theorem b4X {n p : Nat} {B : List Nat} {f : Nat -> Bool} (h : CovL n B f) : CovL n (B ++ [p]) (a4C f p) := fun m ml => by
 unfold a4C
 rw [Bool.and_eq_true, h m ml, decide_eq_true_iff, <- b9I]
 exact b4V fun b => b4W
theorem b9L {n k : Nat} {B : List Nat} {f : Nat -> Bool} {z : Int} (ez : z = (k : Int)) (h : CovL n B f) : b6B n k B fun m => f m && decide (z < (popF m : Int)) := fun m ml => by
 rw [Bool.and_eq_true, h m ml, decide_eq_true_iff, ez]
 exact ⟨fun c => ⟨by have := c.2; omega, c.1⟩, fun c => ⟨c.2, by have := c.1; omega⟩⟩
theorem c1Z {n k : Nat} {B : List Nat} {f : Nat -> Bool} (n10 : n <= 10) (kn : k <= n) (lt : ∀ b ∈ B, b < 2 ^ n) (h : CovL n B f) (no : ∀ m, m < 2 ^ n -> (popF m : Int) = (k : Int) -> f m = false) (Y : St') (c : CvM B Y) : k < a1A n Y := by
 refine Classical.byContradiction fun l => ?_
 obtain ⟨m, ml, e, s⟩ := c5F kn (Y := Y) (by omega)
 have := no m ml (by rw [<- a5L n10 ml, e])
 rw [(h m ml).mpr fun b hb => ?_] at this
 ·cases this
 ·obtain ⟨x, h1, h2⟩ := c b hb
  refine ⟨x, h1, s x (Classical.byContradiction fun z => ?_) h2⟩
  have := a1C (lt b hb) (show n <= x by omega)
  rw [show b.testBit x = true from h1] at this
  cases this
theorem c5G {n : Nat} {ts : List ζζ} {cs : List Int} (C : CostOk n ts cs) (n0 : 0 < n) (n10 : n <= 10) : ∃ k : Nat, cs.getD (2 ^ n - 1) 0 = (k : Int) /\ k < n := by
 have p0 : 0 < 2 ^ n := Nat.pow_pos (by decide)
 have g := b3I C (2 ^ n - 1) (2 ^ n - 1) (Nat.le_refl _) (by omega)
 have hi : cs.getD (2 ^ n - 1) 0 <= (n : Int) - 1 := by
  obtain ⟨os, h⟩ : ∃ os, FreeP n (fun S v => (degF n ts S v : Int) <= (n : Int) - 1) (2 ^ n - 1) os := by
   obtain ⟨S, os, f, e⟩ := a5H (A := fun _ => True) (C := fun x => x < n) (fun x hx => hx) (good := fun S v => (degF n ts S v : Int) <= (n : Int) - 1) _ 0 [] .nil (fun S' s1 s2 sl x cx nx => by
    have := c1X (ts := ts) n10 sl cx (Bool.eq_false_iff.mpr nx)
    have l : a1A n (bitP (bagN n ts S' x)) <= n := by
     unfold a1A
     exact Nat.le_trans List.countP_le_length (by rw [List.length_range]; exact Nat.le_refl _)
    omega) (Nat.le_refl _)
   have : S = 2 ^ n - 1 := b8R f.lt fun u un => (e u).mpr (.inr un)
   rw [this] at f
   exact ⟨os, f⟩
  exact (c1W C (by omega) (by omega)).mpr ⟨os, h⟩
 have lo : 0 <= cs.getD (2 ^ n - 1) 0 := by
  obtain ⟨v, h1, h2⟩ := C.ex (2 ^ n - 1) (by have : 2 <= 2 ^ n := Nat.le_self_pow (by omega) 2; omega) (by omega)
  omega
 exact ⟨(cs.getD (2 ^ n - 1) 0).toNat, by omega, by omega⟩
end K
namespace K
open PySem L2 Lw Bg
abbrev b9M : Stmt := top 32
theorem sc_grown : FnScope ["graph", "sets", "wide", "sizes", "bags", "parts", "covers", "part", "small", "order"] ["graph", "sets"] (a0F b9M) := ⟨rfl, rfl, rfl, by decide +kernel, rfl, by decide +kernel, by decide +kernel⟩
def ssM (ss : List (List Nat)) : List Nat := ss.map a0Q
structure GFam (n : Nat) (ts : List ζζ) (z : Int) (ss rs : List (List Nat)) (more : List Nat) : Prop where
 rows : rs = ss ++ more.map a0L
 fam : FamM n ts (ssM ss ++ more)
 nd : more.Nodup
 new : ∀ m ∈ more, m ∉ ssM ss
 few : more.length <= 252
 big : ∀ Y, CvM (ssM ss ++ more) Y -> z < (a1A n Y : Int)
structure SsOk (n : Nat) (ts : List ζζ) (ss : List (List Nat)) : Prop where
 ok : SetsOk n ss
 jn : ∀ p ∈ ss, a4A ts p
 tc : ∀ j k, j < k -> k < ss.length -> b2A ts ss j k
def b9N (K : Φρ) : Sp := fun vs H Q _ => ∃ (g : V) (n : Nat) (ts : List ζζ) (a : Addr) (ss : List (List Nat)), vs = [g, .ref a] /\ GraphV K H g n ts /\ (∀ t ∈ ts, 0 <= t.1 /\ t.1 < t.2 /\ t.2 < (n : Int)) /\ n <= 10 /\ ts.length <= 100 /\ b8X H a ss /\ SsOk n ts ss /\
 (∀ r rp rs more cs H', Same H H' -> H' r = some (.tup [.str "family", .ref rp]) -> PcsN H H' rp rs -> H rp = none -> CostOk n ts cs -> GFam n ts (cs.getD (2 ^ n - 1) 0) ss rs more -> Q (.ref r) H') /\
 ∀ r ro os cs k H', Same H H' -> H' r = some (.tup [.str "order", .ref ro]) -> H ro = none -> H' ro = some (.lst (natV os)) -> CostOk n ts cs -> 0 < n -> cs.getD (2 ^ n - 1) 0 = ((k : Nat) : Int) -> FreeP n (a2H n ts (AB n k (ssM ss))) (2 ^ n - 1) os -> Q (.ref r) H'
theorem c7V {n : Nat} {ts : List ζζ} {ss : List (List Nat)} (h : SsOk n ts ss) : FamM n ts (ssM ss) := by
 refine ⟨fun b hb => ?_, fun b hb => ?_, fun b hb c hc => ?_⟩
 ·obtain ⟨p, hp, rfl⟩ := List.mem_map.mp hb
  exact a7F (h.ok.lt p hp)
 ·obtain ⟨p, hp, rfl⟩ := List.mem_map.mp hb
  exact b2B (h.jn p hp)
 ·obtain ⟨p, hp, rfl⟩ := List.mem_map.mp hb
  obtain ⟨q, hq, rfl⟩ := List.mem_map.mp hc
  obtain ⟨i, hi⟩ := List.mem_iff_getElem?.mp hp
  obtain ⟨j, hj⟩ := List.mem_iff_getElem?.mp hq
  have il := (List.getElem?_eq_some_iff.mp hi).1
  have jl := (List.getElem?_eq_some_iff.mp hj).1
  have gi : ss.getD i [] = p := by rw [τα, hi]; rfl
  have gj : ss.getD j [] = q := by rw [τα, hj]; rfl
  rcases Nat.lt_trichotomy i j with c | c | c
  ·have := h.tc i j c jl
   unfold b2A at this
   rw [gi, gj] at this
   exact b4R this
  ·subst c
   rw [hi] at hj
   injection hj with e
   rw [<- e]
   exact (b2B (h.jn p hp)).tch
  ·have := h.tc j i c il
   unfold b2A at this
   rw [gi, gj] at this
   exact (b4R this).symm
theorem b3L {n : Nat} {p : List Nat} (n10 : n <= 10) (up : p.Pairwise (· < ·)) (lt : ∀ x ∈ p, x < n) : a0L (a0Q p) = p := by
 have l : a0Q p < 2 ^ 10 := Nat.lt_of_lt_of_le (a7F lt) (Nat.pow_le_pow_right (by decide) n10)
 refine List.Perm.eq_of_pairwise (le := (· < ·)) (fun a b _ _ h1 h2 => by omega) (List.pairwise_lt_range.filter _) up ((List.perm_ext_iff_of_nodup (List.nodup_range.sublist List.filter_sublist) (up.imp fun h => Nat.ne_of_lt h)).mpr fun x => ?_)
 rw [show (x ∈ List.filter (a0Q p).testBit (List.range 10)) ↔ x ∈ a0L (a0Q p) from Iff.rfl, a1L l, a1S, decide_eq_true_iff]
def cntK (n : Nat) (z : Int) (f : Nat -> Bool) : Nat := (List.range (2 ^ n)).countP fun m => decide ((popF m : Int) = z) && f m
theorem c5H {n : Nat} (n10 : n <= 10) (z : Int) (f : Nat -> Bool) : cntK n z f <= 252 := by
 unfold cntK
 refine Nat.le_trans (List.countP_mono_left (q := fun m => decide (popF m = z.toNat)) fun m _ h => ?_) (b9J n10)
 rw [Bool.and_eq_true] at h
 have := of_decide_eq_true h.1
 exact decide_eq_true (by omega)
theorem c2A {n p X : Nat} {z : Int} {f : Nat -> Bool} (Xl : X < 2 ^ n) (e : (popF X : Int) = z) (h : f X = true) (ms : X &&& p = 0) : cntK n z (a4C f p) < cntK n z f := by
 unfold cntK
 refine Srt.countP_lt (fun m hm => ?_) (List.mem_range.mpr Xl) ?_ ?_
 ·unfold a4C at hm
  rw [Bool.and_eq_true, Bool.and_eq_true] at hm
  rw [Bool.and_eq_true]
  exact ⟨hm.1, hm.2.1⟩
 ·unfold a4C
  rw [ms]
  simp
 ·rw [decide_eq_true e, h]; rfl
def b2E (n : Nat) (z : Int) (f : Nat -> Bool) (v : V) (nf : Prop) : Prop := (v = .non /\ ∀ m, m < 2 ^ n -> (popF m : Int) = z -> f m = false) \/ ∃ X : Nat, v = .int (X : Int) /\ X < 2 ^ n /\ (popF X : Int) = z /\ f X = true /\ nf
section
variable {P : Program} {w : World} {K : Φρ} {mg : Str -> Option Value} {base : Heap}
abbrev DZ22 (K : PySem.W.Frag) (mg : Str -> Option Value) := Dn K mg "grown" b9M ["graph", "sets"]
set_option maxHeartbeats 8000000 in
theorem c2B (B : Bl mg) (Bs : mg "sum" = none) (dZ26 : DZ26 K mg) (dZ23 : DZ23 K mg) (dZ25 : DZ25 K mg) (dZ15 : DZ15 K mg) (dZ27 : DZ27 K mg) (dZ30 : DZ30 K mg) (dZ13 : DZ13 K mg) (dZ24 : DZ24 K mg) (dZ36 : DZ36 K mg) (dZ35 : DZ35 K mg) (dZ38 : DZ38 K mg) (dZ31 : DZ31 K mg) (dZ37 : DZ37 K mg) (dZ32 : DZ32 K mg) (dZ19 : DZ19 K mg) (dZ40 : DZ40 K mg) (dZ12 : DZ12 K mg) (dZ16 : DZ16 K mg) (dZ17 : DZ17 K mg) (dZ21 : DZ21 K mg) (dZ29 : DZ29 K mg) (dZ20 : DZ20 K mg) (dZ33 : DZ33 K mg) (dZ18 : DZ18 K mg) (dZ39 : DZ39 K mg) (dZ14 : DZ14 K mg) (dZ34 : DZ34 K mg) (dZ22 : DZ22 K mg) : FnOk P w K mg base CX0 9 dZ22.f dZ22.fd ["graph", "sets"] (b9N K) := by
 have gZ20 : FnOk P w K mg base CX0 8 _ _ _ _ := c4Z B Bs dZ26 dZ23 dZ25 dZ15 dZ27 dZ30 dZ13 dZ24 dZ36 dZ35 dZ38 dZ31 dZ19 dZ20 dZ33
 have gZ29 : FnOk P w K mg base CX0 8 _ _ _ _ := (a4N B dZ32 dZ19 dZ40 dZ12 dZ17 dZ16 dZ29).mono (by decide)
 have gZ32 : FnOk P w K mg base CX0 8 _ _ _ _ := (a5B B dZ32).mono (by decide)
 have gZ12 : FnOk P w K mg base CX0 8 _ _ _ _ := (a8A B dZ19 dZ40 dZ12).mono (by decide)
 have gZ31 : FnOk P w K mg base CX0 8 _ _ _ _ := (a6A B Bs dZ31).mono (by decide)
 have gZ37 : FnOk P w K mg base CX0 8 _ _ _ _ := (a6M B dZ37).mono (by decide)
 have gZ21 : FnOk P w K mg base CX0 8 _ _ _ _ := (a5E B dZ21).mono (by decide)
 have gZ18 : FnOk P w K mg base CX0 8 _ _ _ _ := (a4O B dZ18).mono (by decide)
 have gZ39 : FnOk P w K mg base CX0 8 _ _ _ _ := (a8Q B dZ39).mono (by decide)
 have gZ14 : FnOk P w K mg base CX0 8 _ _ _ _ := (a8R B dZ14).mono (by decide)
 have gZ34 : FnOk P w K mg base CX0 8 _ _ _ _ := (b2C B Bs dZ26 dZ23 dZ15 dZ27 dZ30 dZ13 dZ38 dZ35 dZ36 dZ31 dZ37 dZ21 dZ18 dZ34).mono (by decide)
 refine dZ22.F.ok sc_grown (fun vs H Q E h => ?_) (fun cdv A outer s H vs Q E hr h => ?_)
 ·obtain ⟨g, n, ts, a, ss, rfl, _⟩ := h
  rfl
 obtain ⟨g, n, ts, a, ss, rfl, hG, okt, n10, l100, hA, SO, qF, qO⟩ := h
 obtain ⟨pg, ta, rfl, hP, hT⟩ := id hG
 have p10 : 2 ^ n <= 1024 := Nat.pow_le_pow_right (show 0 < 2 by decide) n10
 have p0 : 0 < 2 ^ n := Nat.pow_pos (by decide)
 refine ⟨_, (a0B (a1Q (a0N a5S (a0G gZ20 hr rfl dZ20.m dZ20.F.kp dZ20.b .nil a0U (a0A (pv 0) (a0A (pv 1) a0C))) a3S (a0W _))
   (a0D b3U)
   a0V)
   (a0B (a0M (i := 2) sc_grown.nd rfl (Or.inl rfl) (a0G gZ29 hr rfl dZ29.m dZ29.F.kp dZ29.b .nil a0U (a0A (pv 0) a0C)))
   (a0B (a0M (i := 3) sc_grown.nd rfl (Or.inl rfl) (a0G gZ32 hr rfl dZ32.m dZ32.F.kp dZ32.b .nil a0U (a0A (a1D (a2A (K := K) rfl) (pv 0) a0E (fun _ _ => rfl)) a0C)))
   (a0B (a0M (i := 4) sc_grown.nd rfl (Or.inl rfl) (a0G gZ12 hr rfl dZ12.m dZ12.F.kp dZ12.b .nil a0U (a0A (pv 0) a0C)))
   (a0B (a1W (i := 5) ["places"] [none] sc_grown.nd rfl rfl (by kernel_rfl) rfl (a0R (K := K) rfl (pv 1)) (fun _ _ _ _ _ => (a0H (i := 0) (show (["places"] : List Str).Nodup by decide +kernel) rfl (Or.inl rfl))) (fun _ _ _ _ _ => a1G) (fun _ _ _ _ _ => (a0G gZ31 hr rfl dZ31.m dZ31.F.kp dZ31.b .nil a0U (a0A (pv 0) a0C))) (by rfl))
   (a0B (a1W (i := 6) ["mask"] [none] sc_grown.nd rfl rfl (by kernel_rfl) rfl (a0R (K := K) rfl (pv 3)) (fun _ _ _ _ _ => (a0H (i := 0) (show (["mask"] : List Str).Nodup by decide +kernel) rfl (Or.inl rfl))) (fun _ _ _ _ _ => a1G) (fun _ _ _ _ _ => a4V) (by rfl))
   (a0B (a1I PassesOwn.never rfl (a0R (K := K) rfl (pv 5)) (a0H (i := 7) sc_grown.nd rfl (Or.inl rfl))
   (a0D (a0M (i := 6) sc_grown.nd rfl (Or.inl rfl) (a0G gZ18 hr rfl dZ18.m dZ18.F.kp dZ18.b .nil a0U (a0A (pv 6) (a0A (pv 7) a0C))))))
   (a0B (a0M (i := 8) sc_grown.nd rfl (Or.inl rfl) (a0G gZ39 hr rfl dZ39.m dZ39.F.kp dZ39.b .nil a0U (a0A (pv 6) (a0A (pv 3) (a0A (pv 2) a0C)))))
   (a5V (a1Q (a0N a5S (pv 8) a3S (a0W _))
   (a0B (a0M (i := 9) sc_grown.nd rfl (Or.inl rfl) (a0G gZ21 hr rfl dZ21.m dZ21.F.kp dZ21.b .nil a0U (a0A (pv 4) (a0A (a0G gZ14 hr rfl dZ14.m dZ14.F.kp dZ14.b .nil a0U (a0A (pv 6) (a0A (pv 3) (a0A (pv 2) a0C)))) (a0A (a0K a3Q (a0I (a0S (K := K) rfl) rfl B.len (by decide +kernel) (a0A (pv 4) a0C)) a0E) a0C)))))
   (a0D (a1Q (a0N a5S (pv 9) a3S (a0W _))
   (a0D (a0O (a3K (a0A a8T (a0A (pv 9) a0C)))))
   a0V)))
   a0V)
   (a0B (a6X PassesOwn.never (a0N a5S (pv 8) a3S (a0W _))
   (a0B (a0M (i := 7) sc_grown.nd rfl (Or.inl rfl) (a0G gZ34 hr rfl dZ34.m dZ34.F.kp dZ34.b .nil a0U (a0A (pv 0) (a0A (pv 8) (a0A (pv 4) (a0A (a0G gZ14 hr rfl dZ14.m dZ14.F.kp dZ14.b .nil a0U (a0A (pv 6) (a0A (pv 3) (a0A (pv 2) a0C)))) a0C))))))
   (a0B (a2O (a3R (K := K) rfl PySem.F.plainAttrs_list PySem.F.slot_list_append PySem.F.type_list_append a1X (pv 5) (a0A (pv 7) a0C)))
   (a0B (a0M (i := 6) sc_grown.nd rfl (Or.inl rfl) (a0G gZ18 hr rfl dZ18.m dZ18.F.kp dZ18.b .nil a0U (a0A (pv 6) (a0A (pv 7) a0C))))
   (a0D (a0M (i := 8) sc_grown.nd rfl (Or.inl rfl) (a0G gZ39 hr rfl dZ39.m dZ39.F.kp dZ39.b .nil a0U (a0A (pv 6) (a0A (pv 3) (a0A (pv 2) a0C))))))))))
   (a0D (a0O (a3K (a0A a8T (a0A (a3W ["part"] [none]  (by kernel_rfl) rfl (a0R (K := K) rfl (pv 5)) (fun _ _ _ _ _ => (a0H (i := 0) (show (["part"] : List Str).Nodup by decide +kernel) rfl (Or.inl rfl))) (fun _ _ _ _ _ => a1G) (fun _ _ _ _ _ => (a0G gZ37 hr rfl dZ37.m dZ37.F.kp dZ37.b .nil a0U (a0A (pv 0) a0C)))) a0C))))))))))))))), ?_⟩
 refine ⟨_, rfl, _, rfl, .ref pg, n, ts, a, ss, rfl, hG, okt, n10, l100, hA, SO.ok, fun v r H1 s1 fv isf => ?_⟩
 obtain rfl : r = .ok := b8Z isf ⟨fun i hi => SO.jn _ (by rw [τα, List.getElem?_eq_getElem hi]; exact List.getElem_mem hi), SO.tc⟩
 obtain rfl : v = .non := fv
 refine ⟨rfl, _, rfl, iteF ?_⟩
 refine ⟨_, rfl, .ref pg, n, ts, rfl, hG.same s1, okt, n10, fun cs H2 s2 C => ?_⟩
 have s02 := s1.trans s2
 generalize hz : cs.getD (2 ^ n - 1) 0 = z
 refine ⟨_, rfl, pg, _, _, _, rfl, rfl, s02.tupq hP, rfl, n, rfl, n10, fun pz H3 n3 => ?_⟩
 have s03 := s02.trans n3.same
 refine ⟨_, rfl, .ref pg, n, ts, rfl, hG.same s03, okt, n10, fun pb qs H4 s4 f4 h4 lq bq => ?_⟩
 have s04 := s03.trans s4
 obtain ⟨qa, hA0, pa0⟩ := id hA
 have lss := Paired.length pa0
 refine ⟨_, rfl, a, rfl, ⟨_, SqL.of (s04 _ _ hA0)⟩, ?_⟩
 have sl := SO.ok.len
 refine a7O (fun j => (ss[j]?).bind fun p => some (.int ((a0Q p : Nat) : Int))) (SqL.of (s04 _ _ hA0)) (by rw [List.length_map]; omega) (fun j x H5 N hj s5 hN => ?_) (fun H5 pp H6 s5 n6 => ?_)
 ·rw [List.getElem?_map] at hj
  obtain ⟨qj, hqj, rfl⟩ := Option.map_eq_some_iff.mp hj
  obtain ⟨p', hp', h6⟩ := a0X pa0 hqj
  have pm := List.mem_of_getElem? hp'
  have hN' : ∀ H', Same H4 H' -> N (some (V.int ((a0Q p' : Nat) : Int))) H' := fun H' s' => by
   have := hN H' s'
   rw [hp'] at this
   exact this
  exact ⟨_, rfl, qj, p', n, rfl, SqL.of ((s04.trans s5) _ _ h6), (SO.ok.up p' pm).imp fun h => Nat.ne_of_lt h, SO.ok.lt p' pm, n10, fun H9 s9 => hN' H9 (s5.trans s9)⟩
 have e6 : (List.range (qa.map V.ref).length).filterMap (fun j => (ss[j]?).bind fun p => some (V.int ((a0Q p : Nat) : Int))) = natV (ssM ss) := by
  unfold ssM
  rw [List.length_map, lss, a3F, show (fun p => some (V.int ((a0Q p : Nat) : Int))) = fun p => some ((fun x : Nat => V.int (x : Int)) (a0Q p)) from rfl, a9G, a0Y, List.map_map, List.map_map, List.map_map]; rfl
 rw [e6] at n6
 have s46 := s5.trans n6.same
 have s06 := s04.trans s46
 have kz : (z = -1 /\ n = 0) \/ ∃ k : Nat, z = (k : Int) /\ k < n /\ 0 < n := by
  rcases Nat.eq_zero_or_pos n with c | c
  ·refine .inl ⟨?_, c⟩
   subst c
   rw [<- hz]
   exact C.nil
  ·obtain ⟨k, h1, h2⟩ := c5G C c n10
   exact .inr ⟨k, by rw [<- hz]; exact h1, h2, c⟩
 have hz3 : H3 pz = some (.lst (a1V (2 ^ n))) := n3.here
 have szA : ∀ {H' : Hp}, Same H5 H' -> SqL K H' pz (a1V (2 ^ n)) := fun {H'} s => SqL.of (s _ _ (s5 _ _ (s4 _ _ hz3)))
 have bgA : ∀ {H' : Hp}, Same H5 H' -> H' pb = some (.lst (qs.map V.ref)) := fun {H'} s => s _ _ (s5 _ _ h4)
 have bqA : ∀ {H' : Hp}, Same H5 H' -> ∀ (g : Nat) q, qs[g]? = some q -> BagQ n ts H' q g := fun {H'} s g q hq => (bq g q hq).same (s5.trans s)
 have s05 := s04.trans s5
 have fpp : H5 pp = none := n6.fresh
 have szl := a4H (2 ^ n)
 refine ⟨_, rfl, pz, rfl, ⟨_, szA n6.same⟩, ?_⟩
 refine c3M (fun _ => some (.bl true)) (szA n6.same) (by rw [szl]; exact Nat.le_trans (show 2 ^ n <= 5000 by omega) (by decide)) (fun x H7 N hx s7 hN => hN H7 s7) (fun H7 pc s7 hfree => ?_)
 have n8 := New.mk0 (o := HO.lst ((a1V (2 ^ n)).filterMap fun _ => some (V.bl true))) hfree
 generalize upd H7 pc (HO.lst ((a1V (2 ^ n)).filterMap fun _ => some (V.bl true))) = H8 at n8 ⊢
 have e8 : (a1V (2 ^ n)).filterMap (fun _ => some (V.bl true)) = cvL (2 ^ n) fun _ => true := by
  unfold a1V cvL
  rw [List.filterMap_map, List.map_map]
  exact congrFun (List.filterMap_eq_map' (f := V.bl ∘ fun _ => true)) _
 rw [e8] at n8
 have s68 := s7.trans n8.same
 have s58 := n6.same.trans s68
 have hp8 : H8 pp = some (.lst (natV (ssM ss))) := s68 _ _ n6.here
 have pcn : pc ≠ pp := fun e => by
  have := n8.fresh
  rw [e, s7 _ _ n6.here] at this
  cases this
 refine ⟨_, rfl, pp, rfl, ⟨_, SqL.of hp8⟩, ?_⟩
 have lM : (ssM ss).length = ss.length := List.length_map _
 refine a2E (xs := natV (ssM ss)) (fun i σ H' => ∃ (cv : Addr) (f : Nat -> Bool) (pt : Option V), σ = [some (.ref pg), some (.ref a), some (.int z), some (.ref pz), some (.ref pb), some (.ref pp), some (.ref cv), pt, none, none] /\ Same H8 H' /\ H' cv = some (.lst (cvL (2 ^ n) f)) /\ cv ≠ pp /\ CovL n ((ssM ss).take i) f)
  ⟨pc, _, none, rfl, Same.refl _, n8.here, pcn, fun m _ => ⟨fun _ b hb => absurd hb List.not_mem_nil, fun _ => rfl⟩⟩ (fun i σ H' _ ⟨_, _, _, _, s, _⟩ => SqL.of (s _ _ hp8)) ?_ ?_
 ·rintro i x σ H9 hx ⟨cv, f, pt, rfl, s9, hc9, cvn, cov⟩
  rw [List.getElem?_map] at hx
  obtain ⟨m, hm, rfl⟩ := Option.map_eq_some_iff.mp hx
  obtain ⟨hil, him⟩ := List.getElem?_eq_some_iff.mp hm
  refine ⟨_, rfl, _, rfl, cv, 2 ^ n, m, f, rfl, SqL.of hc9, p10, fun r H10 s10 f10 h10 => ?_⟩
  refine ⟨r, _, _, rfl, s9.trans s10, h10, fun e => ?_, ?_⟩
  ·rw [e, s9 _ _ hp8] at f10; cases f10
  ·rw [List.take_succ_eq_append_getElem hil, him]
   exact b4X cov
 rintro σ H9 ⟨cv, f, pt, rfl, s9, hc9, cvn, cov⟩
 rw [a0J, List.take_length] at cov
 have s59 := s58.trans s9
 have F0 := c7V SO
 have eM : (((qs.map V.ref).length : Nat) : Int) - 1 = ((2 ^ n - 1 : Nat) : Int) := by
  rw [List.length_map, lq]; omega
 refine ⟨_, rfl, _, rfl, _, rfl, cv, pz, 2 ^ n, f, z, rfl, SqL.of hc9, szA s59, p10, fun X H10 s10 Xl eX fX => ?some, fun H10 s10 no => ?none⟩
 case' none =>
  refine ⟨fun σ' H' => ∃ (sm : V) (od : Option V), σ' = [some (.ref pg), some (.ref a), some (.int z), some (.ref pz), some (.ref pb), some (.ref pp), some (.ref cv), pt, some sm, od] /\ Same H9 H' /\ b2E n z f sm (∀ k : Nat, z = (k : Int) -> ∀ os, ¬ FreeP n (a2H n ts (AB n k (ssM ss))) (2 ^ n - 1) os), ?_, ?_⟩
  ·exact ⟨_, rfl, rfl, _, rfl, iteF ⟨.non, none, rfl, s10, .inl ⟨rfl, no⟩⟩⟩
 case' some =>
  refine ⟨fun σ' H' => ∃ (sm : V) (od : Option V), σ' = [some (.ref pg), some (.ref a), some (.int z), some (.ref pz), some (.ref pb), some (.ref pp), some (.ref cv), pt, some sm, od] /\ Same H9 H' /\ b2E n z f sm (∀ k : Nat, z = (k : Int) -> ∀ os, ¬ FreeP n (a2H n ts (AB n k (ssM ss))) (2 ^ n - 1) os), ?_, ?_⟩
  ·refine ⟨_, rfl, rfl, _, rfl, iteT ?_⟩
   obtain ⟨k, ek, kn, n0⟩ : ∃ k : Nat, z = (k : Int) /\ k < n /\ 0 < n := kz.resolve_left fun c => by omega
   refine ⟨_, rfl, _, rfl, _, rfl, _, rfl, cv, pz, 2 ^ n, f, z, rfl, SqL.of (s10 _ _ hc9), szA (s59.trans s10), p10, fun rb H11 s11 f11 h11 => ?_⟩
   have s511 := s59.trans (s10.trans s11)
   have bar := b9L (k := k) ek cov
   refine ⟨_, rfl, pb, _, rfl, .inl (SqL.of (bgA s511)), _, _, rfl, rfl, ?_⟩
   refine ⟨pb, rb, qs, (List.range (2 ^ n)).map (fun m => f m && decide (z < (popF m : Int))), n, 2 ^ n - 1, ts, by dsimp only; rw [eM]; rfl, bgA s511, lq, n10, bqA s511, SqL.of h11, by rw [List.length_map, List.length_range], by omega, fun ro os H12 s12 f12 h12 fr => ?_, fun H12 s12 nof => ?_⟩
   ·refine ⟨_, rfl, rfl, _, rfl, iteT ⟨_, rfl, (by show 2 <= 1000; decide), fun rt H13 n13 => ?_⟩⟩
    exact qO rt ro os cs k H13 (s05.trans (s511.trans (s12.trans n13.same))) n13.here (s05.free (s511.free f12)) (n13.same _ _ h12) C n0 (hz.trans ek) ((a7G n10 bar).mp fr)
   ·refine ⟨_, rfl, rfl, _, rfl, iteF ⟨_, _, rfl, s10.trans (s11.trans s12), .inr ⟨X, rfl, Xl, eX, fX, fun k' ek' os fr => ?_⟩⟩⟩
    have : k' = k := by omega
    subst this
    exact nof os ((a7G n10 bar).mpr fr)
 all_goals
  rintro σ H11 ⟨sm, od, rfl, s11, SV⟩
  have s511 := s59.trans s11
  let Iw : Nat -> St -> Hp -> Prop := fun m σ H' => ∃ (cv : Addr) (f : Nat -> Bool) (more : List Nat) (sm : V) (pt od : Option V), σ = [some (.ref pg), some (.ref a), some (.int z), some (.ref pz), some (.ref pb), some (.ref pp), some (.ref cv), pt, some sm, od] /\ Same H5 H' /\ H' pp = some (.lst (natV (ssM ss ++ more))) /\ H' cv = some (.lst (cvL (2 ^ n) f)) /\ cv ≠ pp /\ m = cntK n z f /\ more.length + cntK n z f <= 252 /\ CovL n (ssM ss ++ more) f /\ FamM n ts (ssM ss ++ more) /\ more.Nodup /\ (∀ x ∈ more, x ∉ ssM ss) /\ b2E n z f sm (∀ k : Nat, z = (k : Int) -> ∀ os, ¬ FreeP n (a2H n ts (AB n k (ssM ss ++ more))) (2 ^ n - 1) os)
  refine ⟨Iw, ⟨_, cv, f, [], sm, pt, od, rfl, s511, ?_, s11 _ _ hc9, cvn, rfl, ?_, ?_, ?_, .nil, fun x hx => absurd hx List.not_mem_nil, ?_⟩, ?_⟩
  ·rw [List.append_nil]; exact s11 _ _ (s9 _ _ hp8)
  ·have := c5H n10 z f
   show 0 + _ <= 252
   omega
  ·rw [List.append_nil]; exact cov
  ·rw [List.append_nil]; exact F0
  ·rw [List.append_nil]; exact SV
  rintro m σ H12 ⟨cv, f, more, sm, pt, od, rfl, s12, hp12, hc12, cvn, rfl, few, cov, Fm, ndm, newm, SV⟩
  have lmore : (natV (ssM ss ++ more)).length <= 700 := by rw [a0J, List.length_append, lM]; omega
  refine ⟨_, rfl, rfl, _, rfl, ?_⟩
  rcases SV with ⟨rfl, no⟩ | ⟨X, rfl, Xl, eX, fX, nof⟩
  ·refine iteF ?_
   have s012 := s05.trans s12
   have mlt : ∀ m ∈ ssM ss ++ more, m < 2 ^ 10 := fun m hm => Nat.lt_of_lt_of_le (Fm.lt m hm) (Nat.pow_le_pow_right (by decide) n10)
   refine ⟨_, rfl, pp, rfl, ⟨_, SqL.of hp12⟩, ?_⟩
   refine a5U (K := K) (a := pp) (xs := natV (ssM ss ++ more)) (fun i ys G => Same H12 G /\ ∃ qr : List Addr, ys = qr.map V.ref /\ (∀ q ∈ qr, H q = none) /\ (∀ q ∈ qr, ∃ l, G q = some (.lst l)) /\ qr.length = i /\ Paired (fun q l => G q = some (.lst (natV l))) qr (((ssM ss ++ more).take i).map a0L)) ⟨Same.refl _, [], rfl, fun q h => absurd h List.not_mem_nil, fun q h => absurd h List.not_mem_nil, rfl, .nil⟩ (fun i ys G hi ⟨s, qr, e, _, _, l, _⟩ => ⟨SqL.of (s _ _ hp12), ?_⟩) (fun i x ys G hi ⟨s, qr, e, fr, al, l, pr⟩ => ?_) ?_
   ·rw [e, List.length_map, l]
    exact Nat.le_of_lt (a1R (by omega))
   ·rw [List.getElem?_map] at hi
    obtain ⟨m, hm, rfl⟩ := Option.map_eq_some_iff.mp hi
    obtain ⟨hil, him⟩ := List.getElem?_eq_some_iff.mp hm
    refine ⟨_, rfl, m, rfl, mlt m (List.mem_of_getElem? hm), fun G0 q2 G2 s2 n2 => ?_⟩
    have sG : Same G G2 := s2.trans n2.same
    refine ⟨s.trans sG, qr ++ [q2], by rw [e, List.map_append]; rfl, fun q hq => ?_, fun q hq => ?_, by rw [List.length_append, l]; rfl, ?_⟩
    ·rcases List.mem_append.mp hq with hq | hq
     ·exact fr q hq
     ·rw [List.mem_singleton.mp hq]
      exact s012.free (s.free (s2.free n2.fresh))
    ·rcases List.mem_append.mp hq with hq | hq
     ·obtain ⟨l, h⟩ := al q hq
      exact ⟨l, sG _ _ h⟩
     ·rw [List.mem_singleton.mp hq]
      exact ⟨_, n2.here⟩
    ·rw [List.take_succ_eq_append_getElem hil, him, List.map_append]
     exact a2I (Paired.mapP pr fun _ _ h => sG _ _ h) n2.here
   intro ys G ⟨s, qr, e, fr, al, l, pr⟩ rp hrp
   rw [a0J, List.take_length] at pr
   have nG := New.mk0 (o := HO.lst ys) hrp
   generalize upd G rp (HO.lst ys) = G2 at nG ⊢
   refine ⟨(by show 2 <= 1000; decide), fun rt H14 n14 => ?_⟩
   have sG2 : Same G H14 := nG.same.trans n14.same
   refine qF rt rp (ss ++ more.map a0L) more cs H14 (s012.trans (s.trans sG2)) n14.here ⟨qr, by rw [n14.same _ _ nG.here, e], fun z => ?_, fr, ?_⟩ (s012.free (s.free hrp)) C ⟨rfl, Fm, ndm, newm, by omega, fun Y hY => ?_⟩
   ·obtain ⟨l, h⟩ := al rp z
    rw [hrp] at h
    cases h
   ·have e2 : (ssM ss ++ more).map a0L = ss ++ more.map a0L := by
     rw [List.map_append]
     congr 1
     unfold ssM
     rw [List.map_map]
     conv => rhs; rw [<- List.map_id ss]
     exact List.map_congr_left fun p hp => b3L n10 (SO.ok.up p hp) (SO.ok.lt p hp)
    rw [e2] at pr
    exact Paired.mapP pr fun _ _ h => sG2 _ _ h
   ·rw [hz]
    rcases kz with ⟨h1, _⟩ | ⟨k, ek, kn, _⟩
    ·rw [h1]; omega
    ·rw [ek] at no ⊢
     have := c1Z n10 (Nat.le_of_lt kn) Fm.lt cov no Y hY
     omega
  ·refine iteT ⟨fun σ H' => ∃ m, m < cntK n z f /\ Iw m σ H', fun σ' H' h => h, ?_⟩
   obtain ⟨k, ek, kn, n0⟩ : ∃ k : Nat, z = (k : Int) /\ k < n /\ 0 < n := kz.resolve_left fun c => by omega
   have s012 := s05.trans s12
   refine ⟨_, rfl, _, rfl, _, rfl, _, rfl, _, rfl, _, rfl, cv, pz, 2 ^ n, f, z, rfl, SqL.of hc12, szA s12, p10, fun rb H13 s13 f13 h13 => ?_⟩
   have s513 := s12.trans s13
   have bar := b9L (k := k) ek cov
   refine ⟨.ref pg, n, k, X, ts, pb, rb, qs, _, ssM ss ++ more, rfl, hG.same (s05.trans s513), okt, n10, n0, l100, Xl, bgA s513, lq, bqA s513, SqL.of h13, bar, Fm, nof k ek, by omega, fun cm H14 s14 Cc cl nfc => ?_⟩
   have s514 := s513.trans s14
   have hp14 := s14 _ _ (s13 _ _ hp12)
   have hc14 := s14 _ _ (s13 _ _ hc12)
   refine ⟨_, rfl, .inl ⟨rfl, _, SqL.of hp14⟩, _, rfl, pp, _, _, rfl, rfl, hp14, by omega, fun H15 c15 => ?_⟩
   have s515 : Same H5 H15 := s514.chg fpp c15
   have hc15 : H15 cv = some (.lst (cvL (2 ^ n) f)) := (c15.rest cv cvn).trans hc14
   have hp15 : H15 pp = some (.lst (natV (ssM ss ++ (more ++ [cm])))) := by
    rw [c15.here, <- List.append_assoc]
    unfold natV
    rw [List.map_append (l₁ := ssM ss ++ more)]; rfl
   refine ⟨_, rfl, _, rfl, cv, 2 ^ n, cm, f, rfl, SqL.of hc15, p10, fun r2 H16 s16 f16 h16 => ?_⟩
   have s516 := s515.trans s16
   have miss : X &&& cm = 0 := and_zero.mpr fun ⟨u, h1, h2⟩ => (Cc.sub h2).2 h1
   have less := c2A Xl eX fX miss
   have nin : cm ∉ ssM ss ++ more := fun zz => by
    obtain ⟨u, h1, h2⟩ := (cov X Xl).mp fX cm zz
    exact (Cc.sub h1).2 h2
   have cov' : CovL n (ssM ss ++ (more ++ [cm])) (a4C f cm) := by rw [<- List.append_assoc]; exact b4X cov
   have same1 : ∀ b, b ∈ cm :: (ssM ss ++ more) ↔ b ∈ ssM ss ++ (more ++ [cm]) := fun b => by rw [<- List.append_assoc]; exact b4W
   obtain ⟨c0, hc0⟩ := Cc.ne
   have Fm' : FamM n ts (ssM ss ++ (more ++ [cm])) := b9K same1 (by
    have jc : JnM ts cm := ⟨c0, hc0, fun y hy => Cc.con hc0 hy⟩
    have tc := b3K n10 cl nfc
    refine ⟨fun b hb => ?_, fun b hb => ?_, fun b hb c' hc => ?_⟩
    ·rcases List.mem_cons.mp hb with e | hb
     ·rw [e]; exact cl
     ·exact Fm.lt b hb
    ·rcases List.mem_cons.mp hb with e | hb
     ·rw [e]; exact jc
     ·exact Fm.jn b hb
    ·rcases List.mem_cons.mp hb with e | hb
     ·rcases List.mem_cons.mp hc with e' | hc
      ·rw [e, e']; exact jc.tch
      ·rw [e]; exact tc c' hc
     ·rcases List.mem_cons.mp hc with e' | hc
      ·rw [e']; exact (tc b hb).symm
      ·exact Fm.tc b hb c' hc)
   have nof' : ∀ k : Nat, z = (k : Int) -> ∀ os, ¬ FreeP n (a2H n ts (AB n k (ssM ss ++ (more ++ [cm])))) (2 ^ n - 1) os := fun k' ek' => by
    have : k' = k := by omega
    subst this
    rw [<- c1Y same1]
    exact nfc
   have fin : ∀ (sm : V) H17, Same H16 H17 -> b2E n z (a4C f cm) sm (∀ k : Nat, z = (k : Int) -> ∀ os, ¬ FreeP n (a2H n ts (AB n k (ssM ss ++ (more ++ [cm])))) (2 ^ n - 1) os) -> ∃ m, m < cntK n z f /\ ∃ (cv' : Addr) (f : Nat -> Bool) (more : List Nat) (sm' : V) (pt' od' : Option V), [some (.ref pg), some (.ref a), some (.int z), some (.ref pz), some (.ref pb), some (.ref pp), some (.ref r2), some (.int (cm : Int)), some sm, od] = [some (.ref pg), some (.ref a), some (.int z), some (.ref pz), some (.ref pb), some (.ref pp), some (.ref cv'), pt', some sm', od'] /\ Same H5 H17 /\ H17 pp = some (.lst (natV (ssM ss ++ more))) /\ H17 cv' = some (.lst (cvL (2 ^ n) f)) /\ cv' ≠ pp /\ m = cntK n z f /\ more.length + cntK n z f <= 252 /\ CovL n (ssM ss ++ more) f /\ FamM n ts (ssM ss ++ more) /\ more.Nodup /\ (∀ x ∈ more, x ∉ ssM ss) /\ b2E n z f sm' (∀ k : Nat, z = (k : Int) -> ∀ os, ¬ FreeP n (a2H n ts (AB n k (ssM ss ++ more))) (2 ^ n - 1) os) := fun sm H17 s17 sv => by
    refine ⟨_, less, r2, a4C f cm, more ++ [cm], sm, _, _, rfl, s516.trans s17, s17 _ _ (s16 _ _ hp15), s17 _ _ h16, fun zz => ?_, rfl, ?_, cov', Fm', ?_, fun x hx => ?_, sv⟩
    ·rw [zz, hp15] at f16; cases f16
    ·rw [List.length_append]
     show more.length + 1 + _ <= 252
     omega
    ·refine List.nodup_append.mpr ⟨ndm, List.nodup_cons.mpr ⟨List.not_mem_nil, .nil⟩, fun x hx y hy e => ?_⟩
     rw [List.mem_singleton.mp hy] at e
     exact nin (List.mem_append_right _ (e ▸ hx))
    ·rcases List.mem_append.mp hx with hx | hx
     ·exact newm x hx
     ·rw [List.mem_singleton.mp hx]
      exact fun zz => nin (List.mem_append_left _ zz)
   exact ⟨_, rfl, _, rfl, _, rfl, r2, pz, 2 ^ n, a4C f cm, z, rfl, SqL.of h16, szA s516, p10, fun X' H17 s17 X'l eX' fX' => fin _ H17 s17 (.inr ⟨X', rfl, X'l, eX', fX', nof'⟩), fun H17 s17 no => fin _ H17 s17 (.inl ⟨rfl, no⟩)⟩
end
end K
namespace K
open PySem L2 Lw Bg
abbrev a8F : Stmt := top 41
theorem sc__law_near : FnScope ["_law_n", "_law_ties_here", "_law_near_here", "_law_a", "_law_b"] ["_law_n", "_law_ties_here"] (a0F a8F) := ⟨rfl, rfl, rfl, by decide +kernel, rfl, by decide +kernel, by decide +kernel⟩
abbrev a6R : Stmt := top 42
theorem sc__law_reach : FnScope ["_law_near_here", "_law_number_here", "_law_reach_here", "_law_v"] ["_law_near_here", "_law_number_here"] (a0F a6R) := ⟨rfl, rfl, rfl, by decide +kernel, rfl, by decide +kernel, by decide +kernel⟩
structure NearM (n : Nat) (ts : List ζζ) (ns : List Nat) : Prop where
 len : ns.length = n
 lt : ∀ v, v < n -> ns.getD v 0 < 2 ^ n
 bit : ∀ v, v < n -> ∀ u, (ns.getD v 0).testBit u = tieT ts v u
def c5I (K : Φρ) : Sp := fun vs H Q _ => ∃ (n : Nat) (r : Addr) (xs : List V) (ts : List ζζ), vs = [.int n, .ref r] /\ n <= 10 /\ SqL K H r xs /\ Paired (TieL H) xs ts /\ (∀ t ∈ ts, 0 <= t.1 /\ t.1 < t.2 /\ t.2 < (n : Int)) /\ ts.Nodup /\
 ∀ p ns H', Same H H' -> H p = none -> H' p = some (.lst (natV ns)) -> NearM n ts ns -> Q (.ref p) H'
def c2C (K : Φρ) : Sp := fun vs H Q _ => ∃ (n m : Nat) (a : Addr) (ts : List ζζ) (ns : List Nat), vs = [.ref a, .int (m : Int)] /\ n <= 10 /\ SqL K H a (natV ns) /\ NearM n ts ns /\ m < 2 ^ n /\
 ∀ r : Nat, r < 2 ^ n -> (∀ u, r.testBit u = true ↔ m.testBit u = true \/ ∃ v, m.testBit v = true /\ tieT ts v u = true) -> Q (.int (r : Int)) H
theorem bitV (g y : Nat) : decide (V.int ((g : Int) / 2 ^ ((y : Nat) : Int).toNat % 2) = V.int 1) = g.testBit y := by
 rw [Int.toNat_natCast, Nat.testBit_eq_decide_div_mod_eq]
 have e : ((g : Int) / 2 ^ y % 2) = ((g / 2 ^ y % 2 : Nat) : Int) := by
  rw [Int.natCast_emod, Int.natCast_ediv, Int.natCast_pow]; rfl
 rw [e]
 by_cases c : g / 2 ^ y % 2 = 1
 ·rw [c]; rfl
 ·rw [decide_eq_false c]
  exact decide_eq_false fun z => by injection z with z; exact c (by omega)
theorem a1T {m n : Nat} (h : ∀ u, m.testBit u = true -> u < n) : m < 2 ^ n := Nat.lt_pow_two_of_testBit _ fun i hi => by
 cases c : m.testBit i with
 | false => rfl
 | true => have := h i c; omega
theorem b9O {ts : List ζζ} {t : Int × Int} {x y : Nat} : tieT (ts ++ [t]) x y = true ↔ tieT ts x y = true \/ ((x : Int) = t.1 /\ (y : Int) = t.2) \/ ((y : Int) = t.1 /\ (x : Int) = t.2) := by
 unfold tieT
 rw [Bool.or_eq_true, Bool.or_eq_true, decide_eq_true_iff, decide_eq_true_iff, decide_eq_true_iff, decide_eq_true_iff, List.mem_append, List.mem_append, List.mem_singleton, List.mem_singleton, Prod.ext_iff, Prod.ext_iff]
 constructor
 ·rintro ((h | h) | (h | h))
  ·exact .inl (.inl h)
  ·exact .inr (.inl h)
  ·exact .inl (.inr h)
  ·exact .inr (.inr h)
 ·rintro ((h | h) | h | h)
  ·exact .inl (.inl h)
  ·exact .inr (.inl h)
  ·exact .inl (.inr h)
  ·exact .inr (.inr h)
theorem a5M {l : List Nat} {i j x : Nat} (h : i < l.length) : (l.set i x).getD j 0 = if j = i then x else l.getD j 0 := by
 rw [τα, List.getElem?_set]
 by_cases c : i = j
 ·subst c
  rw [if_pos rfl, if_pos rfl, if_pos h]; rfl
 ·rw [if_neg c, if_neg (Ne.symm c), τα]
theorem a8G (l : List Nat) (i x : Nat) : (natV l).set i (.int (x : Int)) = natV (l.set i x) := by
 unfold natV
 rw [<- List.map_set]
section
variable {P : Program} {w : World} {K : Φρ} {mg : Str -> Option Value} {base : Heap}
abbrev DZ6 (K : PySem.W.Frag) (mg : Str -> Option Value) := Dn K mg "_law_near" a8F ["_law_n", "_law_ties_here"]
set_option maxHeartbeats 8000000 in
theorem b2F (B : Bl mg) (dZ6 : DZ6 K mg) : FnOk P w K mg base CX0 1 dZ6.f dZ6.fd ["_law_n", "_law_ties_here"] (c5I K) := by
 refine dZ6.F.ok sc__law_near (fun vs H Q E h => ?_) (fun cdv A outer s H vs Q E hr h => ?_)
 ·obtain ⟨n, r, xs, ts, rfl, _⟩ := h
  rfl
 obtain ⟨n, r, xs, ts, rfl, n10, hR, hq, okt, nd, q⟩ := h
 refine ⟨_, (a0B (a1W (i := 2) ["_law_v"] [none] sc__law_near.nd rfl rfl (by kernel_rfl) rfl (a1U rfl B.range (a0A (pv 0) a0C)) (fun _ _ _ _ _ => (a0H (i := 0) (show (["_law_v"] : List Str).Nodup by decide +kernel) rfl (Or.inl rfl))) (fun _ _ _ _ _ => a1G) (fun _ _ _ _ _ => a0E) (by rfl))
   (a0B (a1I PassesOwn.never rfl (a0R (K := K) rfl (pv 1)) (a2R (K := K) (n := 2) rfl rfl (a0Z (a0H (i := 3) sc__law_near.nd rfl (Or.inl rfl)) (a0Z (a0H (i := 4) sc__law_near.nd rfl (Or.inl rfl)) a2P)))
   (a0B (a6D (a0K a2U (a1D (a0P (K := K) rfl) (pv 2) (pv 3) (fun _ _ => rfl)) (a0K a1Z a0E (pv 4))) (a6C (pv 2) (pv 3) a2M))
   (a0D (a6D (a0K a2U (a1D (a0P (K := K) rfl) (pv 2) (pv 4) (fun _ _ => rfl)) (a0K a1Z a0E (pv 3))) (a6C (pv 2) (pv 4) a2M)))))
   (a0D (a0O (pv 2))))), ?_⟩
 refine ⟨_, rfl, _, rfl, by omega, by omega, ?_⟩
 rw [Int.toNat_natCast]
 refine a7N (fun _ => some (.int 0)) (by omega) (fun j H1 N hj s1 hN => hN H1 s1) (fun H1 pn H2 s1 n2 => ?_)
 have e2 : (List.range n).filterMap (fun _ => some (V.int 0)) = natV (List.replicate n 0) := by
  have go : ∀ n : Nat, (List.range n).filterMap (fun _ => some (V.int 0)) = List.replicate n (V.int 0) := fun n => by
   induction n with
   | zero => rfl
   | succ n ih => rw [List.range_succ, List.filterMap_append, ih, List.replicate_succ']; rfl
  rw [go]
  unfold natV
  rw [List.map_replicate]; rfl
 rw [e2] at n2
 have s02 := s1.trans n2.same
 have fpn : H pn = none := s1.free n2.fresh
 refine ⟨_, rfl, r, rfl, ⟨_, s02.seq hR⟩, ?_⟩
 have lq := Paired.length hq
 refine a2E (xs := xs) (fun i σ H' => ∃ (aa bb : Option V) (ns : List Nat), σ = [some (.int n), some (.ref r), some (.ref pn), aa, bb] /\ Same H H' /\ H' pn = some (.lst (natV ns)) /\ NearM n (ts.take i) ns)
  ⟨none, none, _, rfl, s02, n2.here, ⟨List.length_replicate, fun v vn => ?_, fun v vn u => ?_⟩⟩ (fun i σ H' _ ⟨_, _, _, _, s, _⟩ => s.seq hR) ?_ ?_
 ·rw [τα, List.getElem?_replicate, if_pos vn]
  exact Nat.pow_pos (by decide)
 ·rw [τα, List.getElem?_replicate, if_pos vn]
  show (0 : Nat).testBit u = _
  rw [Nat.zero_testBit]
  unfold tieT
  simp
 ·rintro i x σ H3 hx ⟨aa, bb, ns, rfl, s3, h3, NM⟩
  obtain ⟨t, ht, ⟨pt, rfl, hTt⟩⟩ := a0X hq hx
  have tok := okt t (List.mem_of_getElem? ht)
  obtain ⟨hil, hit⟩ := List.getElem?_eq_some_iff.mp ht
  have et : ts.take (i + 1) = ts.take i ++ [t] := by rw [List.take_succ_eq_append_getElem hil, hit]
  obtain ⟨x, ex⟩ : ∃ x : Nat, t.1 = (x : Int) := ⟨t.1.toNat, by omega⟩
  obtain ⟨y, ey⟩ : ∃ y : Nat, t.2 = (y : Int) := ⟨t.2.toNat, by omega⟩
  have xy : x < y := by omega
  have yn : y < n := by omega
  have hTt' : H pt = some (.tup [.int (x : Int), .int (y : Int)]) := by rw [<- ex, <- ey]; exact hTt
  have tn : t ∉ ts.take i := fun z => by
   have := nd.sublist (List.take_sublist (i + 1) ts)
   rw [et] at this
   exact (List.nodup_append.mp this).2.2 t z t (List.mem_singleton.mpr rfl) rfl
  have te : t = ((x : Int), (y : Int)) := Prod.ext ex ey
  have no : tieT (ts.take i) x y = false := by
   unfold tieT
   rw [Bool.or_eq_false_iff, decide_eq_false_iff_not, decide_eq_false_iff_not]
   refine ⟨fun z => tn (te ▸ z), fun z => ?_⟩
   have := okt _ (List.mem_of_mem_take z)
   omega
  have no' : tieT (ts.take i) y x = false := by
   cases c : tieT (ts.take i) y x with
   | false => rfl
   | true => rw [a1J c] at no; cases no
  have lx : x < ns.length := by rw [NM.len]; omega
  have ly : y < ns.length := by rw [NM.len]; omega
  refine ⟨pt, _, rfl, SqT.of (s3 _ _ hTt'), rfl, _, _, rfl, _, _, rfl, rfl, ?_⟩
  have f1 : (ns.getD x 0).testBit y = false := by rw [NM.bit x (by omega)]; exact no
  obtain ⟨_, _, a1⟩ := a2J f1
  refine ⟨_, rfl, _, rfl, pn, _, _, _, rfl, rfl, SqL.of h3, a2T lx, _, rfl, _, _, rfl, rfl, ⟨by omega, by omega, by decide⟩, _, _, rfl, rfl, ?_⟩
  dsimp only
  rw [shl1, show ((ns.getD x 0 : Nat) : Int) + ((2 ^ y : Nat) : Int) = ((ns.getD x 0 ||| 2 ^ y : Nat) : Int) by rw [<- a1]; omega]
  refine ⟨_, rfl, _, rfl, pn, _, _, x, rfl, rfl, h3, a3Z (by rw [a0J]; exact lx), fun H4 c4 => ?_⟩
  have h4 := c4.here
  rw [a8G] at h4
  have ly' : y < (ns.set x (ns.getD x 0 ||| 2 ^ y)).length := by rw [List.length_set]; exact ly
  have gy : (ns.set x (ns.getD x 0 ||| 2 ^ y)).getD y 0 = ns.getD y 0 := by rw [a5M lx, if_neg (by omega)]
  have f2 : ((ns.set x (ns.getD x 0 ||| 2 ^ y)).getD y 0).testBit x = false := by rw [gy, NM.bit y yn]; exact no'
  obtain ⟨_, _, a2⟩ := a2J f2
  refine ⟨_, rfl, _, rfl, pn, _, _, _, rfl, rfl, SqL.of h4, a2T ly', _, rfl, _, _, rfl, rfl, ⟨by omega, by omega, by decide⟩, _, _, rfl, rfl, ?_⟩
  dsimp only
  rw [shl1, show (((ns.set x (ns.getD x 0 ||| 2 ^ y)).getD y 0 : Nat) : Int) + ((2 ^ x : Nat) : Int) = (((ns.set x (ns.getD x 0 ||| 2 ^ y)).getD y 0 ||| 2 ^ x : Nat) : Int) by rw [<- a2]; omega]
  refine ⟨_, rfl, _, rfl, pn, _, _, y, rfl, rfl, h4, a3Z (by rw [a0J]; exact ly'), fun H5 c5 => ?_⟩
  have h5 := c5.here
  rw [a8G] at h5
  have bits : ∀ v, v < n -> ∀ u, (((ns.set x (ns.getD x 0 ||| 2 ^ y)).set y ((ns.set x (ns.getD x 0 ||| 2 ^ y)).getD y 0 ||| 2 ^ x)).getD v 0).testBit u = tieT (ts.take (i + 1)) v u := fun v vn u => by
   rw [et, Bool.eq_iff_iff, b9O, a5M ly', gy]
   by_cases c : v = y
   ·subst c
    rw [if_pos rfl, or_bit, NM.bit v vn]
    constructor
    ·rintro (h | h)
     ·exact .inl h
     ·exact .inr (.inr ⟨by omega, by omega⟩)
    ·rintro (h | h | h)
     ·exact .inl h
     ·omega
     ·exact .inr (by omega)
   ·rw [if_neg c, a5M lx]
    by_cases d : v = x
    ·subst d
     rw [if_pos rfl, or_bit, NM.bit v vn]
     constructor
     ·rintro (h | h)
      ·exact .inl h
      ·exact .inr (.inl ⟨by omega, by omega⟩)
     ·rintro (h | h | h)
      ·exact .inl h
      ·exact .inr (by omega)
      ·omega
    ·rw [if_neg d, NM.bit v vn]
     constructor
     ·exact .inl
     ·rintro (h | h | h)
      ·exact h
      ·omega
      ·omega
  have lt' : ∀ t ∈ ts.take (i + 1), 0 <= t.1 /\ t.1 < t.2 /\ t.2 < (n : Int) := fun t ht => okt t (List.mem_of_mem_take ht)
  exact ⟨_, _, _, rfl, (s3.chg fpn c4).chg fpn c5, h5, by rw [List.length_set, List.length_set]; exact NM.len, fun v vn => a1T fun u hu => by rw [bits v vn] at hu; exact c2X lt' hu, bits⟩
 ·rintro σ H3 ⟨aa, bb, ns, rfl, s3, h3, NM⟩
  rw [lq, List.take_length] at NM
  exact ⟨_, rfl, q pn ns H3 s3 fpn h3 NM⟩
abbrev DZ9 (K : PySem.W.Frag) (mg : Str -> Option Value) := Dn K mg "_law_reach" a6R ["_law_near_here", "_law_number_here"]
set_option maxHeartbeats 8000000 in
theorem a5N (B : Bl mg) (dZ9 : DZ9 K mg) : FnOk P w K mg base CX0 1 dZ9.f dZ9.fd ["_law_near_here", "_law_number_here"] (c2C K) := by
 refine dZ9.F.ok sc__law_reach (fun vs H Q E h => ?_) (fun cdv A outer s H vs Q E hr h => ?_)
 ·obtain ⟨n, m, a, ts, ns, rfl, _⟩ := h
  rfl
 obtain ⟨n, m, a, ts, ns, rfl, n10, hA, NM, ml, q⟩ := h
 refine ⟨_, (a0B (a0M (i := 2) sc__law_reach.nd rfl (Or.inl rfl) (pv 1))
   (a0B (a1I PassesOwn.never rfl (a1U rfl B.range (a0A (a0I (a0S (K := K) rfl) rfl B.len (by decide +kernel) (a0A (pv 0) a0C)) a0C)) (a0H (i := 3) sc__law_reach.nd rfl (Or.inl rfl))
   (a0D (a1Q (a0N a3U (a0K a2C (a0K b3W (pv 1) (pv 3)) a0E) a0E (a0W _))
   (a0D (a0M (i := 2) sc__law_reach.nd rfl (Or.inl rfl) (a0K a7L (pv 2) (a1D (a0P (K := K) rfl) (pv 0) (pv 3) (fun _ _ => rfl)))))
   a0V)))
   (a0D (a0O (pv 2))))), ?_⟩
 refine ⟨_, rfl, _, rfl, a, _, rfl, .inl hA, _, rfl, by rw [a0J, NM.len]; omega, by rw [a0J, NM.len]; omega, ?_⟩
 rw [a0J, NM.len, Int.toNat_natCast]
 refine a2B (n := n) (fun i σ H' => (∃ (r : Nat) (vv : Option V), σ = [some (.ref a), some (.int (m : Int)), some (.int (r : Int)), vv] /\ r < 2 ^ n /\ ∀ u, r.testBit u = true ↔ m.testBit u = true \/ ∃ v, v < i /\ m.testBit v = true /\ tieT ts v u = true) /\ H' = H)
  ⟨⟨m, none, rfl, ml, fun u => ⟨.inl, fun h => h.elim id fun ⟨v, z, _⟩ => absurd z (Nat.not_lt_zero _)⟩⟩, rfl⟩ ?_ ?_
 ·rintro i σ H1 hi ⟨⟨r, vv, rfl, rl, bits⟩, rfl⟩
  have ei : (0 : Int) + (i : Int) = (i : Int) := by omega
  rw [ei]
  refine ⟨_, rfl, _, rfl, _, _, rfl, rfl, (show (0 : Int) <= (i : Int) by omega), _, _, rfl, rfl, (show (0 : Int) < _ by decide), rfl, _, rfl, ?_⟩
  dsimp only
  rw [bitV]
  cases c : m.testBit i with
  | true =>
   refine iteT ⟨_, rfl, _, rfl, _, rfl, a, _, _, _, rfl, rfl, hA, a2T (by rw [NM.len]; exact hi), _, _, rfl, rfl, ?_⟩
   dsimp only
   rw [a4M]
   refine ⟨⟨_, _, rfl, Nat.or_lt_two_pow rl (NM.lt i hi), fun u => ?_⟩, rfl⟩
   rw [Nat.testBit_or, Bool.or_eq_true, bits, NM.bit i hi]
   constructor
   ·rintro ((h | ⟨v, h1, h2⟩) | h)
    ·exact .inl h
    ·exact .inr ⟨v, by omega, h2⟩
    ·exact .inr ⟨i, by omega, c, h⟩
   ·rintro (h | ⟨v, h1, h2, h3⟩)
    ·exact .inl (.inl h)
    ·by_cases d : v = i
     ·rw [d] at h3; exact .inr h3
     ·exact .inl (.inr ⟨v, by omega, h2, h3⟩)
  | false =>
   refine iteF ⟨⟨r, _, rfl, rl, fun u => (bits u).trans ?_⟩, rfl⟩
   constructor
   ·rintro (h | ⟨v, h1, h2⟩)
    ·exact .inl h
    ·exact .inr ⟨v, by omega, h2⟩
   ·rintro (h | ⟨v, h1, h2, h3⟩)
    ·exact .inl h
    ·by_cases d : v = i
     ·rw [d, c] at h2; cases h2
     ·exact .inr ⟨v, by omega, h2, h3⟩
 ·rintro σ H1 ⟨⟨r, vv, rfl, rl, bits⟩, rfl⟩
  refine ⟨_, rfl, q r rl fun u => (bits u).trans ?_⟩
  constructor
  ·rintro (h | ⟨v, h1, h2⟩)
   ·exact .inl h
   ·exact .inr ⟨v, h2⟩
  ·rintro (h | ⟨v, h2, h3⟩)
   ·exact .inl h
   ·refine .inr ⟨v, Classical.byContradiction fun c => ?_, h2, h3⟩
    rw [a1C ml (by omega)] at h2
    cases h2
end
def Rch (ts : List ζζ) (ls : List Nat) (y : Nat) : Nat -> Nat -> Prop
 | 0, x => x = y
 | k + 1, x => Rch ts ls y k x \/ ∃ z ∈ ls, tieT ts x z = true /\ Rch ts ls y k z
open Classical in
theorem b4Y {ts : List ζζ} {ls : List Nat} {y : Nat} (hy : y ∈ ls) : ∀ k, (∀ x ∈ ls, Rch ts ls y (k + 1) x -> Rch ts ls y k x) \/ k + 1 <= ls.countP fun x => decide (Rch ts ls y k x)
 | 0 => .inr (by
   show 0 < _
   rw [List.countP_pos_iff]
   exact ⟨y, hy, decide_eq_true rfl⟩)
 | k + 1 => by
  rcases b4Y hy k with h | h
  ·refine .inl fun x hx r => ?_
   rcases r with r | ⟨z, hz, t, r⟩
   ·exact r
   ·exact .inr ⟨z, hz, t, h z hz r⟩
  ·by_cases c : ∀ x ∈ ls, Rch ts ls y (k + 1 + 1) x -> Rch ts ls y (k + 1) x
   ·exact .inl c
   ·refine .inr ?_
    have ex : ∃ x, x ∈ ls /\ Rch ts ls y (k + 1) x /\ ¬ Rch ts ls y k x := by
     apply Classical.byContradiction
     intro z
     have cl : ∀ x ∈ ls, Rch ts ls y (k + 1) x -> Rch ts ls y k x := fun x hx r => Classical.byContradiction fun nr => z ⟨x, hx, r, nr⟩
     refine c fun x hx r => ?_
     rcases r with r | ⟨w, hw, t, r⟩
     ·exact r
     ·exact .inr ⟨w, hw, t, cl w hw r⟩
    obtain ⟨x, hx, h1, h2⟩ := ex
    have := Srt.countP_lt (p := fun x => decide (Rch ts ls y k x)) (q := fun x => decide (Rch ts ls y (k + 1) x)) (fun z hz => decide_eq_true (.inl (of_decide_eq_true hz))) hx (decide_eq_false h2) (decide_eq_true h1)
    omega
open Classical in
theorem c5J {ts : List ζζ} {ls : List Nat} {x y : Nat} (hx : x ∈ ls) (hy : y ∈ ls) (p : PathT ts ls y x) : Rch ts ls y ls.length x := by
 have cl : ∀ x ∈ ls, Rch ts ls y (ls.length + 1) x -> Rch ts ls y ls.length x := by
  refine (b4Y hy ls.length).resolve_right fun z => ?_
  have := List.countP_le_length (p := fun x => decide (Rch ts ls y ls.length x)) (l := ls)
  omega
 have self : ∀ k, Rch ts ls y k y := fun k => by
  induction k with
  | zero => rfl
  | succ k ih => exact .inl ih
 have all : ∀ u, PathT ts ls y u -> u ∈ ls -> Rch ts ls y ls.length u := fun u p => by
  induction p with
  | one t => exact fun hu => cl _ hu (.inr ⟨y, hy, a1J t, self _⟩)
  | step p m t ih => exact fun hu => cl _ hu (.inr ⟨_, m, a1J t, ih m⟩)
 exact all x p hx
abbrev a6S : Stmt := top 43
theorem sc__law_piece : FnScope ["_law_near_here", "_law_number_here", "_law_piece_here", "_law_again"] ["_law_near_here", "_law_number_here", "_law_piece_here"] (a0F a6S) := ⟨rfl, rfl, rfl, by decide +kernel, rfl, by decide +kernel, by decide +kernel⟩
abbrev a8H : Stmt := top 44
theorem b2G : FnScope ["_law_n", "_law_number_here"] ["_law_n", "_law_number_here"] (a0F a8H) := ⟨rfl, rfl, rfl, by decide +kernel, rfl, by decide +kernel, by decide +kernel⟩
def a3C (n m : Nat) : List Nat := (List.range n).filter (m.testBit ·)
theorem mem_bitsN {n m x : Nat} : x ∈ a3C n m ↔ x < n /\ m.testBit x = true := by
 unfold a3C
 rw [List.mem_filter, List.mem_range]
theorem a7H (n m : Nat) : (a3C n m).Pairwise (· < ·) := List.pairwise_lt_range.sublist List.filter_sublist
theorem b3M {n m : Nat} (n10 : n <= 10) (ml : m < 2 ^ n) : a3C n m = a0L m := by
 have m10 : m < 2 ^ 10 := Nat.lt_of_lt_of_le ml (Nat.pow_le_pow_right (by decide) n10)
 have up : (a0L m).Pairwise (· < ·) := List.pairwise_lt_range.sublist List.filter_sublist
 refine List.Perm.eq_of_pairwise (le := (· < ·)) (fun a b _ _ h1 h2 => by omega) (a7H n m) up ((List.perm_ext_iff_of_nodup ((a7H n m).imp fun h => Nat.ne_of_lt h) (up.imp fun h => Nat.ne_of_lt h)).mpr fun x => ?_)
 rw [mem_bitsN, a1L m10]
 refine ⟨fun h => h.2, fun h => ⟨Classical.byContradiction fun c => ?_, h⟩⟩
 rw [a1C ml (by omega)] at h
 cases h
theorem b3N (f : Nat -> Bool) : ∀ l : List Nat, l.filterMap (fun (j : Nat) => if f j = true then some (V.int (j : Int)) else none) = natV (l.filter f)
 | [] => rfl
 | x :: r => by
  rw [List.filter_cons, List.filterMap_cons]
  by_cases c : f x = true
  ·simp only [if_pos c]
   rw [b3N f r]
   rfl
  ·simp only [if_neg c]
   rw [b3N f r]
def c2D (K : Φρ) : Sp := fun vs H Q _ => ∃ (n m : Nat), vs = [.int (n : Int), .int (m : Int)] /\ n <= 10 /\ ∀ r H', Same H H' -> H r = none -> H' r = some (.lst (natV (a3C n m))) -> Q (.ref r) H'
def b2H (n : Nat) (ts : List ζζ) (m v p : Nat) : Prop := ∀ u, p.testBit u = true ↔ m.testBit u = true /\ Rch ts (a0L m) v n u
def c2E (K : Φρ) : Sp := fun vs H Q _ => ∃ (n m v : Nat) (a : Addr) (ts : List ζζ) (ns : List Nat), vs = [.ref a, .int (m : Int), .int ((2 ^ v : Nat) : Int)] /\ n <= 10 /\ SqL K H a (natV ns) /\ NearM n ts ns /\ m < 2 ^ n /\ m.testBit v = true /\
 ∀ p : Nat, p < 2 ^ n -> b2H n ts m v p -> Q (.int (p : Int)) H
theorem a4J {ts : List ζζ} {ls : List Nat} {y x : Nat} {k : Nat} : ∀ {j : Nat}, k <= j -> Rch ts ls y k x -> Rch ts ls y j x
 | 0, h, r => by
  have : k = 0 := by omega
  rw [this] at r; exact r
 | j + 1, h, r => by
  by_cases c : k = j + 1
  ·rw [c] at r; exact r
  ·exact .inl (a4J (j := j) (by omega) r)
theorem b4Z {n m v p : Nat} {ts : List ζζ} (hv : m.testBit v = true) (h : b2H n ts m v p) : p.testBit v = true := (h v).mpr ⟨hv, a4J (k := 0) (Nat.zero_le _) rfl⟩
theorem b0A {n m v p : Nat} {ts : List ζζ} (m10 : m < 2 ^ 10) (h : b2H n ts m v p) : ∀ k, k <= n -> ∀ u, m.testBit u = true -> Rch ts (a0L m) v k u -> Rc ts (bitP p) v u
 | 0, _, u, hu, r => by
  have e : u = v := r
  subst e
  exact .refl ((h u).mpr ⟨hu, a4J (k := 0) (Nat.zero_le _) rfl⟩)
 | k + 1, hk, u, hu, r => by
  rcases r with r | ⟨z, hz, t, r⟩
  ·exact b0A m10 h k (by omega) u hu r
  ·have hz' := (a1L m10).mp hz
   exact .step (b0A m10 h k (by omega) z hz' r) (a1J t) ((h u).mpr ⟨hu, a4J (k := k + 1) hk (.inr ⟨z, hz, t, r⟩)⟩)
theorem c2F {n m v p : Nat} {ts : List ζζ} (m10 : m < 2 ^ 10) (hv : m.testBit v = true) (h : b2H n ts m v p) : JnM ts p :=
 ⟨v, b4Z hv h, fun y hy => by
  obtain ⟨h1, h2⟩ := (h y).mp hy
  exact b0A m10 h n (Nat.le_refl _) y h1 h2⟩
section
variable {P : Program} {w : World} {K : Φρ} {mg : Str -> Option Value} {base : Heap}
abbrev DZ4 (K : PySem.W.Frag) (mg : Str -> Option Value) := Dn K mg "_law_list" a8H ["_law_n", "_law_number_here"]
set_option maxHeartbeats 8000000 in
theorem a6T (B : Bl mg) (dZ4 : DZ4 K mg) : FnOk P w K mg base CX0 1 dZ4.f dZ4.fd ["_law_n", "_law_number_here"] (c2D K) := by
 refine dZ4.F.ok b2G (fun vs H Q E h => ?_) (fun cdv A outer s H vs Q E hr h => ?_)
 ·obtain ⟨n, m, rfl, _⟩ := h
  rfl
 obtain ⟨n, m, rfl, n10, q⟩ := h
 refine ⟨_, (a0D (a0O (a3W ["_law_v", "_law_number_here"] [none, some 1]  (by kernel_rfl) rfl (a1U rfl B.range (a0A (pv 0) a0C)) (fun _ _ _ _ _ => (a0H (i := 0) (show (["_law_v", "_law_number_here"] : List Str).Nodup by decide +kernel) rfl (Or.inl rfl))) (fun _ _ _ _ _ => (a4R (a0N a3U (a0K a2C (a0K b3W (pv 1) (pv 0)) a0E) a0E (a0W _)))) (fun _ _ _ _ _ => (pv 0))))), ?_⟩
 refine ⟨_, rfl, (n : Int), rfl, by omega, by omega, ?_⟩
 rw [Int.toNat_natCast]
 refine a7N (lo := 0) (n := n) (fun j => if m.testBit j = true then some (.int (j : Int)) else none) (by omega) (fun j H7 N hj s7 hN => ?_) (fun H7 pp H6 s7 n6 => ?_)
 ·have ej : (0 + (j : Int)) = ((j : Nat) : Int) := by omega
  rw [ej]
  have hN' := hN H7 s7
  refine ⟨_, rfl, _, rfl, _, _, rfl, rfl, (show (0 : Int) <= _ by omega), _, _, rfl, rfl, (show (0 : Int) < _ by decide), rfl, _, rfl, ?_⟩
  rw [bitV]
  by_cases c : m.testBit j = true
  ·rw [if_pos c] at hN'
   rw [c]
   exact iteT ⟨_, rfl, hN'⟩
  ·rw [if_neg c] at hN'
   rw [Bool.not_eq_true] at c
   rw [c]
   exact iteF hN'
 rw [b3N] at n6
 exact q pp H6 (s7.trans n6.same) (s7.free n6.fresh) n6.here
abbrev DZ8 (K : PySem.W.Frag) (mg : Str -> Option Value) := Dn K mg "_law_piece" a6S ["_law_near_here", "_law_number_here", "_law_piece_here"]
set_option maxHeartbeats 8000000 in
theorem a5O (B : Bl mg) (dZ9 : DZ9 K mg) (dZ8 : DZ8 K mg) : FnOk P w K mg base CX0 2 dZ8.f dZ8.fd ["_law_near_here", "_law_number_here", "_law_piece_here"] (c2E K) := by
 have gZ9 : FnOk P w K mg base CX0 1 _ _ _ _ := a5N B dZ9
 refine dZ8.F.ok sc__law_piece (fun vs H Q E h => ?_) (fun cdv A outer s H vs Q E hr h => ?_)
 ·obtain ⟨n, m, v, a, ts, ns, rfl, _⟩ := h
  rfl
 obtain ⟨n, m, v, a, ts, ns, rfl, n10, hA, NM, ml, hv, q⟩ := h
 have p10 : 2 ^ n <= 1024 := Nat.pow_le_pow_right (show 0 < 2 by decide) n10
 have m10 : m < 2 ^ 10 := Nat.lt_of_lt_of_le ml p10
 have mp : ∀ x, x ∈ a0L m ↔ m.testBit x = true := fun x => a1L m10
 refine ⟨_, (a0B (a1I PassesOwn.never rfl (a0R (K := K) rfl (pv 0)) (a0H (i := 3) sc__law_piece.nd rfl (Or.inl rfl))
   (a0D (a0M (i := 2) sc__law_piece.nd rfl (Or.inl rfl) (a0K a7L (pv 2) (a0K a3T (a0G gZ9 hr rfl dZ9.m dZ9.F.kp dZ9.b .nil a0U (a0A (pv 0) (a0A (pv 2) a0C))) (pv 1))))))
   (a0D (a0O (pv 2)))), ?_⟩
 refine ⟨_, rfl, a, rfl, ⟨_, hA⟩, ?_⟩
 have small : ∀ {p k : Nat}, (∀ u, p.testBit u = true ↔ m.testBit u = true /\ Rch ts (a0L m) v k u) -> p < 2 ^ n := fun {p k} bits => a1T fun u hu => Classical.byContradiction fun c => by
  have := ((bits u).mp hu).1
  rw [a1C ml (by omega)] at this
  cases this
 refine a2E (xs := natV ns) (fun i σ H' => (∃ (p : Nat) (ag : Option V), σ = [some (.ref a), some (.int (m : Int)), some (.int (p : Int)), ag] /\ ∀ u, p.testBit u = true ↔ m.testBit u = true /\ Rch ts (a0L m) v i u) /\ H' = H) ⟨⟨2 ^ v, none, rfl, fun u => ?_⟩, rfl⟩ (fun i σ H' _ ⟨_, e⟩ => e ▸ hA) ?_ ?_
 ·rw [Nat.testBit_two_pow, decide_eq_true_iff]
  constructor
  ·rintro rfl; exact ⟨hv, rfl⟩
  ·rintro ⟨_, h⟩; exact (show u = v from h).symm
 ·rintro i x σ H1 hx ⟨⟨p, ag, rfl, bits⟩, rfl⟩
  have pl := small bits
  refine ⟨_, rfl, _, rfl, _, rfl, n, p, a, ts, ns, rfl, n10, hA, NM, pl, fun r rl rb => ⟨_, rfl, _, _, rfl, rfl, _, _, rfl, rfl, ?_⟩⟩
  dsimp only
  rw [a3M, a4M]
  refine ⟨⟨_, _, rfl, fun u => ?_⟩, rfl⟩
  rw [Nat.testBit_or, Nat.testBit_and, Bool.or_eq_true, Bool.and_eq_true, rb, bits]
  constructor
  ·rintro (⟨h1, h2⟩ | ⟨h1 | ⟨z, h1, h2⟩, h3⟩)
   ·exact ⟨h1, .inl h2⟩
   ·exact ⟨h3, .inl h1.2⟩
   ·have := (bits z).mp h1
    exact ⟨h3, .inr ⟨z, (mp z).mpr this.1, a1J h2, this.2⟩⟩
  ·rintro ⟨h1, h2 | ⟨z, h2, h3, h4⟩⟩
   ·exact .inl ⟨h1, h2⟩
   ·exact .inr ⟨.inr ⟨z, (bits z).mpr ⟨(mp z).mp h2, h4⟩, a1J h3⟩, h1⟩
 ·rintro σ H1 ⟨⟨p, ag, rfl, bits⟩, rfl⟩
  rw [a0J, NM.len] at bits
  exact ⟨_, rfl, q p (small bits) bits⟩
end
abbrev a5P : Stmt := top 46
theorem sc__law_number : FnScope ["_law_n", "_law_part", "_law_last", "_law_place"] ["_law_n", "_law_part"] (a0F a5P) := ⟨rfl, rfl, rfl, by decide +kernel, rfl, by decide +kernel, by decide +kernel⟩
def c2G (K : Φρ) : Sp := fun vs H Q _ => ∃ (n : Nat) (a : Addr) (p : List Nat), vs = [.int n, .ref a] /\ H a = some (.lst (natV p)) /\ p.Pairwise (· < ·) /\ (∀ x ∈ p, x < n) /\ n <= 10 /\ ∀ H', Same H H' -> Q (.int ((a0Q p : Nat) : Int)) H'
theorem c9I {K : Φρ} : PySem.W.kitOne K (.type "list") (.type "list") = some true := by rfl
theorem c9J {K : Φρ} : PySem.W.kitOne K (.type "int") (.type "int") = some true := by rfl
theorem c9K {K : Φρ} : PySem.W.kitOne K (.type "int") (.type "bool") = some false := by rfl
theorem b5A : ∀ {p : List Nat}, p.Nodup -> (p.map fun (v : Nat) => ((2 ^ v : Nat) : Int)).sum = ((a0Q p : Nat) : Int)
 | [], _ => rfl
 | v :: r, nd => by
  obtain ⟨nv, nr⟩ := List.nodup_cons.mp nd
  have f : (a0Q r).testBit v = false := by rw [a1S]; exact decide_eq_false nv
  obtain ⟨_, _, a⟩ := a2J f
  rw [List.map_cons, List.sum_cons, b5A nr]
  show _ = ((a0Q r ||| 2 ^ v : Nat) : Int)
  omega
section
variable {P : Program} {w : World} {K : Φρ} {mg : Str -> Option Value} {base : Heap}
abbrev DZ7 (K : PySem.W.Frag) (mg : Str -> Option Value) := Dn K mg "_law_number" a5P ["_law_n", "_law_part"]
set_option maxHeartbeats 8000000 in
theorem a8S (B : Bl mg) (Bs : mg "sum" = none) (dZ7 : DZ7 K mg) : FnOk P w K mg base CX0 1 dZ7.f dZ7.fd ["_law_n", "_law_part"] (c2G K) := by
 refine dZ7.F.ok sc__law_number (fun vs H Q E h => ?_) (fun cdv A outer s H vs Q E hr h => ?_)
 ·obtain ⟨n, a, p, rfl, _⟩ := h
  rfl
 obtain ⟨n, a, p, rfl, hA, up, lt, n10, q⟩ := h
 have nd : p.Nodup := up.imp fun h => Nat.ne_of_lt h
 have ll := a2K nd lt
 refine ⟨_, (a0B (a1Q (a3D (a0T (K := K) rfl (a0I (a1B (K := K) rfl) rfl B.isinstance (by decide +kernel) (a0A (pv 1) (a0A (a2N (v := .ty "list") (u := .type "list") rfl B.list (by decide +kernel) rfl) a0C))) (fun _ => rfl)))
   (a0D (a0O (b0H a6E a0E)))
   a0V)
   (a0B (a0M (i := 2) sc__law_number.nd rfl (Or.inl rfl) (b0H a6E a0E))
   (a0B (a1I PassesOwn.never rfl (a0R (K := K) rfl (pv 1)) (a0H (i := 3) sc__law_number.nd rfl (Or.inl rfl))
   (a0B (a1Q (PW.pt (a4Q (a3D (a0T (K := K) rfl (a0I (a1B (K := K) rfl) rfl B.isinstance (by decide +kernel) (a0A (pv 3) (a0A (a2N (v := .ty "int") (u := .type "int") rfl B.int (by decide +kernel) rfl) a0C))) (fun _ => rfl))) (a4Q (a0T (K := K) rfl (a0I (a1B (K := K) rfl) rfl B.isinstance (by decide +kernel) (a0A (pv 3) (a0A (a2N (v := .ty "bool") (u := .type "bool") rfl B.bool (by decide +kernel) rfl) a0C))) (fun _ => rfl)) (a4Q (a0N c6F (pv 3) (pv 2) (a0W _)) (a4W (a0N c6G (pv 3) (pv 0) (a0W _)))))))
   (a0D (a0O (b0H a6E a0E)))
   a0V)
   (a0D (a0M (i := 2) sc__law_number.nd rfl (Or.inl rfl) (pv 3)))))
   (a0D (a0O (a0I (b1B (K := K) rfl rfl) rfl Bs (by decide +kernel) (a0A (a3W ["_law_place"] [none]  (by kernel_rfl) rfl (a0R (K := K) rfl (pv 1)) (fun _ _ _ _ _ => (a0H (i := 0) (show (["_law_place"] : List Str).Nodup by decide +kernel) rfl (Or.inl rfl))) (fun _ _ _ _ _ => a1G) (fun _ _ _ _ _ => (a0K a1Z a0E (pv 0)))) a0C))))))), ?_⟩
 refine ⟨_, rfl, _, _, _, _, _, rfl, rfl, TyOf.lst hA, c9I, _, rfl, iteF ?_⟩
 refine ⟨_, rfl, ?_⟩
 refine ⟨_, rfl, a, rfl, ⟨_, SqL.of hA⟩, ?_⟩
 refine a2E (xs := natV p) (fun i σ H' => (∃ (la : Int) (pp : Option V), σ = [some (.int n), some (.ref a), some (.int la), pp] /\ ∀ x ∈ p.drop i, la < (x : Int)) /\ H' = H) ⟨⟨-1, _, rfl, fun x _ => by omega⟩, rfl⟩ (fun i σ H' _ ⟨_, e⟩ => e ▸ SqL.of hA) ?_ ?_
 ·rintro i x σ H1 hx ⟨⟨la, pp, rfl, low⟩, rfl⟩
  rw [List.getElem?_map] at hx
  obtain ⟨v, hv, rfl⟩ := Option.map_eq_some_iff.mp hx
  obtain ⟨hil, hiv⟩ := List.getElem?_eq_some_iff.mp hv
  have ed : p.drop i = v :: p.drop (i + 1) := by rw [List.drop_eq_getElem_cons hil, hiv]
  have vn := lt v (List.mem_of_getElem? hv)
  have lv := low v (by rw [ed]; exact List.mem_cons_self)
  refine ⟨_, rfl, _, _, _, _, _, rfl, rfl, TyOf.int _, c9J, _, rfl, iteF ?_⟩
  refine ⟨_, rfl, _, _, _, _, _, rfl, rfl, TyOf.int _, c9K, _, rfl, iteF ?_⟩
  refine ⟨_, rfl, _, rfl, _, _, rfl, rfl, _, rfl, ?_⟩
  rw [decide_eq_false (show ¬ (v : Int) <= la by omega)]
  refine iteF ⟨_, rfl, _, rfl, _, _, rfl, rfl, _, rfl, ?_⟩
  rw [decide_eq_false (show ¬ (n : Int) <= (v : Int) by omega)]
  refine iteF ⟨_, rfl, ⟨_, _, rfl, fun x hx => ?_⟩, rfl⟩
  have u2 : (v :: p.drop (i + 1)).Pairwise (· < ·) := ed ▸ up.sublist (List.drop_sublist _ _)
  have := (List.pairwise_cons.mp u2).1 x hx
  omega
 rintro σ H1 ⟨⟨la, pp, rfl, _⟩, rfl⟩
 refine ⟨_, rfl, a, rfl, ⟨_, SqL.of hA⟩, ?_⟩
 refine a4L (fun x => match x with | .int z => some (.int ((2 ^ z.toNat : Nat) : Int)) | _ => none) (SqL.of hA) (by rw [a0J]; omega) (fun x H2 N hx s2 hN => ?_) (fun H2 r H3 s2 n3 => ?_)
 ·obtain ⟨v, hv, rfl⟩ := List.mem_map.mp hx
  have hN' := hN H2 s2
  dsimp only at hN'
  rw [Int.toNat_natCast] at hN'
  have vn := lt v hv
  refine ⟨_, rfl, _, _, rfl, rfl, ⟨by omega, by omega, by decide⟩, ?_⟩
  dsimp only
  rw [shl1]
  exact hN'
 have e2 : (natV p).filterMap (fun x => match x with | .int z => some (V.int ((2 ^ z.toNat : Nat) : Int)) | _ => none) = (p.map fun (v : Nat) => ((2 ^ v : Nat) : Int)).map V.int := by
  unfold natV
  rw [List.filterMap_map, List.map_map]
  refine a3X fun m _ => ?_
  simp only [Function.comp_apply, Int.toNat_natCast]
 rw [e2] at n3
 refine ⟨r, _, rfl, SqL.of n3.here, ?_⟩
 rw [b5A nd]
 exact q H3 (s2.trans n3.same)
end
end K
namespace K
open PySem L2 Lw Bg
abbrev a4S : Stmt := top 38
theorem sc__law_cell : FnScope ["_law_script", "_law_k", "_law_number_here"] ["_law_script", "_law_k"] (a0F a4S) := ⟨rfl, rfl, rfl, by decide +kernel, rfl, by decide +kernel, by decide +kernel⟩
abbrev a4D : Stmt := top 39
theorem b0B : FnScope ["_law_cell_here", "_law_many"] ["_law_cell_here", "_law_many"] (a0F a4D) := ⟨rfl, rfl, rfl, by decide +kernel, rfl, by decide +kernel, by decide +kernel⟩
section
variable {P : Program} {w : World} {K : Φρ} {mg : Str -> Option Value} {base : Heap}
set_option maxHeartbeats 4000000 in
theorem b3O (B : Bl mg) (d : Dn K mg "_law_cell" a4S ["_law_script", "_law_k"]) : FnOk P w K mg base CX0 1 d.f d.fd ["_law_script", "_law_k"] (c6Q K) := by
 refine d.F.ok sc__law_cell (fun vs H Q E h => ?_) (fun cdv A outer s H vs Q E hr h => ?_)
 ·obtain ⟨a, ns, k, rfl, _⟩ := h
  rfl
 obtain ⟨a, ns, k, rfl, hS, h63, h0, h1, q⟩ := h
 refine ⟨_, (a0B (a1Q (a0N b5G (pv 1) (a0I (a0S (K := K) rfl) rfl B.len (by decide +kernel) (a0A (pv 0) a0C)) (a0W _))
   (a0D (a0O (a1D (a0P (K := K) rfl) (pv 0) (pv 1) (fun _ _ => rfl))))
   a0V)
   (a0B (a0M (i := 2) sc__law_cell.nd rfl (Or.inl rfl) (a0K a2U (a0K a8U (pv 1) a0E) a0E))
   (a5V (a1Q (a0N b5H (a0I (a0S (K := K) rfl) rfl B.len (by decide +kernel) (a0A (pv 0) a0C)) a0E (a0W _))
   (a0D (a0M (i := 2) sc__law_cell.nd rfl (Or.inl rfl) (a0K a2U (a0K a8U (a0K a2C (a1D (a0P (K := K) rfl) (pv 0) (a0K a2C (a0K a8U (pv 1) a0E) (a0I (a0S (K := K) rfl) rfl B.len (by decide +kernel) (a0A (pv 0) a0C))) (fun _ _ => rfl)) a0E) a0E) (a0K a8U (pv 1) a0E))))
   a0V)
   (a0D (a0O (a0K a2C (a0K a8U (pv 2) (pv 2)) a0E)))))), ?_⟩
 have hl : (ns.map V.int).length = ns.length := List.length_map _
 refine ⟨_, rfl, _, rfl, a, _, rfl, .inl hS, _, _, rfl, rfl, _, rfl, ?_⟩
 refine ite2 (fun c => ?_) (fun c => ?_)
 ·have c' : k < (((ns.map V.int).length : Nat) : Int) := of_decide_eq_true c
  rw [hl] at c'
  refine ⟨_, rfl, _, rfl, a, _, _, _, rfl, rfl, hS, a9O h0 c', ?_⟩
  have e : a2L ns k = ns.getD k.toNat 0 := by unfold a2L; rw [if_pos c']
  rw [e] at q
  exact q
 ·have c' : ¬ k < (((ns.map V.int).length : Nat) : Int) := of_decide_eq_false (Bool.eq_false_iff.mpr c)
  rw [hl] at c'
  refine ⟨_, rfl, _, _, rfl, rfl, .inr ⟨by decide, by decide⟩, _, _, rfl, rfl, ?_⟩
  refine ⟨fun σ' H' => ∃ z : Int, σ' = [some (.ref a), some (.int k), some (.int z)] /\ H' = H /\ a2L ns k = z * z % 2147483629 /\ -(2 ^ 64) < z /\ z < 2 ^ 64, ?_, ?_⟩
  rotate_left
  ·rintro σ' H' ⟨z, rfl, rfl, e, b1, b2⟩
   refine ⟨_, rfl, _, rfl, _, _, rfl, rfl, .inl ⟨b1, b2⟩, _, _, rfl, rfl, (show (0 : Int) < _ by decide), ?_⟩
   rw [e] at q
   exact q
  refine ⟨_, rfl, a, _, rfl, .inl hS, _, _, rfl, rfl, _, rfl, ?_⟩
  refine ite2 (fun z => ?_) (fun z => ?_)
  ·have z' : (0 : Int) < (((ns.map V.int).length : Nat) : Int) := of_decide_eq_true z
   rw [hl] at z'
   have m0 := Int.emod_nonneg (k * 7) (show (ns.length : Int) ≠ 0 by omega)
   have m1 := Int.emod_lt_of_pos (k * 7) z'
   have b := b5M (ns.getD (k * 7 % (ns.length : Int)).toNat 0) k h0 h1
   refine ⟨_, rfl, _, rfl, _, _, rfl, rfl, .inr ⟨by decide, by decide⟩, _, rfl, a, _, rfl, .inl hS, _, _, rfl, rfl, (by rw [hl]; exact z'), a, _, _, _, rfl, rfl, hS, (by rw [hl]; exact a9O m0 m1), _, _, rfl, rfl, (show (0 : Int) < _ by decide), _, _, rfl, rfl, .inr ⟨by decide, by decide⟩, _, rfl, _, _, rfl, rfl, .inr ⟨by decide, by decide⟩, _, _, rfl, rfl, ?_⟩
   refine ⟨_, rfl, rfl, ?_, b.1, b.2⟩
   unfold a2L; rw [if_neg c']; simp only [if_pos z']
  ·have z' : ¬ (0 : Int) < (((ns.map V.int).length : Nat) : Int) := of_decide_eq_false (Bool.eq_false_iff.mpr z)
   rw [hl] at z'
   refine ⟨_, rfl, rfl, ?_, by omega, by omega⟩
   unfold a2L; rw [if_neg c']; simp only [if_neg z']
set_option maxHeartbeats 4000000 in
theorem b5B (B : Bl mg) (d : Dn K mg "_law_mixed" a4D ["_law_cell_here", "_law_many"]) : FnOk P w K mg base CX0 1 d.f d.fd ["_law_cell_here", "_law_many"] c8U := by
 refine d.F.ok b0B (fun vs H Q E h => ?_) (fun cdv A outer s H vs Q E hr h => ?_)
 ·obtain ⟨c, m, rfl, _⟩ := h
  rfl
 obtain ⟨c, m, rfl, hm, q⟩ := h
 refine ⟨_, (a0D (a0O (a0K a2C (a0K a7K (a0K a2C (a0K a8U (a0K a2C (pv 0) (a0K a8V a0E a0E)) a0E) (a0K a8V a0E a0E)) (a0K a8V a0E a0E)) (pv 1)))), ?_⟩
 have p64 : (0 : Int) < 2 ^ 64 := by decide
 have a1 := Int.emod_nonneg c (show (2 ^ 64 : Int) ≠ 0 by decide)
 have a2 := Int.emod_lt_of_pos c p64
 refine ⟨_, rfl, _, _, rfl, rfl, ⟨by decide, by decide, by decide⟩, _, _, rfl, rfl, (show (0 : Int) < _ by decide), _, _, rfl, rfl, .inl ⟨?_, ?_⟩, _, _, rfl, rfl, ⟨by decide, by decide, by decide⟩, _, _, rfl, rfl, (show (0 : Int) < _ by decide), _, _, rfl, rfl, ⟨by decide, by decide, by decide⟩, _, _, rfl, rfl, ⟨by decide, by decide⟩, _, rfl, _, _, rfl, rfl, hm, ?_⟩
 ·show -(2 ^ 64) < c % 2 ^ 64
  omega
 ·exact a2
 ·exact q
end
theorem c5K {K : Φρ} {H : Hp} {Q : VK} {σ : St} {a : Addr} {qs : List Addr} {ss : List (List Nat)} (hA : H a = some (.lst (qs.map V.ref))) (pq : Paired (fun q l => H q = some (.lst (natV l))) qs ss) (l : ss.length <= 900)
  (h : ∀ pm ws H', Same H H' -> H pm = none -> H' pm = some (.lst (ws.map V.ref)) -> pm ∉ ws -> (∀ x ∈ ws, H x = none) -> Paired (fun q l => H' q = some (.lst (natV l))) ws ss -> Q (.ref pm) H') :
  a4K [none] (b2L 0) c6N (tCB (c2P K) (c3F (tVar 0) tNil)) σ H Q (Itl K a) := by
 have lq := Paired.length pq
 refine a5U (K := K) (a := a) (xs := qs.map V.ref) (fun i ys G => Same H G /\ ∃ ws : List Addr, ys = ws.map V.ref /\ (∀ x ∈ ws, H x = none) /\ Paired (fun q l => G q = some (.lst (natV l))) ws (ss.take i)) ⟨Same.refl _, [], rfl, fun x hx => absurd hx List.not_mem_nil, .nil⟩ (fun i ys G hi ⟨s, ws, e, fw, pw⟩ => ⟨SqL.of (s _ _ hA), ?_⟩) (fun i x ys G hi ⟨s, ws, e, fw, pw⟩ => ?_) ?_
 ·have := Paired.length pw
  rw [List.length_take] at this
  rw [e, List.length_map]
  exact Nat.le_of_lt (a1R (by omega))
 ·rw [List.getElem?_map] at hi
  obtain ⟨qi, hqi, rfl⟩ := Option.map_eq_some_iff.mp hi
  obtain ⟨p, hp, hqp⟩ := a0X pq hqi
  refine ⟨_, rfl, qi, _, rfl, .inl (SqL.of (s _ _ hqp)), fun pn G2 n3 => ⟨s.trans n3.same, ws ++ [pn], by rw [e, List.map_append]; rfl, fun x hx => ?_, ?_⟩⟩
  ·rcases List.mem_append.mp hx with hx | hx
   ·exact fw x hx
   ·rw [List.mem_singleton.mp hx]; exact s.free n3.fresh
  obtain ⟨hil, hix⟩ := List.getElem?_eq_some_iff.mp hp
  rw [List.take_succ_eq_append_getElem hil, hix]
  exact a2I (Paired.mapP pw fun _ _ q => n3.same _ _ q) n3.here
 intro ys G0 ⟨s0, ws, e0, fw, pw0⟩ pm hpm
 rw [List.length_map, lq, List.take_length] at pw0
 subst e0
 have nM := New.mk0 (H := G0) (p := pm) (o := .lst (ws.map V.ref)) hpm
 generalize upd G0 pm (.lst (ws.map V.ref)) = H3 at nM ⊢
 refine h pm ws H3 (s0.trans nM.same) (s0.free nM.fresh) nM.here (fun z => ?_) fw (Paired.mapP pw0 fun _ _ q => nM.same _ _ q)
 obtain ⟨i, hi⟩ := List.mem_iff_getElem?.mp z
 obtain ⟨p, _, hp⟩ := a0X pw0 hi
 have := nM.fresh
 rw [hp] at this
 cases this
def oneD (l : List Nat) : PyData := .list ((l.map fun (x : Nat) => (x : Int)).map PyData.int)
def c2H (ss : List (List Nat)) : PyData := .list (ss.map oneD)
theorem a3P (ss : List (List Nat)) : SeqAt.shaped (c2H ss) = true := by
 unfold SeqAt.shaped c2H
 have c : ∀ l, (oneD l).canLay0 = true := fun l => by unfold oneD; rw [PyData.canLay0, b3Y]
 have d : ∀ l, (oneD l).depth <= 1 := fun l => by unfold oneD; rw [PyData.depth, a8Y]; exact Nat.le_refl _
 rw [PyData.canLay0, b2S c, PyData.depth, Bool.true_and]
 exact decide_eq_true (by have := a4X d ss; omega)
theorem a5Q {K : Φρ} {H : Hp} : ∀ {qs : List Addr} {ss : List (List Nat)}, Paired (fun q l => H q = some (.lst (natV l))) qs ss -> IsDs K H (qs.map V.ref) (ss.map oneD)
 | _, _, .nil => .nil
 | _, _, .cons h r => .cons (by
   have := SqL.of (K := K) h
   rw [a0Y] at this
   exact .lst this (IsDs.ints _)) (a5Q r)
abbrev a4T : Stmt := top 45
theorem sc__law_sets : FnScope ["_law_script", "_law_n", "_law_near_here", "_law_sets_here", "_law_middle", "_law_singles", "_law_k", "_law_bits", "_law_part"] ["_law_script", "_law_n", "_law_near_here"] (a0F a4T) := ⟨rfl, rfl, rfl, by decide +kernel, rfl, by decide +kernel, by decide +kernel⟩
structure Sy (n : Nat) (ts : List ζζ) (ss : List (List Nat)) : Prop where
 up : ∀ p ∈ ss, p.Pairwise (· < ·)
 lt : ∀ p ∈ ss, ∀ x ∈ p, x < n
 jn : ∀ p ∈ ss, a4A ts p
 tc : ∀ p ∈ ss, ∀ q ∈ ss, Touch ts p q
theorem Touch.self {ts : List ζζ} {p : List Nat} (h : a4A ts p) : Touch ts p p := by
 obtain ⟨x, r, e⟩ := List.exists_cons_of_ne_nil h.1
 exact ⟨x, by rw [e]; exact List.mem_cons_self, x, by rw [e]; exact List.mem_cons_self, .inl rfl⟩
theorem Sy.nil {n : Nat} {ts : List ζζ} : Sy n ts [] := ⟨fun p hp => absurd hp List.not_mem_nil, fun p hp => absurd hp List.not_mem_nil, fun p hp => absurd hp List.not_mem_nil, fun p hp => absurd hp List.not_mem_nil⟩
theorem Sy.add {n : Nat} {ts : List ζζ} {ss : List (List Nat)} {p : List Nat} (h : Sy n ts ss) (up : p.Pairwise (· < ·)) (lt : ∀ x ∈ p, x < n) (jn : a4A ts p) (t1 : ∀ q ∈ ss, Touch ts q p) (t2 : ∀ q ∈ ss, Touch ts p q) : Sy n ts (ss ++ [p]) := by
 have mem : ∀ q ∈ ss ++ [p], q ∈ ss \/ q = p := fun q hq => (List.mem_append.mp hq).imp id List.mem_singleton.mp
 refine ⟨fun q hq => ?_, fun q hq => ?_, fun q hq => ?_, fun q hq r hr => ?_⟩
 ·rcases mem q hq with z | z
  ·exact h.up q z
  ·rw [z]; exact up
 ·rcases mem q hq with z | z
  ·exact h.lt q z
  ·rw [z]; exact lt
 ·rcases mem q hq with z | z
  ·exact h.jn q z
  ·rw [z]; exact jn
 ·rcases mem q hq with z | z
  ·rcases mem r hr with y | y
   ·exact h.tc q z r y
   ·rw [y]; exact t1 q z
  ·rw [z]
   rcases mem r hr with y | y
   ·exact t2 r y
   ·rw [y]; exact Touch.self jn
theorem Sy.ss {n : Nat} {ts : List ζζ} {ss : List (List Nat)} (h : Sy n ts ss) (l : ss.length <= 400) : SsOk n ts ss :=
 ⟨⟨h.up, h.lt, l⟩, h.jn, fun j k h1 h2 => by
  have g : ∀ i, i < ss.length -> ss.getD i [] ∈ ss := fun i hi => by
   rw [τα, List.getElem?_eq_getElem hi]
   exact List.getElem_mem hi
  exact h.tc _ (g j (by omega)) _ (g k h2)⟩
theorem b9P {n p : Nat} {ts : List ζζ} (n10 : n <= 10) (pl : p < 2 ^ n) (J : JnM ts p) : a4A ts (a3C n p) := by
 have mb : ∀ u, bitP p u -> u ∈ a3C n p := fun u hu => mem_bitsN.mpr ⟨Classical.byContradiction fun c => (by
  have : p.testBit u = true := hu
  rw [a1C pl (by omega)] at this
  cases this), hu⟩
 refine ⟨fun e => ?_, fun x hx y hy => ?_⟩
 ·obtain ⟨x, hx, _⟩ := J
  have := mb x hx
  rw [e] at this
  cases this
 ·have h := J.con (mem_bitsN.mp hx).2 (mem_bitsN.mp hy).2
  induction h with
  | refl _ => exact .inl rfl
  | step p t q ih =>
   rcases ih (mb _ p.snd) with e | r
   ·rw [e]; exact .inr (.one t)
   ·exact .inr (.step r (mb _ p.snd) t)
theorem b0C {ts : List ζζ} {x : Nat} : a4A ts [x] := ⟨List.cons_ne_nil _ _, fun a ha b hb => .inl (by rw [List.mem_singleton.mp ha, List.mem_singleton.mp hb])⟩
def ColS (H H' : Hp) (pl : Addr) (ss : List (List Nat)) : Prop := ∃ qs : List Addr, H' pl = some (.lst (qs.map V.ref)) /\ H pl = none /\ pl ∉ qs /\ (∀ q ∈ qs, H q = none) /\ Paired (fun q l => H' q = some (.lst (natV l))) qs ss
theorem ColS.add {H H1 H2 H3 : Hp} {pl pd : Addr} {qs : List Addr} {ss : List (List Nat)} {p : List Nat} (s1 : Same H H1) (hpl : H1 pl = some (.lst (qs.map V.ref))) (f : H pl = none) (nq : pl ∉ qs) (fq : ∀ q ∈ qs, H q = none) (pq : Paired (fun q l => H1 q = some (.lst (natV l))) qs ss)
  (s2 : Same H1 H2) (fd : H1 pd = none) (hd : H2 pd = some (.lst (natV p))) (c : Chg H2 pl (.lst (qs.map V.ref ++ [V.ref pd])) H3) : ColS H H3 pl (ss ++ [p]) := by
 have rp : pd ≠ pl := fun zz => by
  rw [zz, hpl] at fd
  cases fd
 refine ⟨qs ++ [pd], ?_, f, ?_, ?_, ?_⟩
 ·rw [c.here, List.map_append]; rfl
 ·intro zz
  rcases List.mem_append.mp zz with zz | zz
  ·exact nq zz
  ·exact rp (List.mem_singleton.mp zz).symm
 ·intro q hq
  rcases List.mem_append.mp hq with hq | hq
  ·exact fq q hq
  ·rw [List.mem_singleton.mp hq]; exact s1.free fd
 ·exact a2I (a4I pq fun q l hq h => (c.rest q fun zz => nq (by rw [<- zz]; exact hq)).trans (s2 _ _ h)) ((c.rest pd rp).trans hd)
def c2I (K : Φρ) : Sp := fun vs H Q _ => ∃ (a : Addr) (ns : List Int) (n : Nat) (pn : Addr) (nn : List Nat) (ts : List ζζ), vs = [.ref a, .int (n : Int), .ref pn] /\ SqL K H a (ns.map V.int) /\ ns.length <= 63 /\ n <= 10 /\ SqL K H pn (natV nn) /\ NearM n ts nn /\
 ∀ r ss H', Same H H' -> ColS H H' r ss -> Sy n ts ss -> ss.length <= 5 -> Q (.ref r) H'
theorem c9L (g y : Nat) : decide (V.int ((g : Int) / 2 ^ ((y : Nat) : Int).toNat % 2) = V.int 0) = !g.testBit y := by
 rw [Int.toNat_natCast, Nat.testBit_eq_decide_div_mod_eq]
 have e : ((g : Int) / 2 ^ y % 2) = ((g / 2 ^ y % 2 : Nat) : Int) := by
  rw [Int.natCast_emod, Int.natCast_ediv, Int.natCast_pow]; rfl
 rw [e]
 by_cases c : g / 2 ^ y % 2 = 1
 ·rw [c]; rfl
 ·rw [decide_eq_false c]
  exact decide_eq_true (by rw [show g / 2 ^ y % 2 = 0 by omega]; rfl)
section
variable {P : Program} {w : World} {K : Φρ} {mg : Str -> Option Value} {base : Heap}
abbrev DZ0 (K : PySem.W.Frag) (mg : Str -> Option Value) := Dn K mg "_law_cell" a4S ["_law_script", "_law_k"]
abbrev DZ10 (K : PySem.W.Frag) (mg : Str -> Option Value) := Dn K mg "_law_sets" a4T ["_law_script", "_law_n", "_law_near_here"]
abbrev DZ5 (K : PySem.W.Frag) (mg : Str -> Option Value) := Dn K mg "_law_mixed" a4D ["_law_cell_here", "_law_many"]
set_option maxHeartbeats 8000000 in
theorem b2I (B : Bl mg) (dZ0 : DZ0 K mg) (dZ5 : DZ5 K mg) (dZ9 : DZ9 K mg) (dZ8 : DZ8 K mg) (dZ4 : DZ4 K mg) (dZ10 : DZ10 K mg) : FnOk P w K mg base CX0 3 dZ10.f dZ10.fd ["_law_script", "_law_n", "_law_near_here"] (c2I K) := by
 have gZ0 : FnOk P w K mg base CX0 2 _ _ _ _ := (b3O B dZ0).mono (by decide)
 have gZ5 : FnOk P w K mg base CX0 2 _ _ _ _ := (b5B B dZ5).mono (by decide)
 have gZ4 : FnOk P w K mg base CX0 2 _ _ _ _ := (a6T B dZ4).mono (by decide)
 have gZ8 : FnOk P w K mg base CX0 2 _ _ _ _ := a5O B dZ9 dZ8
 refine dZ10.F.ok sc__law_sets (fun vs H Q E h => ?_) (fun cdv A outer s H vs Q E hr h => ?_)
 ·obtain ⟨a, ns, n, pn, nn, ts, rfl, _⟩ := h
  rfl
 obtain ⟨a, ns, n, pn, nn, ts, rfl, hS, h63, n10, hN, NM, q⟩ := h
 have hv : (A.deeper (PyProof.Rows.envOfC "_law_sets" (a0F a4T) s.heap.objs.size dZ10.f cdv)).units + 65 < cLine := by have := hr.un; omega
 refine ⟨_, (a0B (a0M (i := 3) sc__law_sets.nd rfl (Or.inl rfl) (a2S a0C))
   (a0B (a1Q (a0N a3U (pv 1) a0E (a0W _))
   (a0D (a0O (pv 3)))
   a0V)
   (a0B (a0M (i := 4) sc__law_sets.nd rfl (Or.inl rfl) (a0K a2C (a0G gZ0 hr rfl dZ0.m dZ0.F.kp dZ0.b .nil a0U (a0A (pv 0) (a0A a0E a0C))) (pv 1)))
   (a0B (a0M (i := 5) sc__law_sets.nd rfl (Or.inl rfl) (a5T a3U (a0K a2C (a0G gZ0 hr rfl dZ0.m dZ0.F.kp dZ0.b .nil a0U (a0A (pv 0) (a0A a0E a0C))) a0E) a0E (a0W _)))
   (a0B (a1I PassesOwn.never rfl (a1U rfl B.range (a0A (a0K a2C (a0K a7K (a0G gZ0 hr rfl dZ0.m dZ0.F.kp dZ0.b .nil a0U (a0A (pv 0) (a0A a0E a0C))) a0E) a0E) a0C)) (a0H (i := 6) sc__law_sets.nd rfl (Or.inl rfl))
   (a0B (a0M (i := 7) sc__law_sets.nd rfl (Or.inr rfl) (a0G gZ5 hr rfl dZ5.m dZ5.F.kp dZ5.b .nil a0U (a0A (a0G gZ0 hr rfl dZ0.m dZ0.F.kp dZ0.b .nil a0U (a0A (pv 0) (a0A (a0K a2U a0E (pv 6)) a0C))) (a0A (a0K a1Z a0E (pv 1)) a0C))))
   (a0D (a1Q (a3D (a0T (K := K) rfl (pv 5) (fun _ => rfl)))
   (a0B (a0M (i := 8) sc__law_sets.nd rfl (Or.inl rfl) (a0G gZ4 hr rfl dZ4.m dZ4.F.kp dZ4.b .nil a0U (a0A (pv 1) (a0A (a0G gZ8 hr rfl dZ8.m dZ8.F.kp dZ8.b .nil a0U (a0A (pv 2) (a0A (a0K a7L (pv 7) (a0K a1Z a0E (pv 4))) (a0A (a0K a1Z a0E (pv 4)) a0C)))) a0C))))
   (a0D (a1Q (a0N (a4G (K := K) rfl hv) (pv 8) (pv 3) (by with_unfolding_all rfl))
   (a0D (a2O (a3R (K := K) rfl PySem.F.plainAttrs_list PySem.F.slot_list_append PySem.F.type_list_append a1X (pv 3) (a0A (pv 8) a0C))))
   a0V)))
   (a0D (a1Q (a0N a3U (a0I (a0S (K := K) rfl) rfl B.len (by decide +kernel) (a0A (a3W ["_law_one", "_law_near_here", "_law_bits", "_law_n"] [none, some 2, some 7, some 1]  (by kernel_rfl) rfl (a0R (K := K) rfl (pv 3)) (fun _ _ _ _ _ => (a0H (i := 0) (show (["_law_one", "_law_near_here", "_law_bits", "_law_n"] : List Str).Nodup by decide +kernel) rfl (Or.inl rfl))) (fun _ _ _ _ _ => (a4R (a0N a3U (a0K a2C (a0K b3W (a1D (a0P (K := K) rfl) (pv 1) (a1D (a0P (K := K) rfl) (pv 0) a0E (fun _ _ => rfl)) (fun _ _ => rfl)) (a0K a2C (pv 2) (pv 3))) a0E) a0E (a0W _)))) (fun _ _ _ _ _ => a0E)) a0C)) a0E (a0W _))
   (a0D (a2O (a3R (K := K) rfl PySem.F.plainAttrs_list PySem.F.slot_list_append PySem.F.type_list_append a1X (pv 3) (a0A (a2S (a0A (a0K a2C (pv 7) (pv 1)) a0C)) a0C))))
   a0V))))))
   (a5V (a1Q (PW.pt (a7I (a0N b5H (a0I (a0S (K := K) rfl) rfl B.len (by decide +kernel) (a0A (pv 3) a0C)) a0E (a0W _)) (a4P (a0N a3U (a0K a2C (a0G gZ0 hr rfl dZ0.m dZ0.F.kp dZ0.b .nil a0U (a0A (pv 0) (a0A a0E a0C))) a0E) a0E (a0W _)))))
   (a0D (a2O (a3R (K := K) rfl PySem.F.plainAttrs_list PySem.F.slot_list_append PySem.F.type_list_append a1X (pv 3) (a0A (a2V (a3I (K := K) rfl) rfl B.list (by decide +kernel) (a0A (a1D (a0P (K := K) rfl) (pv 3) a0E (fun _ _ => rfl)) a0C)) a0C))))
   a0V)
   (a0D (a0O (pv 3))))))))), ?_⟩
 refine ⟨(by show 0 <= 1000; decide), fun pl H1 n1 => ?_⟩
 refine ⟨_, rfl, rfl, _, rfl, ite2 (fun c => ?_) (fun c => ?_)⟩
 ·exact ⟨_, rfl, q pl [] H1 n1.same ⟨[], n1.here, n1.fresh, List.not_mem_nil, fun q hq => absurd hq List.not_mem_nil, .nil⟩ Sy.nil (by decide)⟩
 have n0 : 0 < n := by
  rcases Nat.eq_zero_or_pos n with z | z
  ·exact absurd (decide_eq_true (by rw [z]; rfl)) c
  ·exact z
 clear c
 refine ⟨_, rfl, a, ns, 4, rfl, n1.same.seq hS, h63, by decide, by decide, _, rfl, _, _, rfl, rfl, (show (0 : Int) < _ by omega), ?_⟩
 obtain ⟨mid, emid, ml⟩ : ∃ mid : Nat, a2L ns 4 % (n : Int) = (mid : Int) /\ mid < n := by
  have y0 := Int.emod_nonneg (a2L ns 4) (show (n : Int) ≠ 0 by omega)
  have y1 := Int.emod_lt_of_pos (a2L ns 4) (show (0 : Int) < (n : Int) by omega)
  exact ⟨(a2L ns 4 % (n : Int)).toNat, by omega, by omega⟩
 dsimp only
 rw [emid]
 refine ⟨_, rfl, a, ns, 5, rfl, n1.same.seq hS, h63, by decide, by decide, _, _, rfl, rfl, (show (0 : Int) < _ by decide), rfl, ?_⟩
 obtain ⟨sg, esg⟩ : ∃ sg : Bool, decide (V.int (a2L ns 5 % 3) = V.int 1) = sg := ⟨_, rfl⟩
 dsimp only
 rw [esg]
 have g0 := Int.emod_nonneg (a2L ns 5 / 3) (show (5 : Int) ≠ 0 by decide)
 have g1 := Int.emod_lt_of_pos (a2L ns 5 / 3) (show (0 : Int) < 5 by decide)
 obtain ⟨z, hz⟩ : ∃ z : Nat, a2L ns 5 / 3 % 5 = (z : Int) := ⟨(a2L ns 5 / 3 % 5).toNat, by omega⟩
 refine ⟨_, rfl, a, ns, 5, rfl, n1.same.seq hS, h63, by decide, by decide, _, _, rfl, rfl, ⟨by decide, by decide⟩, _, _, rfl, rfl, (show (0 : Int) < _ by decide), (z : Int), congrArg (fun x => [V.int x]) hz, by omega, by omega, ?_⟩
 rw [Int.toNat_natCast]
 refine a2B (n := z) (fun i σ H' => (∃ kk bb pp : Option V, σ = [some (.ref a), some (.int (n : Int)), some (.ref pn), some (.ref pl), some (.int (mid : Int)), some (.bl sg), kk, bb, pp]) /\ Same H H' /\ ∃ ss, ColS H H' pl ss /\ Sy n ts ss /\ ss.length <= i /\ (sg = false -> ∀ p ∈ ss, mid ∈ p) /\ (sg = true -> ∀ p ∈ ss, ∃ x, x < n /\ p = [x])) ⟨⟨none, none, none, rfl⟩, n1.same, [], ⟨[], n1.here, n1.fresh, List.not_mem_nil, fun q hq => absurd hq List.not_mem_nil, .nil⟩, Sy.nil, Nat.le_refl _, fun _ p hp => absurd hp List.not_mem_nil, fun _ p hp => absurd hp List.not_mem_nil⟩ ?_ ?_
 ·rintro k σ H2 hk ⟨⟨kk, bb, pp, rfl⟩, s2, ss, ⟨qs, hpl, fpl, nq, fq, pq⟩, SY, lS, mS, oS⟩
  have ek : (0 + (k : Int)) = ((k : Nat) : Int) := by omega
  rw [ek]
  have lq := Paired.length pq
  have hS2 := s2.seq hS
  have hN2 := s2.seq hN
  refine ⟨_, rfl, _, rfl, _, _, rfl, rfl, a, ns, 6 + (k : Int), rfl, hS2, h63, by omega, by omega, _, rfl, _, _, rfl, rfl, ⟨by omega, by omega, by decide⟩, _, _, rfl, (by rw [shl1]; exact Int.natCast_pos.mpr (Nat.pow_pos (by decide))), ?_⟩
  have pos : (0 : Int) < 1 * 2 ^ ((n : Nat) : Int).toNat := by rw [shl1]; exact Int.natCast_pos.mpr (Nat.pow_pos (by decide))
  have m0 := c3R (c := a2L ns (6 + (k : Int))) pos
  have m1 := c3S (c := a2L ns (6 + (k : Int))) pos
  dsimp only
  generalize mixF (a2L ns (6 + (k : Int))) (1 * 2 ^ ((n : Nat) : Int).toNat) = mz at m0 m1 ⊢
  rw [shl1] at m1
  obtain ⟨b, rfl⟩ : ∃ b : Nat, mz = (b : Int) := ⟨mz.toNat, by omega⟩
  have bl : b < 2 ^ n := by exact_mod_cast m1
  clear m0 m1 pos
  refine ⟨_, rfl, _, rfl, ?_⟩
  cases sg with
  | false =>
   refine iteT ?_
   have mb : (b ||| 2 ^ mid).testBit mid = true := by rw [Nat.testBit_or, Nat.testBit_two_pow_self, Bool.or_true]
   have bl2 : b ||| 2 ^ mid < 2 ^ n := Nat.or_lt_two_pow bl (Nat.pow_lt_pow_right (by decide) ml)
   refine ⟨_, rfl, _, rfl, _, rfl, _, rfl, _, _, rfl, rfl, ⟨by omega, by omega, by decide⟩, _, _, rfl, rfl, _, rfl, _, _, rfl, rfl, ⟨by omega, by omega, by decide⟩, n, b ||| 2 ^ mid, mid, pn, ts, nn, (by show [V.ref pn, V.int (Builtin.bitOr (b : Int) (1 * 2 ^ ((mid : Nat) : Int).toNat)), V.int (1 * 2 ^ ((mid : Nat) : Int).toNat)] = _; rw [shl1, a4M]), n10, hN2, NM, bl2, mb, fun p pl' PM => ?_⟩
   refine ⟨n, p, rfl, n10, fun pr H3 s3 f3 h3 => ?_⟩
   have m10 : b ||| 2 ^ mid < 2 ^ 10 := Nat.lt_of_lt_of_le bl2 (Nat.pow_le_pow_right (by decide) n10)
   have J := b9P n10 pl' (c2F m10 mb PM)
   have mi : mid ∈ a3C n p := mem_bitsN.mpr ⟨ml, b4Z mb PM⟩
   have touch : ∀ q ∈ ss, Touch ts q (a3C n p) := fun q hq => ⟨mid, mi, mid, mS rfl q hq, .inl rfl⟩
   have touch' : ∀ q ∈ ss, Touch ts (a3C n p) q := fun q hq => ⟨mid, mS rfl q hq, mid, mi, .inl rfl⟩
   have iP : IsD K H3 (.ref pr) (oneD (a3C n p)) := by
    have := SqL.of (K := K) h3
    rw [a0Y] at this
    exact .lst this (IsDs.ints _)
   refine ⟨_, rfl, _, rfl, oneD (a3C n p), ss.map oneD, iP, .lst (SqL.of (s3 _ _ hpl)) (a5Q (Paired.mapP pq fun _ _ h => s3 _ _ h)), a1O _, a3P _, _, rfl, ?_⟩
   refine ite2 (fun _ => ?_) (fun _ => ⟨⟨_, _, _, rfl⟩, s2.trans s3, ss, ⟨qs, s3 _ _ hpl, fpl, nq, fq, Paired.mapP pq fun _ _ h => s3 _ _ h⟩, SY, by omega, mS, oS⟩)
   refine ⟨_, rfl, .inl ⟨rfl, _, SqL.of (s3 _ _ hpl)⟩, _, rfl, pl, _, _, rfl, rfl, s3 _ _ hpl, by rw [List.length_map]; omega, fun H9 c9 => ⟨⟨_, _, _, rfl⟩, (s2.trans s3).chg fpl c9, ss ++ [a3C n p], ColS.add s2 hpl fpl nq fq pq s3 f3 h3 c9, SY.add (a7H _ _) (fun x hx => (mem_bitsN.mp hx).1) J touch touch', by rw [List.length_append]; show ss.length + 1 <= k + 1; omega, fun _ p' hp' => ?_, fun z => by cases z⟩⟩
   rcases List.mem_append.mp hp' with z | z
   ·exact mS rfl p' z
   ·rw [List.mem_singleton.mp z]; exact mi
  | true =>
   refine iteF ?_
   obtain ⟨c, ec, cl⟩ : ∃ c : Nat, (b : Int) % (n : Int) = (c : Int) /\ c < n := by
    have y0 := Int.emod_nonneg (b : Int) (show (n : Int) ≠ 0 by omega)
    have y1 := Int.emod_lt_of_pos (b : Int) (show (0 : Int) < (n : Int) by omega)
    exact ⟨((b : Int) % (n : Int)).toNat, by omega, by omega⟩
   refine ⟨_, rfl, pl, rfl, ⟨_, SqL.of hpl⟩, ?_⟩
   refine a5U (K := K) (a := pl) (xs := qs.map V.ref) (fun i ys G => Same H2 G /\ ys.length <= i /\ (ys = [] -> ∀ p ∈ ss.take i, ∀ x ∈ p, tieT ts x c = true)) ⟨Same.refl _, Nat.le_refl _, fun _ p hp => absurd hp List.not_mem_nil⟩ (fun i ys G hi ⟨sG, l, _⟩ => ⟨SqL.of (sG _ _ hpl), Nat.le_of_lt (a1R (by rw [List.length_map] at hi; omega))⟩) (fun i x ys G hi ⟨sG, l, al⟩ => ?_) ?_
   ·rw [List.getElem?_map] at hi
    obtain ⟨qi, hqi, rfl⟩ := Option.map_eq_some_iff.mp hi
    obtain ⟨p, hp, hqp⟩ := a0X pq hqi
    obtain ⟨x, xl, rfl⟩ := oS rfl p (List.mem_of_getElem? hp)
    have l := NM.len
    refine ⟨_, rfl, _, rfl, qi, _, _, _, rfl, rfl, SqL.of (sG _ _ hqp), rfl, pn, _, _, _, rfl, rfl, sG.seq hN2, a2T (by omega), ?_⟩
    refine ⟨_, rfl, _, rfl, _, _, rfl, rfl, (show (0 : Int) < _ by omega), _, _, rfl, rfl, (show (0 : Int) <= (b : Int) % (n : Int) by omega), _, _, rfl, rfl, (show (0 : Int) < _ by decide), rfl, _, rfl, ?_⟩
    dsimp only
    rw [ec, c9L]
    obtain ⟨hil, hix⟩ := List.getElem?_eq_some_iff.mp hp
    cases cb : (nn.getD x 0).testBit c with
    | false =>
     exact iteT ⟨sG, by rw [List.length_append]; show ys.length + 1 <= i + 1; omega, fun z => absurd z (by simp)⟩
    | true =>
     refine iteF ⟨sG, by omega, fun z p' hp' y hy => ?_⟩
     rw [List.take_succ_eq_append_getElem hil, hix] at hp'
     rcases List.mem_append.mp hp' with hp' | hp'
     ·exact al z p' hp' y hy
     ·rw [List.mem_singleton.mp hp'] at hy
      rw [List.mem_singleton.mp hy, <- NM.bit x xl c]
      exact cb
   rintro ys G0 ⟨s0, l0, al⟩ po hpo
   rw [List.length_map, lq, List.take_length] at al
   have nO := New.mk0 (H := G0) (p := po) (o := .lst ys) hpo
   generalize upd G0 po (.lst ys) = H3 at nO ⊢
   have s23 := s0.trans nO.same
   have hpl3 := s23 _ _ hpl
   refine ⟨po, _, rfl, .inl (SqL.of nO.here), rfl, _, rfl, ite2 (fun cy => ?_) (fun _ => ⟨⟨_, _, _, rfl⟩, s2.trans s23, ss, ⟨qs, hpl3, fpl, nq, fq, Paired.mapP pq fun _ _ h => s23 _ _ h⟩, SY, by omega, mS, oS⟩)⟩
   have ey : ys = [] := by
    have : V.int ((ys.length : Nat) : Int) = V.int 0 := of_decide_eq_true cy
    injection this with this
    exact List.length_eq_zero_iff.mp (by omega)
   have tie := al ey
   refine ⟨_, rfl, .inl ⟨rfl, _, SqL.of hpl3⟩, _, rfl, _, rfl, _, _, rfl, rfl, (show (0 : Int) < _ by omega), (by show 1 <= 1000; decide), fun pd H9 n9 => ?_⟩
   have n9' : New H3 pd (.lst [V.int ((b : Int) % (n : Int))]) H9 := n9
   rw [ec] at n9'
   refine ⟨pl, _, _, rfl, rfl, n9.same _ _ hpl3, by rw [List.length_map]; omega, fun H10 c10 => ⟨⟨_, _, _, rfl⟩, (s2.trans (s23.trans n9.same)).chg fpl c10, ss ++ [[c]], ColS.add s2 hpl fpl nq fq pq (s23.trans n9.same) (s23.free n9.fresh) n9'.here c10, SY.add (List.pairwise_singleton _ _) (fun x hx => by rw [List.mem_singleton.mp hx]; exact cl) b0C (fun q hq => ?_) (fun q hq => ?_), by rw [List.length_append]; show ss.length + 1 <= k + 1; omega, (fun z => by cases z), fun _ p' hp' => ?_⟩⟩
   ·obtain ⟨x, xl, rfl⟩ := oS rfl q hq
    exact ⟨c, List.mem_singleton.mpr rfl, x, List.mem_singleton.mpr rfl, .inr (tie _ hq x (List.mem_singleton.mpr rfl))⟩
   ·obtain ⟨x, xl, rfl⟩ := oS rfl q hq
    exact ⟨x, List.mem_singleton.mpr rfl, c, List.mem_singleton.mpr rfl, .inr (a1J (tie _ hq x (List.mem_singleton.mpr rfl)))⟩
   ·rcases List.mem_append.mp hp' with y | y
    ·exact oS rfl p' y
    ·exact ⟨c, cl, List.mem_singleton.mp y⟩
 ·rintro σ H2 ⟨⟨kk, bb, pp, rfl⟩, s2, ss, ⟨qs, hpl, fpl, nq, fq, pq⟩, SY, lS, _, _⟩
  have lq := Paired.length pq
  have stay : ∃ ss, ColS H H2 pl ss /\ Sy n ts ss /\ ss.length <= 5 := ⟨ss, ⟨qs, hpl, fpl, nq, fq, pq⟩, SY, by omega⟩
  refine ⟨fun σ' H' => (∃ kk bb pp : Option V, σ' = [some (.ref a), some (.int (n : Int)), some (.ref pn), some (.ref pl), some (.int (mid : Int)), some (.bl sg), kk, bb, pp]) /\ Same H H' /\ ∃ ss, ColS H H' pl ss /\ Sy n ts ss /\ ss.length <= 5, ?_, ?_⟩
  ·refine ⟨_, rfl, pl, _, rfl, .inl (SqL.of hpl), _, _, rfl, rfl, _, rfl, ite2 (fun c1 => ?_) (fun _ => iteF ⟨⟨_, _, _, rfl⟩, s2, stay⟩)⟩
   refine ⟨_, rfl, a, ns, 11, rfl, s2.seq hS, h63, by decide, by decide, _, _, rfl, rfl, (show (0 : Int) < _ by decide), rfl, _, rfl, ite2 (fun _ => ?_) (fun _ => ⟨⟨_, _, _, rfl⟩, s2, stay⟩)⟩
   cases qs with
   | nil => exact absurd (of_decide_eq_true c1) (by decide)
   | cons q0 qr =>
    obtain ⟨p0, sr, rfl, h0, rest⟩ : ∃ p0 sr, ss = p0 :: sr /\ H2 q0 = some (.lst (natV p0)) /\ Paired (fun q l => H2 q = some (.lst (natV l))) qr sr := by
     cases pq with
     | cons h0 rest => exact ⟨_, _, rfl, h0, rest⟩
    have m0 : p0 ∈ p0 :: sr := List.mem_cons_self
    refine ⟨_, rfl, .inl ⟨rfl, _, SqL.of hpl⟩, _, rfl, pl, _, _, _, rfl, rfl, SqL.of hpl, (show atI ((q0 :: qr).map V.ref) ((0 : Nat) : Int) = some (V.ref q0) from a2Q rfl), q0, _, rfl, .inl (SqL.of h0), fun pd H9 n9 => ?_⟩
    refine ⟨pl, _, _, rfl, rfl, n9.same _ _ hpl, by rw [List.length_map]; omega, fun H10 c10 => ⟨⟨_, _, _, rfl⟩, (s2.trans n9.same).chg fpl c10, _, ColS.add s2 hpl fpl nq fq (.cons h0 rest) n9.same n9.fresh n9.here c10, SY.add (SY.up _ m0) (SY.lt _ m0) (SY.jn _ m0) (fun q hq => SY.tc q hq _ m0) (fun q hq => SY.tc _ m0 q hq), by rw [List.length_append]; show (p0 :: sr).length + 1 <= 5; omega⟩⟩
  ·rintro σ H3 ⟨⟨kk, bb, pp, rfl⟩, s3, ss, CS, SY, l5⟩
   exact ⟨_, rfl, q pl ss H3 s3 CS SY l5⟩
end
end K
namespace K
open PySem L2 Lw Bg
abbrev a3B : Stmt := top 47
theorem sc__law_is_grown : FnScope ["_law_near_here", "_law_numbers", "_law_least", "_law_first", "_law_j", "_law_this", "_law_reach_here", "_law_counts", "_law_v", "_law_chosen"] ["_law_near_here", "_law_numbers", "_law_least", "_law_first"] (a0F a3B) := ⟨rfl, rfl, rfl, by decide +kernel, rfl, by decide +kernel, by decide +kernel⟩
theorem c5L : ∀ m : Nat, m < 1024 -> m = 0 \/ ∃ v : Nat, v < 10 /\ m.testBit v = true /\ Builtin.bitAnd (m : Int) (-(m : Int)) = ((2 ^ v : Nat) : Int) := by decide +kernel
theorem b6D {ts : List ζζ} {T : St'} {ls : List Nat} (h : ∀ u, T u -> u ∈ ls) {x y : Nat} (r : Rc ts T x y) : x = y \/ PathT ts ls x y := by
 induction r with
 | refl _ => exact .inl rfl
 | step p t _ ih =>
  rcases ih with e | q
  ·rw [e]; exact .inr (.one t)
  ·exact .inr (.step q (h _ p.snd) t)
theorem c7W {ts : List ζζ} {n m v u : Nat} (n10 : n <= 10) (ml : m < 2 ^ n) (J : JnM ts m) (hv : m.testBit v = true) (hu : m.testBit u = true) : Rch ts (a0L m) v n u := by
 have m10 : m < 2 ^ 10 := Nat.lt_of_lt_of_le ml (Nat.pow_le_pow_right (by decide) n10)
 have mp : ∀ x, x ∈ a0L m ↔ m.testBit x = true := fun x => a1L m10
 have l : (a0L m).length <= n := a2K (List.nodup_range.sublist List.filter_sublist) fun x hx => Classical.byContradiction fun c => by
  have := (mp x).mp hx
  rw [a1C ml (by omega)] at this
  cases this
 rcases b6D (ls := a0L m) (fun x hx => (mp x).mpr hx) (J.con hv hu) with e | p
 ·refine a4J (k := 0) (Nat.zero_le _) ?_
  exact e.symm
 ·exact a4J l (c5J ((mp u).mpr hu) ((mp v).mpr hv) p)
theorem b9Q {n m v p : Nat} {ts : List ζζ} (n10 : n <= 10) (ml : m < 2 ^ n) (J : JnM ts m) (hv : m.testBit v = true) (h : b2H n ts m v p) : p = m := Nat.eq_of_testBit_eq fun u => by
 rw [Bool.eq_iff_iff, h]
 exact ⟨fun z => z.1, fun z => ⟨z, c7W n10 ml J hv z⟩⟩
theorem b3P (l : List Nat) (k : Nat) (h : k <= l.length) : cutV (natV l) none (some (k : Int)) = natV (l.take k) := by
 unfold cutV
 have e1 : HT.sIx (natV l).length (natV l).length (some (k : Int)) = k := by
  rw [a0J]
  show min _ _ = k
  simp
  omega
 have e2 : HT.sIx (natV l).length 0 none = 0 := rfl
 rw [e1, e2, List.drop_zero, Nat.sub_zero]
 unfold natV
 rw [List.map_take]
theorem b9R {p : List Nat} {x : Nat} : ((x : Int) ∈ p.map fun (y : Nat) => (y : Int)) ↔ x ∈ p := by
 rw [List.mem_map]
 constructor
 ·rintro ⟨y, hy, e⟩
  have : y = x := by omega
  rw [<- this]; exact hy
 ·exact fun h => ⟨x, h, rfl⟩
theorem b9S {K : Φρ} {H : Hp} {b : Addr} {l : List Nat} {x : Nat} {Q : VK} (hS : SqL K H b (natV l)) (q : Q (.bl (decide (x ∈ l))) H) : rInD K false (.int (x : Int)) (.ref b) H Q := by
 rw [a0Y] at hS
 refine c2Q hS ?_
 rw [show decide ((x : Int) ∈ l.map fun (x : Nat) => (x : Int)) = decide (x ∈ l) from decide_eq_decide.mpr b9R]
 exact q
theorem a9I {K : Φρ} {H : Hp} {b : Addr} {l : List Nat} {x : Nat} {Q : VK} (hS : SqL K H b (natV l)) (q : Q (.bl (!decide (x ∈ l))) H) : rInD K true (.int (x : Int)) (.ref b) H Q := by
 rw [a0Y] at hS
 refine b0Z hS ?_
 rw [show decide ((x : Int) ∈ l.map fun (x : Nat) => (x : Int)) = decide (x ∈ l) from decide_eq_decide.mpr b9R]
 exact q
theorem c7X : ∀ v, v < 10 -> ∀ c, c < 2 ^ v -> popF (2 ^ v + c) = popF c + 1 := by decide +kernel
theorem c5M {v : Nat} (v10 : v < 10) : (List.range (2 ^ v)).map popF ++ ((List.range (2 ^ v)).map popF).map (· + 1) = (List.range (2 ^ (v + 1))).map popF := by
 rw [Nat.pow_succ, show 2 ^ v * 2 = 2 ^ v + 2 ^ v by omega, List.range_add, List.map_append, List.map_map, List.map_map]
 congr 1
 refine List.map_congr_left fun c hc => ?_
 exact (c7X v v10 c (List.mem_range.mp hc)).symm
theorem b5C {l : List Nat} (r : Nat) (f : Nat -> Nat) : (natV l).filterMap (fun x => match x with | .int z => some (V.int ((f z.toNat : Nat) : Int)) | _ => none) = natV (l.map f) := by
 unfold natV
 rw [List.filterMap_map, List.map_map]
 refine a3X fun m _ => ?_
 simp only [Function.comp_apply, Int.toNat_natCast]
structure GrM (n : Nat) (ts : List ζζ) (z : Int) (A B : List Nat) : Prop where
 fam : FamM n ts (A ++ B)
 nd : B.Nodup
 new : ∀ m ∈ B, m ∉ A
 few : (A ++ B).length <= 900
 big : ∀ Y, CvM (A ++ B) Y -> z < (a1A n Y : Int)
theorem GrM.fresh {n : Nat} {ts : List ζζ} {z : Int} {A B : List Nat} (h : GrM n ts z A B) {j : Nat} (hj : j < (A ++ B).length) (ja : A.length <= j) : (A ++ B).getD j 0 ∉ (A ++ B).take j := by
 obtain ⟨i, rfl⟩ : ∃ i, j = A.length + i := ⟨j - A.length, by omega⟩
 rw [List.length_append] at hj
 have iB : i < B.length := by omega
 have e : (A ++ B).getD (A.length + i) 0 = B[i] := by
  rw [τα, List.getElem?_append_right (by omega), Nat.add_sub_cancel_left, List.getElem?_eq_getElem iB]
  rfl
 rw [e, List.take_append, List.take_of_length_le (by omega), Nat.add_sub_cancel_left]
 intro hm
 rcases List.mem_append.mp hm with hm | hm
 ·exact h.new _ (List.getElem_mem iB) hm
 ·obtain ⟨k, hk, ek⟩ := List.getElem_of_mem hm
  rw [List.length_take] at hk
  rw [List.getElem_take] at ek
  have := (List.getElem_inj h.nd).mp ek
  omega
def b9T (K : Φρ) : Sp := fun vs H Q _ => ∃ (n : Nat) (pn pm : Addr) (nn A B : List Nat) (ts : List ζζ) (z : Int), vs = [.ref pn, .ref pm, .int z, .int ((A.length : Nat) : Int)] /\ n <= 10 /\ H pn = some (.lst (natV nn)) /\ NearM n ts nn /\ H pm = some (.lst (natV (A ++ B))) /\ GrM n ts z A B /\
 ∀ H', Same H H' -> Q (.bl true) H'
section
variable {P : Program} {w : World} {K : Φρ} {mg : Str -> Option Value} {base : Heap}
abbrev DZ2 (K : PySem.W.Frag) (mg : Str -> Option Value) := Dn K mg "_law_is_grown" a3B ["_law_near_here", "_law_numbers", "_law_least", "_law_first"]
set_option maxHeartbeats 8000000 in
theorem a6V (B : Bl mg) (dZ9 : DZ9 K mg) (dZ8 : DZ8 K mg) (dZ2 : DZ2 K mg) : FnOk P w K mg base CX0 3 dZ2.f dZ2.fd ["_law_near_here", "_law_numbers", "_law_least", "_law_first"] (b9T K) := by
 have gZ9 : FnOk P w K mg base CX0 2 _ _ _ _ := (a5N B dZ9).mono (by decide)
 have gZ8 : FnOk P w K mg base CX0 2 _ _ _ _ := a5O B dZ9 dZ8
 refine dZ2.F.ok sc__law_is_grown (fun vs H Q E h => ?_) (fun cdv A outer s H vs Q E hr h => ?_)
 ·obtain ⟨n, pn, pm, nn, A, B', ts, z, rfl, _⟩ := h
  rfl
 obtain ⟨n, pn, pm, nn, A', B', ts, z, rfl, n10, hN, NM, hM, GM, q⟩ := h
 have hv : (A.deeper (PyProof.Rows.envOfC "_law_is_grown" (a0F a3B) s.heap.objs.size dZ2.f cdv)).units + 65 < cLine := by have := hr.un; omega
 have p10 : 2 ^ n <= 1024 := Nat.pow_le_pow_right (show 0 < 2 by decide) n10
 refine ⟨_, (a0B (a1I PassesOwn.never rfl (a1U rfl B.range (a0A (a0I (a0S (K := K) rfl) rfl B.len (by decide +kernel) (a0A (pv 1) a0C)) a0C)) (a0H (i := 4) sc__law_is_grown.nd rfl (Or.inl rfl))
   (a0B (a0M (i := 5) sc__law_is_grown.nd rfl (Or.inl rfl) (a1D (a0P (K := K) rfl) (pv 1) (pv 4) (fun _ _ => rfl)))
   (a0B (a0M (i := 6) sc__law_is_grown.nd rfl (Or.inr rfl) (a0G gZ9 hr rfl dZ9.m dZ9.F.kp dZ9.b .nil a0U (a0A (pv 0) (a0A (pv 5) a0C))))
   (a0B (a1Q (PW.pt (a4Q (a0N b5G (pv 5) a0E (a0W _)) (a4W (a0N c0C (a0G gZ8 hr rfl dZ8.m dZ8.F.kp dZ8.b .nil a0U (a0A (pv 0) (a0A (pv 5) (a0A (a0K a3T (pv 5) (b0H a6E (pv 5))) a0C)))) (pv 5) (a0W _)))))
   (a0D (a0O a4V))
   a0V)
   (a0D (a1Q (PW.pt (a4Q (a0N (b2R (K := K) rfl hv) a0E (a3W ["_law_one", "_law_reach_here"] [none, some 6]  (by kernel_rfl) rfl (a0R (K := K) rfl (a6Y (a7B (K := K) rfl) (pv 1) a9J (a9K (pv 4)))) (fun _ _ _ _ _ => (a0H (i := 0) (show (["_law_one", "_law_reach_here"] : List Str).Nodup by decide +kernel) rfl (Or.inl rfl))) (fun _ _ _ _ _ => a1G) (fun _ _ _ _ _ => (a0K a3T (pv 1) (pv 0)))) (by with_unfolding_all rfl)) (a4W (PW.pt (a7I (a0N c6G (pv 4) (pv 3) (a0W _)) (a4P (a0N (b2R (K := K) rfl hv) (pv 5) (a6Y (a7B (K := K) rfl) (pv 1) a9J (a9K (pv 4))) (by with_unfolding_all rfl))))))))
   (a0D (a0O a4V))
   a0V))))))
   (a0B (a0M (i := 7) sc__law_is_grown.nd rfl (Or.inl rfl) (a2S (a0A a0E a0C)))
   (a0B (a1I PassesOwn.never rfl (a1U rfl B.range (a0A (a0I (a0S (K := K) rfl) rfl B.len (by decide +kernel) (a0A (pv 0) a0C)) a0C)) (a0H (i := 8) sc__law_is_grown.nd rfl (Or.inl rfl))
   (a0D (a0M (i := 7) sc__law_is_grown.nd rfl (Or.inl rfl) (a0K b7V (pv 7) (a3W ["_law_count"] [none]  (by kernel_rfl) rfl (a0R (K := K) rfl (pv 7)) (fun _ _ _ _ _ => (a0H (i := 0) (show (["_law_count"] : List Str).Nodup by decide +kernel) rfl (Or.inl rfl))) (fun _ _ _ _ _ => a1G) (fun _ _ _ _ _ => (a0K a2U (pv 0) a0E)))))))
   (a0B (a1I PassesOwn.never rfl (a1U rfl B.range (a0A (a0I (a0S (K := K) rfl) rfl B.len (by decide +kernel) (a0A (pv 7) a0C)) a0C)) (a0H (i := 9) sc__law_is_grown.nd rfl (Or.inr rfl))
   (a0D (a1Q (PW.pt (a7I (a0N a3U (a1D (a0P (K := K) rfl) (pv 7) (pv 9) (fun _ _ => rfl)) (pv 2) (a0W _)) (a4P (a0N (a4G (K := K) rfl hv) a0E (a3W ["_law_number_here", "_law_chosen"] [none, some 9]  (by kernel_rfl) rfl (a0R (K := K) rfl (pv 1)) (fun _ _ _ _ _ => (a0H (i := 0) (show (["_law_number_here", "_law_chosen"] : List Str).Nodup by decide +kernel) rfl (Or.inl rfl))) (fun _ _ _ _ _ => a1G) (fun _ _ _ _ _ => (a0K a3T (pv 0) (pv 1)))) (by with_unfolding_all rfl)))))
   (a0D (a0O a4V))
   a0V)))
   (a0D (a0O a4V)))))), ?_⟩
 obtain ⟨M, eM⟩ : ∃ M, M = A' ++ B' := ⟨_, rfl⟩
 have F := GM.fam
 have few := GM.few
 rw [<- eM] at hM F few
 refine ⟨_, rfl, pm, _, rfl, .inl (SqL.of hM), _, rfl, by rw [a0J]; omega, by rw [a0J]; omega, ?_⟩
 rw [a0J, Int.toNat_natCast]
 refine a2B (n := M.length) (fun i σ H' => (∃ jj tt rr : Option V, σ = [some (.ref pn), some (.ref pm), some (.int z), some (.int ((A'.length : Nat) : Int)), jj, tt, rr, none, none, none]) /\ Same H H') ⟨⟨none, none, none, rfl⟩, Same.refl _⟩ ?_ ?_
 ·rintro j σ H1 hj ⟨⟨jj, tt, rr, rfl⟩, s1⟩
  rw [show (0 : Int) + (j : Int) = (j : Int) by omega]
  have hM1 := SqL.of (K := K) (s1 _ _ hM)
  have hN1 := SqL.of (K := K) (s1 _ _ hN)
  have mjm : M.getD j 0 ∈ M := by rw [τα, List.getElem?_eq_getElem hj]; exact List.getElem_mem hj
  have fr : A'.length <= j -> M.getD j 0 ∉ M.take j := fun h => by rw [eM]; exact GM.fresh (by rw [<- eM]; exact hj) h
  obtain ⟨m, em⟩ : ∃ m, m = M.getD j 0 := ⟨_, rfl⟩
  have ml := F.lt _ mjm
  have J := F.jn _ mjm
  have tc := F.tc _ mjm
  rw [<- em] at ml J tc fr
  have atj : atI (natV M) (j : Int) = some (.int (m : Int)) := by rw [em]; exact a2T hj
  obtain ⟨x0, hx0, _⟩ := id J
  have m0 : m ≠ 0 := fun z => by rw [z] at hx0; exact absurd (show (0 : Nat).testBit x0 = true from hx0) (by rw [Nat.zero_testBit]; exact Bool.false_ne_true)
  obtain ⟨v, v10, hv', ev⟩ := (c5L m (by omega)).resolve_left m0
  refine ⟨_, rfl, _, rfl, pm, _, _, _, rfl, rfl, hM1, atj, ?_⟩
  refine ⟨_, rfl, _, rfl, n, m, pn, ts, nn, rfl, n10, hN1, NM, ml, fun rc rl rb => ?_⟩
  refine ⟨_, rfl, _, _, rfl, rfl, _, rfl, ?_⟩
  rw [decide_eq_false (show ¬ (m : Int) < 1 by omega)]
  refine iteF ⟨_, rfl, _, rfl, _, rfl, _, rfl, _, rfl, _, _, rfl, rfl, n, m, v, pn, ts, nn, (by show [V.ref pn, V.int (m : Int), V.int (Builtin.bitAnd (m : Int) (-(m : Int)))] = _; rw [ev]), n10, hN1, NM, ml, hv', fun p pl PM => ?_⟩
  obtain rfl := b9Q n10 ml J hv' PM
  refine ⟨_, rfl, rfl, _, rfl, ?_⟩
  rw [decide_eq_true rfl]
  refine iteF ?_
  refine ⟨_, rfl, _, rfl, _, rfl, pm, _, rfl, hM1, fun p8 H8 n8 => ?_⟩
  rw [b3P _ _ (Nat.le_of_lt hj)] at n8
  refine ⟨p8, rfl, ⟨_, SqL.of n8.here⟩, ?_⟩
  refine a4L (fun x => match x with | .int z => some (.int ((rc &&& z.toNat : Nat) : Int)) | _ => none) (SqL.of n8.here) (by rw [a0J, List.length_take]; omega) (fun x H2 N hx s2 hN' => ?_) (fun H2 r H3 s2 n3 => ?_)
  ·obtain ⟨y, hy, rfl⟩ := List.mem_map.mp hx
   have hN' := hN' H2 s2
   dsimp only at hN'
   rw [Int.toNat_natCast] at hN'
   refine ⟨_, rfl, _, rfl, _, _, rfl, rfl, ?_⟩
   dsimp only
   rw [a3M]
   exact hN'
  rw [b5C 0 (fun y => rc &&& y)] at n3
  have s13 := n8.same.trans (s2.trans n3.same)
  have no0 : 0 ∉ (M.take j).map fun y => rc &&& y := fun hm => by
   obtain ⟨y, hy, e⟩ := List.mem_map.mp hm
   obtain ⟨u, w', hu, hw, e'⟩ := tc y (List.mem_of_mem_take hy)
   refine and_zero.mp e ⟨w', (rb w').mpr ?_, hw⟩
   rcases e' with e' | t
   ·rw [<- e']; exact .inl hu
   ·exact .inr ⟨u, hu, t⟩
  refine b9S (x := 0) (SqL.of n3.here) ⟨_, rfl, ?_⟩
  rw [decide_eq_false no0]
  refine iteF ?_
  have s03 := s1.trans s13
  refine ⟨_, rfl, _, rfl, _, _, rfl, rfl, _, rfl, ite2 (fun c => ?_) (fun _ => iteF ⟨⟨_, _, _, rfl⟩, s03⟩)⟩
  have c' : (A'.length : Int) <= (j : Int) := of_decide_eq_true c
  refine ⟨_, rfl, _, rfl, _, rfl, _, rfl, pm, _, rfl, SqL.of (s03 _ _ hM), fun p9 H9 n9 => ?_⟩
  rw [b3P _ _ (Nat.le_of_lt hj)] at n9
  refine b9S (SqL.of n9.here) ⟨_, rfl, ?_⟩
  rw [decide_eq_false (fr (by omega))]
  exact iteF ⟨⟨_, _, _, rfl⟩, s03.trans n9.same⟩
 rintro σ H1 ⟨⟨jj, tt, rr, rfl⟩, s1⟩
 refine ⟨(by show 1 <= 1000; decide), fun pc0 H2 n2 => ?_⟩
 have s02 := s1.trans n2.same
 refine ⟨_, rfl, pn, _, rfl, .inl (SqL.of (s02 _ _ hN)), (n : Int), (by rw [a0J, NM.len]), by omega, by omega, ?_⟩
 rw [Int.toNat_natCast]
 refine a2B (n := n) (fun i σ H' => (∃ (pc : Addr) (vv : Option V), σ = [some (.ref pn), some (.ref pm), some (.int z), some (.int ((A'.length : Nat) : Int)), jj, tt, rr, some (.ref pc), vv, none] /\ H' pc = some (.lst (natV ((List.range (2 ^ i)).map popF)))) /\ Same H H') ⟨⟨pc0, none, rfl, n2.here⟩, s02⟩ ?_ ?_
 ·rintro i σ H3 hi ⟨⟨pc, vv, rfl, hc⟩, s3⟩
  have p9 : 2 ^ i <= 512 := Nat.pow_le_pow_right (show 0 < 2 by decide) (show i <= 9 by omega)
  have ln : (natV ((List.range (2 ^ i)).map popF)).length = 2 ^ i := by rw [a0J, List.length_map, List.length_range]
  refine ⟨_, rfl, _, rfl, pc, rfl, ⟨_, SqL.of hc⟩, ?_⟩
  refine a4L (fun x => match x with | .int z => some (.int ((z.toNat + 1 : Nat) : Int)) | _ => none) (SqL.of hc) (by rw [ln]; omega) (fun x H4 N hx s4 hN' => ?_) (fun H4 r H5 s4 n5 => ?_)
  ·obtain ⟨y, hy, rfl⟩ := List.mem_map.mp hx
   have hN' := hN' H4 s4
   dsimp only at hN'
   rw [Int.toNat_natCast] at hN'
   refine ⟨_, rfl, _, _, rfl, rfl, ?_⟩
   dsimp only
   rw [show (y : Int) + 1 = ((y + 1 : Nat) : Int) by omega]
   exact hN'
  rw [b5C 0 (fun y => y + 1)] at n5
  have s35 := s4.trans n5.same
  refine ⟨pc, r, _, _, rfl, rfl, s35 _ _ hc, n5.here, (by rw [a0J, a0J, List.length_map, List.length_map, List.length_map, List.length_range]; omega), fun pd H6 n6 => ?_⟩
  have e : natV ((List.range (2 ^ i)).map popF) ++ natV (((List.range (2 ^ i)).map popF).map (fun y => y + 1)) = natV ((List.range (2 ^ (i + 1))).map popF) := by
   rw [<- c5M (show i < 10 by omega)]
   unfold natV
   rw [List.map_append]
  rw [e] at n6
  exact ⟨⟨_, _, rfl, n6.here⟩, s3.trans (s35.trans n6.same)⟩
 rintro σ H3 ⟨⟨pc, vv, rfl, hc⟩, s3⟩
 have ln : (natV ((List.range (2 ^ n)).map popF)).length = 2 ^ n := by rw [a0J, List.length_map, List.length_range]
 refine ⟨_, rfl, pc, _, rfl, .inl (SqL.of hc), ((2 ^ n : Nat) : Int), (by rw [ln]), by omega, by omega, ?_⟩
 rw [Int.toNat_natCast]
 refine a2B (n := 2 ^ n) (fun i σ H' => (∃ cc : Option V, σ = [some (.ref pn), some (.ref pm), some (.int z), some (.int ((A'.length : Nat) : Int)), jj, tt, rr, some (.ref pc), vv, cc]) /\ Same H3 H') ⟨⟨none, rfl⟩, Same.refl _⟩ ?_ ?_
 ·rintro i σ H4 hi ⟨⟨cc, rfl⟩, s4⟩
  rw [show (0 : Int) + (i : Int) = (i : Int) by omega]
  have ati : atI (natV ((List.range (2 ^ n)).map popF)) (i : Int) = some (.int ((popF i : Nat) : Int)) := by
   have := a2T (l := (List.range (2 ^ n)).map popF) (j := i) (by rw [List.length_map, List.length_range]; exact hi)
   rw [τα, List.getElem?_map, List.getElem?_range hi] at this
   exact this
  refine ⟨_, rfl, _, rfl, pc, _, _, _, rfl, rfl, SqL.of (s4 _ _ hc), ati, _, rfl, rfl, _, rfl, ite2 (fun c => ?_) (fun _ => iteF ⟨⟨_, rfl⟩, s4⟩)⟩
  have c' : ((popF i : Nat) : Int) = z := by injection of_decide_eq_true c
  have hM4 := SqL.of (K := K) (s4 _ _ (s3 _ _ hM))
  refine ⟨_, rfl, pm, rfl, ⟨_, hM4⟩, ?_⟩
  refine a4L (fun x => match x with | .int z => some (.int ((z.toNat &&& i : Nat) : Int)) | _ => none) hM4 (by rw [a0J]; omega) (fun x H5 N hx s5 hN' => ?_) (fun H5 r H6 s5 n6 => ?_)
  ·obtain ⟨y, hy, rfl⟩ := List.mem_map.mp hx
   have hN' := hN' H5 s5
   dsimp only at hN'
   rw [Int.toNat_natCast] at hN'
   refine ⟨_, rfl, _, rfl, _, _, rfl, rfl, ?_⟩
   dsimp only
   rw [a3M]
   exact hN'
  rw [b5C 0 (fun y => y &&& i)] at n6
  have in0 : 0 ∈ M.map fun y => y &&& i := Classical.byContradiction fun no => by
   have cv : CvM (A' ++ B') (bitP i) := fun b hb => by
    rw [<- eM] at hb
    have nz : ¬ b &&& i = 0 := fun z => no (List.mem_map.mpr ⟨b, hb, z⟩)
    obtain ⟨u, h1, h2⟩ := Classical.not_not.mp (fun t => nz (and_zero.mpr t))
    exact ⟨u, h1, h2⟩
   have := GM.big _ cv
   rw [a5L n10 hi] at this
   omega
  refine a9I (x := 0) (SqL.of n6.here) ⟨_, rfl, ?_⟩
  rw [decide_eq_true in0]
  exact iteF ⟨⟨_, rfl⟩, s4.trans (s5.trans n6.same)⟩
 ·rintro σ H4 ⟨⟨cc, rfl⟩, s4⟩
  exact q H4 (s3.trans s4)
end
end K
namespace K
open PySem L2 Lw Bg
abbrev a2G : Stmt := top 48
theorem sc__law_is_order : FnScope ["_law_near_here", "_law_row", "_law_numbers", "_law_least", "_law_place", "_law_left", "_law_rest", "_law_v", "_law_after", "_law_other", "_law_bag"] ["_law_near_here", "_law_row", "_law_numbers", "_law_least"] (a0F a2G) := ⟨rfl, rfl, rfl, by decide +kernel, rfl, by decide +kernel, by decide +kernel⟩
theorem b9U {ts : List ζζ} {P : List Nat} {v u w : Nat} : PathT ts (P ++ [v]) u w ↔ PathT ts P u w \/ (PathT ts P u v /\ PathT ts P v w) := by
 constructor
 ·intro h
  induction h with
  | one h => exact .inl (.one h)
  | step p m h ih =>
   rcases List.mem_append.mp m with m | m
   ·rcases ih with q | ⟨q1, q2⟩
    ·exact .inl (.step q m h)
    ·exact .inr ⟨q1, .step q2 m h⟩
   ·rw [List.mem_singleton.mp m] at ih h
    rcases ih with q | ⟨q1, q2⟩
    ·exact .inr ⟨q, .one h⟩
    ·exact .inr ⟨q1, .one h⟩
 ·rintro (h | ⟨h1, h2⟩)
  ·exact h.mono fun a ha => List.mem_append_left _ ha
  ·exact PathT.glue (List.mem_append_right _ (List.mem_singleton.mpr rfl)) (h1.mono fun a ha => List.mem_append_left _ ha) (h2.mono fun a ha => List.mem_append_left _ ha)
structure FillI (n : Nat) (ts : List ζζ) (P L : List Nat) : Prop where
 len : L.length = n
 lt : ∀ u, u < n -> L.getD u 0 < 2 ^ n
 bit : ∀ u w, u < n -> w < n -> u ∉ P -> w ∉ P -> u ≠ w -> ((L.getD u 0).testBit w = true ↔ PathT ts P u w)
theorem c7Y {n : Nat} {ts : List ζζ} {nn : List Nat} (h : NearM n ts nn) : FillI n ts [] nn := ⟨h.len, h.lt, fun u w hu _ _ _ _ => by
 rw [h.bit u hu w]
 constructor
 ·exact .one
 ·intro p
  cases p with
  | one h => exact h
  | step _ m _ => cases m⟩
def b9V (n : Nat) (ts : List ζζ) (P : List Nat) (v af : Nat) : Prop := ∀ w, af.testBit w = true ↔ w < n /\ w ∉ P /\ w ≠ v /\ PathT ts P v w
theorem b9W {n v af : Nat} {ts : List ζζ} {P L L' : List Nat} (h : FillI n ts P L) (a : b9V n ts P v af) (l : L'.length = n) (e : ∀ u, u < n -> L'.getD u 0 = if af.testBit u = true then L.getD u 0 ||| (af - 2 ^ u) else L.getD u 0) (al : af < 2 ^ n) (vn : v < n) (vP : v ∉ P) : FillI n ts (P ++ [v]) L' := by
 refine ⟨l, fun u hu => ?_, fun u w hu hw uP wP uw => ?_⟩
 ·rw [e u hu]
  split
  ·exact Nat.or_lt_two_pow (h.lt u hu) (Nat.lt_of_le_of_lt (Nat.sub_le _ _) al)
  ·exact h.lt u hu
 have uP' : u ∉ P := fun z => uP (List.mem_append_left _ z)
 have wP' : w ∉ P := fun z => wP (List.mem_append_left _ z)
 have uv : u ≠ v := fun z => uP (List.mem_append_right _ (List.mem_singleton.mpr z))
 have wv : w ≠ v := fun z => wP (List.mem_append_right _ (List.mem_singleton.mpr z))
 rw [e u hu, b9U]
 have hb := h.bit u w hu hw uP' wP' uw
 cases c : af.testBit u with
 | true =>
  rw [if_pos rfl, Nat.testBit_or, Bool.or_eq_true, a2W c, hb]
  have pu := ((a u).mp c).2.2.2
  have : (af.testBit w && !decide (w = u)) = true ↔ PathT ts P v w := by
   rw [decide_eq_false (Ne.symm uw), Bool.not_false, Bool.and_true, a w]
   exact ⟨fun z => z.2.2.2, fun z => ⟨hw, wP', wv, z⟩⟩
  rw [this]
  exact ⟨fun z => z.imp id fun y => ⟨pu.symm, y⟩, fun z => z.imp id fun y => y.2⟩
 | false =>
  rw [if_neg Bool.false_ne_true, hb]
  constructor
  ·exact .inl
  ·rintro (z | ⟨z, _⟩)
   ·exact z
   ·have := (a u).mpr ⟨hu, uP', uv, z.symm⟩
    rw [c] at this
    cases this
theorem c5N {n : Nat} {g : Nat -> Nat -> Prop} {S : Nat} {os : List Nat} (h : FreeP n g S os) : ∀ i (hi : i < os.length), ∃ T, T < 2 ^ n /\ (∀ u, T.testBit u = true ↔ u ∈ os.take i) /\ os[i] < n /\ os[i] ∉ os.take i /\ g T os[i] := by
 induction h with
 | nil => exact fun i hi => absurd hi (by simp)
 | @snoc S v os f vS vn gd ih =>
  intro i hi
  rcases Nat.lt_or_ge i os.length with c | c
  ·obtain ⟨T, h1, h2, h3, h4, h5⟩ := ih i c
   have e1 : (os ++ [v]).take i = os.take i := List.take_append_of_le_length (Nat.le_of_lt c)
   have e2 : (os ++ [v])[i] = os[i] := List.getElem_append_left c
   rw [e2, e1]
   exact ⟨T, h1, h2, h3, h4, h5⟩
  ·have ei : i = os.length := by
    rw [List.length_append] at hi
    simp only [List.length_singleton] at hi
    omega
   subst ei
   have e1 : (os ++ [v]).take os.length = os := List.take_left
   have e2 : (os ++ [v])[os.length] = v := List.getElem_concat_length rfl _
   rw [e2, e1]
   exact ⟨S, f.lt, fun u => (f.mem u).symm, vn, fun z => (by have := (f.mem v).mp z; rw [vS] at this; cases this), gd⟩
theorem c5O {n : Nat} {g : Nat -> Nat -> Prop} {S : Nat} {os : List Nat} (h : FreeP n g S os) : os.Nodup := by
 induction h with
 | nil => exact .nil
 | @snoc S v os f vS vn _ ih =>
  refine List.nodup_append.mpr ⟨ih, by simp, fun a ha b hb z => ?_⟩
  rw [List.mem_singleton.mp hb] at z
  have := (f.mem a).mp ha
  rw [z, vS] at this
  cases this
theorem b9X {n v af T : Nat} {ts : List ζζ} {P : List Nat} (n10 : n <= 10) (Tl : T < 2 ^ n) (TP : ∀ u, T.testBit u = true ↔ u ∈ P) (vn : v < n) (vP : v ∉ P) (a : b9V n ts P v af) : af ||| 2 ^ v = bagN n ts T v := by
 have vT : T.testBit v = false := by
  cases c : T.testBit v with
  | false => rfl
  | true => exact absurd ((TP v).mp c) vP
 obtain ⟨_, _, pm⟩ := a2Z n10 Tl
 have mm : ∀ a, a ∈ P ↔ a ∈ a0L T := fun a => (TP a).symm.trans (pm a).symm
 refine Nat.eq_of_testBit_eq fun w => ?_
 rw [Bool.eq_iff_iff]
 show _ ↔ bitP (bagN n ts T v) w
 rw [a5G n10 Tl vn vT, Nat.testBit_or, Bool.or_eq_true, Nat.testBit_two_pow, decide_eq_true_iff, a w]
 constructor
 ·rintro (⟨h1, h2, h3, h4⟩ | rfl)
  ·refine ⟨h1, ?_, .inr (h4.mono fun a ha => (mm a).mp ha)⟩
   cases c : T.testBit w with
   | false => rfl
   | true => exact absurd ((TP w).mp c) h2
  ·exact ⟨vn, vT, .inl rfl⟩
 ·rintro ⟨h1, h2, h3⟩
  by_cases c : v = w
  ·exact .inr c
  ·rcases h3 with h3 | h3
   ·exact absurd h3 c
   ·exact .inl ⟨h1, fun z => (by have := (TP w).mpr z; rw [h2] at this; cases this), Ne.symm c, h3.mono fun a ha => (mm a).mpr ha⟩
theorem c7Z {K : Φρ} : PySem.W.kitOne K (.type "int") (.type "int") = some true := by rfl
theorem c8A {K : Φρ} : PySem.W.kitOne K (.type "int") (.type "bool") = some false := by rfl
theorem c2Y {n u : Nat} : (2 ^ n - 1).testBit u = true ↔ u < n := by rw [Nat.testBit_two_pow_sub_one, decide_eq_true_iff]
def b9Y (K : Φρ) : Sp := fun vs H Q _ => ∃ (n k : Nat) (pn pr pm : Addr) (nn os M : List Nat) (ts : List ζζ), vs = [.ref pn, .ref pr, .ref pm, .int (k : Int)] /\ n <= 10 /\ H pn = some (.lst (natV nn)) /\ NearM n ts nn /\ H pr = some (.lst (natV os)) /\ H pm = some (.lst (natV M)) /\ M.length <= 900 /\ FreeP n (a2H n ts (AB n k M)) (2 ^ n - 1) os /\
 ∀ H', Same H H' -> Q (.bl true) H'
section
variable {P : Program} {w : World} {K : Φρ} {mg : Str -> Option Value} {base : Heap}
abbrev DZ3 (K : PySem.W.Frag) (mg : Str -> Option Value) := Dn K mg "_law_is_order" a2G ["_law_near_here", "_law_row", "_law_numbers", "_law_least"]
set_option maxHeartbeats 8000000 in
theorem a6W (B : Bl mg) (dZ4 : DZ4 K mg) (dZ3 : DZ3 K mg) : FnOk P w K mg base CX0 2 dZ3.f dZ3.fd ["_law_near_here", "_law_row", "_law_numbers", "_law_least"] (b9Y K) := by
 have gZ4 : FnOk P w K mg base CX0 1 _ _ _ _ := a6T B dZ4
 refine dZ3.F.ok sc__law_is_order (fun vs H Q E h => ?_) (fun cdv A outer s H vs Q E hr h => ?_)
 ·obtain ⟨n, k, pn, pr, pm, nn, os, M, ts, rfl, _⟩ := h
  rfl
 obtain ⟨n, k, pn, pr, pm, nn, os, M, ts, rfl, n10, hN, NM, hR, hM, few, FP, q⟩ := h
 have hv : (A.deeper (PyProof.Rows.envOfC "_law_is_order" (a0F a2G) s.heap.objs.size dZ3.f cdv)).units + 65 < cLine := by have := hr.un; omega
 have hu : (A.deeper (PyProof.Rows.envOfC "_law_is_order" (a0F a2G) s.heap.objs.size dZ3.f cdv)).units + 64 < cLine := by have := hr.un; omega
 have p10 : 2 ^ n <= 1024 := Nat.pow_le_pow_right (show 0 < 2 by decide) n10
 have nd := c5O FP
 have mem : ∀ u, u ∈ os ↔ u < n := fun u => (FP.mem u).trans c2Y
 have lo : os.length <= n := a2K nd fun u hu => (mem u).mp hu
 refine ⟨_, (a0B (a1I PassesOwn.never rfl (a0R (K := K) rfl (pv 1)) (a0H (i := 4) sc__law_is_order.nd rfl (Or.inl rfl))
   (a0D (a1Q (PW.pt (a4Q (a3D (a0T (K := K) rfl (a0I (a1B (K := K) rfl) rfl B.isinstance (by decide +kernel) (a0A (pv 4) (a0A (a2N (v := .ty "int") (u := .type "int") rfl B.int (by decide +kernel) rfl) a0C))) (fun _ => rfl))) (a4W (a0T (K := K) rfl (a0I (a1B (K := K) rfl) rfl B.isinstance (by decide +kernel) (a0A (pv 4) (a0A (a2N (v := .ty "bool") (u := .type "bool") rfl B.bool (by decide +kernel) rfl) a0C))) (fun _ => rfl)))))
   (a0D (a0O a4V))
   a0V)))
   (a0B (a1Q (a0N (a9N (K := K) rfl hu) (a0I (b1I (K := K) rfl) rfl B.sorted (by decide +kernel) (a0A (pv 1) a0C)) (b4G rfl B.list B.range (a0A (a0I (a0S (K := K) rfl) rfl B.len (by decide +kernel) (a0A (pv 0) a0C)) a0C)) (a0W _))
   (a0D (a0O a4V))
   a0V)
   (a0B (a0M (i := 5) sc__law_is_order.nd rfl (Or.inl rfl) (a2V (a3I (K := K) rfl) rfl B.list (by decide +kernel) (a0A (pv 0) a0C)))
   (a0B (a0M (i := 6) sc__law_is_order.nd rfl (Or.inl rfl) (a0K a3Q (a0K a1Z a0E (a0I (a0S (K := K) rfl) rfl B.len (by decide +kernel) (a0A (pv 0) a0C))) a0E))
   (a0B (a1I PassesOwn.never rfl (a0R (K := K) rfl (pv 1)) (a0H (i := 7) sc__law_is_order.nd rfl (Or.inl rfl))
   (a0B (a0M (i := 6) sc__law_is_order.nd rfl (Or.inl rfl) (a0K a3Q (pv 6) (a0K a1Z a0E (pv 7))))
   (a0B (a0M (i := 8) sc__law_is_order.nd rfl (Or.inl rfl) (a0K a3T (a1D (a0P (K := K) rfl) (pv 5) (pv 7) (fun _ _ => rfl)) (pv 6)))
   (a0B (a1I PassesOwn.never rfl (a0R (K := K) rfl (a0G gZ4 hr rfl dZ4.m dZ4.F.kp dZ4.b .nil a0U (a0A (a0I (a0S (K := K) rfl) rfl B.len (by decide +kernel) (a0A (pv 0) a0C)) (a0A (pv 8) a0C)))) (a0H (i := 9) sc__law_is_order.nd rfl (Or.inl rfl))
   (a0D (a6D (a0K a7L (a1D (a0P (K := K) rfl) (pv 5) (pv 9) (fun _ _ => rfl)) (a0K a3Q (pv 8) (a0K a1Z a0E (pv 9)))) (a6C (pv 5) (pv 9) a2M))))
   (a0B (a0M (i := 10) sc__law_is_order.nd rfl (Or.inr rfl) (a0K a2U (pv 8) (a0K a1Z a0E (pv 7))))
   (a0D (a1Q (PW.pt (a7I (a0N b5H (a0I (a0S (K := K) rfl) rfl B.len (by decide +kernel) (a0A (a0G gZ4 hr rfl dZ4.m dZ4.F.kp dZ4.b .nil a0U (a0A (a0I (a0S (K := K) rfl) rfl B.len (by decide +kernel) (a0A (pv 0) a0C)) (a0A (pv 10) a0C))) a0C)) (pv 3) (a0W _)) (a4P (a0N (a4G (K := K) rfl hv) a0E (a3W ["_law_number_here", "_law_bag"] [none, some 10]  (by kernel_rfl) rfl (a0R (K := K) rfl (pv 2)) (fun _ _ _ _ _ => (a0H (i := 0) (show (["_law_number_here", "_law_bag"] : List Str).Nodup by decide +kernel) rfl (Or.inl rfl))) (fun _ _ _ _ _ => a1G) (fun _ _ _ _ _ => (a0K a3T (pv 0) (pv 1)))) (by with_unfolding_all rfl)))))
   (a0D (a0O a4V))
   a0V)))))))
   (a0D (a0O a4V))))))), ?_⟩
 refine ⟨_, rfl, pr, rfl, ⟨_, SqL.of hR⟩, ?_⟩
 refine a2E (xs := natV os) (fun i σ H' => (∃ pp : Option V, σ = [some (.ref pn), some (.ref pr), some (.ref pm), some (.int (k : Int)), pp, none, none, none, none, none, none]) /\ H' = H) ⟨⟨none, rfl⟩, rfl⟩ (fun i σ H' _ ⟨_, e⟩ => e ▸ SqL.of hR) ?_ ?_
 ·rintro i x σ H1 hx ⟨⟨pp, rfl⟩, rfl⟩
  rw [List.getElem?_map] at hx
  obtain ⟨v, hv', rfl⟩ := Option.map_eq_some_iff.mp hx
  refine ⟨_, rfl, _, _, _, _, _, rfl, rfl, TyOf.int _, c7Z, _, rfl, iteF ?_⟩
  exact ⟨_, rfl, _, _, _, _, _, rfl, rfl, TyOf.int _, c8A, _, rfl, iteF ⟨⟨_, rfl⟩, rfl⟩⟩
 rintro σ H1 ⟨⟨pp, rfl⟩, rfl⟩
 have hRi : SqL K H1 pr ((os.map fun (x : Nat) => (x : Int)).map V.int) := by rw [<- a0Y]; exact SqL.of hR
 refine ⟨_, rfl, pr, _, rfl, hRi, (by rw [List.length_map]; omega), fun ps H2 zs n2 pz le => ?_⟩
 refine ⟨_, rfl, pn, _, rfl, .inl (SqL.of (n2.same _ _ hN)), n, (by rw [a0J, NM.len]), by omega, fun pq H3 n3 => ?_⟩
 have ez : zs = (List.range n).map fun (x : Nat) => (x : Int) := by
  refine List.Perm.eq_of_pairwise (le := (· <= ·)) (fun a b _ _ h1 h2 => Int.le_antisymm h1 h2) le ?_ (pz.trans (List.Perm.map _ ((List.perm_ext_iff_of_nodup nd List.nodup_range).mpr fun u => (mem u).trans List.mem_range.symm)))
  rw [List.pairwise_map]
  refine List.Pairwise.imp (fun {x y} h => ?_) List.pairwise_lt_range
  omega
 subst ez
 have h3 : SqL K H3 pq (((List.range n).map fun (x : Nat) => (x : Int)).map V.int) := by
  have := SqL.of (K := K) n3.here
  rw [List.map_map]
  exact this
 refine ⟨_, _, .lst (SqL.of (n3.same _ _ n2.here)) (IsDs.ints _), .lst h3 (IsDs.ints _), a1O _, a1O _, _, rfl, ?_⟩
 rw [if_pos rfl, a7C (a1O _)]
 refine iteF ?_
 have s13 := n2.same.trans n3.same
 refine ⟨_, rfl, pn, _, rfl, .inl (SqL.of (s13 _ _ hN)), fun pl H4 n4 => ?_⟩
 have s14 := s13.trans n4.same
 refine ⟨_, rfl, pn, _, rfl, .inl (SqL.of (s14 _ _ hN)), _, _, rfl, rfl, ⟨by omega, by rw [a0J, NM.len]; omega, by decide⟩, _, _, rfl, rfl, ?_⟩
 have er : (1 : Int) * 2 ^ (((natV nn).length : Nat) : Int).toNat - 1 = ((2 ^ n - 1 : Nat) : Int) := by
  rw [a0J, NM.len, shl1]
  have : 0 < 2 ^ n := Nat.pow_pos (by decide)
  omega
 dsimp only
 rw [er]
 have fpl : H1 pl = none := s13.free n4.fresh
 refine ⟨_, rfl, pr, rfl, ⟨_, SqL.of (s14 _ _ hR)⟩, ?_⟩
 refine a2E (xs := natV os) (fun i σ H' => (∃ (R : Nat) (vv aa oo bb : Option V) (L : List Nat), σ = [some (.ref pn), some (.ref pr), some (.ref pm), some (.int (k : Int)), pp, some (.ref pl), some (.int (R : Int)), vv, aa, oo, bb] /\ (∀ u, R.testBit u = true ↔ u < n /\ u ∉ os.take i) /\ H' pl = some (.lst (natV L)) /\ FillI n ts (os.take i) L) /\ Same H1 H') ⟨⟨2 ^ n - 1, none, none, none, none, nn, rfl, fun u => by rw [c2Y, List.take_zero]; exact ⟨fun z => ⟨z, List.not_mem_nil⟩, fun z => z.1⟩, n4.here, c7Y NM⟩, s14⟩ (fun i σ H' _ ⟨_, s⟩ => SqL.of (s _ _ hR)) ?_ ?_
 ·rintro i x σ H5 hx ⟨⟨R, vv, aa, oo, bb, L, rfl, rB, hL, FI⟩, s5⟩
  rw [List.getElem?_map] at hx
  obtain ⟨v, hv', rfl⟩ := Option.map_eq_some_iff.mp hx
  obtain ⟨hil, hiv⟩ := List.getElem?_eq_some_iff.mp hv'
  obtain ⟨T, Tl, TP, vn, vP, gd⟩ := c5N FP i hil
  rw [hiv] at vn vP gd
  have ll := FI.len
  have Rv : R.testBit v = true := (rB v).mpr ⟨vn, vP⟩
  have et : os.take (i + 1) = os.take i ++ [v] := by rw [List.take_succ_eq_append_getElem hil, hiv]
  refine ⟨_, rfl, _, rfl, _, _, rfl, rfl, ⟨by omega, by omega, by decide⟩, _, _, rfl, rfl, ?_⟩
  have eR : (R : Int) - 1 * 2 ^ ((v : Nat) : Int).toNat = ((R - 2 ^ v : Nat) : Int) := by
   rw [shl1]
   have := a1P Rv
   omega
  dsimp only
  rw [eR]
  refine ⟨_, rfl, _, rfl, pl, _, _, _, rfl, rfl, SqL.of hL, a2T (by omega), _, rfl, _, _, rfl, rfl, ?_⟩
  dsimp only
  rw [a3M]
  obtain ⟨af, eaf⟩ : ∃ af, af = L.getD v 0 &&& (R - 2 ^ v) := ⟨_, rfl⟩
  rw [<- eaf]
  have AF : b9V n ts (os.take i) v af := fun u => by
   rw [eaf, Nat.testBit_and, Bool.and_eq_true, a2W Rv, Bool.and_eq_true, rB]
   constructor
   ·rintro ⟨h1, ⟨h2, h3⟩, h4⟩
    have uv : u ≠ v := fun z => by rw [decide_eq_true z] at h4; cases h4
    exact ⟨h2, h3, uv, (FI.bit v u vn h2 vP h3 (Ne.symm uv)).mp h1⟩
   ·rintro ⟨h2, h3, uv, h1⟩
    exact ⟨(FI.bit v u vn h2 vP h3 (Ne.symm uv)).mpr h1, ⟨h2, h3⟩, by rw [decide_eq_false uv]; rfl⟩
  have afl : af < 2 ^ n := a1T fun u hu => ((AF u).mp hu).1
  have avf : af.testBit v = false := by
   cases c : af.testBit v with
   | false => rfl
   | true => exact absurd rfl ((AF v).mp c).2.2.1
  refine ⟨_, rfl, pn, _, rfl, .inl (SqL.of (s5 _ _ hN)), _, rfl, n, af, (by rw [a0J, NM.len]; rfl), n10, fun pb H6 s6 f6 h6 => ?_⟩
  refine ⟨pb, rfl, ⟨_, SqL.of h6⟩, ?_⟩
  have pbl : pb ≠ pl := fun z => by rw [z, hL] at f6; cases f6
  refine a2E (xs := natV (a3C n af)) (fun j σ H' => (∃ (oo : Option V) (L' : List Nat), σ = [some (.ref pn), some (.ref pr), some (.ref pm), some (.int (k : Int)), pp, some (.ref pl), some (.int ((R - 2 ^ v : Nat) : Int)), some (.int (v : Int)), some (.int (af : Int)), oo, bb] /\ H' pl = some (.lst (natV L')) /\ L'.length = n /\ ∀ u, u < n -> L'.getD u 0 = if u ∈ (a3C n af).take j then L.getD u 0 ||| (af - 2 ^ u) else L.getD u 0) /\ H' pb = some (.lst (natV (a3C n af))) /\ Same H1 H') ⟨⟨oo, L, rfl, s6 _ _ hL, ll, fun u _ => by rw [List.take_zero, if_neg List.not_mem_nil]⟩, h6, s5.trans s6⟩ (fun j σ H' _ ⟨_, h, _⟩ => SqL.of h) ?_ ?_
  ·rintro j x σ H7 hx ⟨⟨oo', L', rfl, hL', l', eL⟩, h7, s7⟩
   rw [List.getElem?_map] at hx
   obtain ⟨y, hy, rfl⟩ := Option.map_eq_some_iff.mp hx
   obtain ⟨hjl, hjy⟩ := List.getElem?_eq_some_iff.mp hy
   obtain ⟨yn, yb⟩ := mem_bitsN.mp (List.mem_of_getElem? hy)
   have ey : (a3C n af).take (j + 1) = (a3C n af).take j ++ [y] := by rw [List.take_succ_eq_append_getElem hjl, hjy]
   have yt : y ∉ (a3C n af).take j := fun z => by
    have : ((a3C n af).take (j + 1)).Pairwise (· < ·) := (a7H n af).sublist (List.take_sublist _ _)
    rw [ey] at this
    exact absurd ((List.pairwise_append.mp this).2.2 y z y (List.mem_singleton.mpr rfl)) (Nat.lt_irrefl _)
   refine ⟨_, rfl, _, rfl, pl, _, _, _, rfl, rfl, SqL.of hL', a2T (by omega), _, rfl, _, rfl, _, _, rfl, rfl, ⟨by omega, by omega, by decide⟩, _, _, rfl, rfl, _, _, rfl, rfl, ?_⟩
   have eS : (af : Int) - 1 * 2 ^ ((y : Nat) : Int).toNat = ((af - 2 ^ y : Nat) : Int) := by
    rw [shl1]
    have := a1P yb
    omega
   dsimp only
   rw [eS, a4M]
   refine ⟨_, rfl, _, rfl, pl, _, _, y, rfl, rfl, hL', (by rw [a0J]; exact a3Z (by omega)), fun H8 c8 => ?_⟩
   rw [a8G] at c8
   refine ⟨⟨_, _, rfl, c8.here, by rw [List.length_set]; exact l', fun u hu => ?_⟩, (c8.rest pb pbl).trans h7, s7.chg fpl c8⟩
   rw [a5M (by omega), ey]
   by_cases c : u = y
   ·rw [if_pos c, c, if_pos (List.mem_append_right _ (List.mem_singleton.mpr rfl)), eL y yn, if_neg yt]
   ·rw [if_neg c, eL u hu]
    by_cases d : u ∈ (a3C n af).take j
    ·rw [if_pos d, if_pos (List.mem_append_left _ d)]
    ·rw [if_neg d, if_neg fun z => (List.mem_append.mp z).elim d fun z => c (List.mem_singleton.mp z)]
  rintro σ H7 ⟨⟨oo', L', rfl, hL', l', eL⟩, h7, s7⟩
  have FI' : FillI n ts (os.take (i + 1)) L' := by
   rw [et]
   refine b9W FI AF l' (fun u hu => ?_) afl vn vP
   rw [eL u hu, a0J, List.take_length]
   cases c : af.testBit u with
   | true => rw [if_pos (mem_bitsN.mpr ⟨hu, c⟩), if_pos rfl]
   | false => rw [if_neg (fun z => by rw [(mem_bitsN.mp z).2] at c; cases c), if_neg Bool.false_ne_true]
  refine ⟨_, rfl, _, rfl, _, _, rfl, rfl, ⟨by omega, by omega, by decide⟩, _, _, rfl, rfl, ?_⟩
  obtain ⟨_, _, ab⟩ := a2J avf
  have eB : (af : Int) + 1 * 2 ^ ((v : Nat) : Int).toNat = ((af ||| 2 ^ v : Nat) : Int) := by
   rw [shl1]
   omega
  dsimp only
  rw [eB]
  have bN := b9X n10 Tl TP vn vP AF
  obtain ⟨bg, ebg⟩ : ∃ bg, bg = af ||| 2 ^ v := ⟨_, rfl⟩
  rw [<- ebg] at bN ⊢
  have bl : bg < 2 ^ n := by rw [ebg]; exact Nat.or_lt_two_pow afl (Nat.pow_lt_pow_right (by decide) vn)
  have RB' : ∀ u, (R - 2 ^ v).testBit u = true ↔ u < n /\ u ∉ os.take (i + 1) := fun u => by
   rw [a2W Rv, Bool.and_eq_true, rB, et]
   constructor
   ·rintro ⟨⟨h1, h2⟩, h3⟩
    exact ⟨h1, fun z => (List.mem_append.mp z).elim h2 fun z => by rw [decide_eq_true (List.mem_singleton.mp z)] at h3; cases h3⟩
   ·rintro ⟨h1, h2⟩
    exact ⟨⟨h1, fun z => h2 (List.mem_append_left _ z)⟩, by rw [decide_eq_false fun z => h2 (List.mem_append_right _ (List.mem_singleton.mpr z))]; rfl⟩
  refine ⟨_, rfl, pn, _, rfl, .inl (SqL.of (s7 _ _ hN)), _, rfl, n, bg, (by rw [a0J, NM.len]; rfl), n10, fun pc H8 s8 f8 h8 => ?_⟩
  refine ⟨pc, _, rfl, .inl (SqL.of h8), _, rfl, _, _, rfl, rfl, _, rfl, ite2 (fun c => ?_) (fun _ => iteF ⟨⟨_, _, _, _, _, L', rfl, RB', s8 _ _ hL', FI'⟩, s7.trans s8⟩)⟩
  have s18 := s7.trans s8
  have hM8 := SqL.of (K := K) (s18 _ _ hM)
  refine ⟨_, rfl, pm, rfl, ⟨_, hM8⟩, ?_⟩
  refine a4L (fun x => match x with | .int z => some (.int ((z.toNat &&& bg : Nat) : Int)) | _ => none) hM8 (by rw [a0J]; omega) (fun x H9 N hx s9 hN' => ?_) (fun H9 r H10 s9 n10' => ?_)
  ·obtain ⟨y, hy, rfl⟩ := List.mem_map.mp hx
   have hN' := hN' H9 s9
   dsimp only at hN'
   rw [Int.toNat_natCast] at hN'
   refine ⟨_, rfl, _, rfl, _, _, rfl, rfl, ?_⟩
   dsimp only
   rw [a3M]
   exact hN'
  have efm : (natV M).filterMap (fun x => match x with | .int z => some (V.int ((z.toNat &&& bg : Nat) : Int)) | _ => none) = natV (M.map fun y => y &&& bg) := b5C 0 (fun y => y &&& bg)
  rw [efm] at n10'
  have c' : (k : Int) < (((natV (a3C n bg)).length : Nat) : Int) := of_decide_eq_true c
  have in0 : 0 ∈ M.map fun y => y &&& bg := Classical.byContradiction fun no => by
   have cv : CvM M (bitP bg) := fun b hb => by
    have nz : ¬ b &&& bg = 0 := fun z => no (List.mem_map.mpr ⟨b, hb, z⟩)
    obtain ⟨u, h1, h2⟩ := Classical.not_not.mp (fun t => nz (and_zero.mpr t))
    exact ⟨u, h1, h2⟩
   rw [bN] at cv
   refine gd ?_ cv
   rw [<- bN, a5L n10 bl]
   unfold popF
   rw [a0J, b3M n10 bl] at c'
   omega
  refine a9I (x := 0) (SqL.of n10'.here) ⟨_, rfl, ?_⟩
  rw [decide_eq_true in0]
  have s810 := s9.trans n10'.same
  exact iteF ⟨⟨_, _, _, _, _, L', rfl, RB', s810 _ _ (s8 _ _ hL'), FI'⟩, s18.trans s810⟩
 ·rintro σ H5 ⟨⟨R, vv, aa, oo, bb, L, rfl, rB, hL, FI⟩, s5⟩
  exact q H5 s5
end
end K
namespace K
open PySem L2 Lw Bg
abbrev a4E : Stmt := top 49
theorem sc__law_holds : FnScope ["_law_n", "_law_near_here", "_law_sets_here", "_law_found", "_law_least", "_law_numbers", "_law_told"] ["_law_n", "_law_near_here", "_law_sets_here", "_law_found", "_law_least"] (a0F a4E) := ⟨rfl, rfl, rfl, by decide +kernel, rfl, by decide +kernel, by decide +kernel⟩
theorem a8I {K : Φρ} : PySem.W.kitOne K (.type "tuple") (.type "tuple") = some true := by rfl
theorem a5R {K : Φρ} : PySem.W.kitOne K (.type "list") (.type "list") = some true := by rfl
theorem a8J {K : Φρ} : PySem.W.kitOne K (.type "str") (.type "str") = some true := by rfl
theorem b3Q {m : Nat} (h : m < 2 ^ 10) : a0Q (a0L m) = m := Nat.eq_of_testBit_eq fun u => by
 rw [a1S, Bool.eq_iff_iff, decide_eq_true_iff, a1L h]
theorem b6E {n : Nat} {ts : List ζζ} {z : Int} {ss rs : List (List Nat)} {more : List Nat} (n10 : n <= 10) (G : GFam n ts z ss rs more) : rs.map a0Q = ss.map a0Q ++ more := by
 have l10 : ∀ m ∈ more, m < 2 ^ 10 := fun m hm => Nat.lt_of_lt_of_le (G.fam.lt m (List.mem_append_right _ hm)) (Nat.pow_le_pow_right (by decide) n10)
 rw [G.rows, List.map_append, List.map_map]
 congr 1
 conv => rhs; rw [<- List.map_id more]
 exact List.map_congr_left fun m hm => b3Q (l10 m hm)
theorem b9Z {n : Nat} {ts : List ζζ} {z : Int} {ss rs : List (List Nat)} {more : List Nat} (n10 : n <= 10) (G : GFam n ts z ss rs more) (SO : SetsOk n ss) : ∀ p ∈ rs, p.Pairwise (· < ·) /\ ∀ x ∈ p, x < n := fun p hp => by
 rw [G.rows] at hp
 rcases List.mem_append.mp hp with hp | hp
 ·exact ⟨SO.up p hp, SO.lt p hp⟩
 ·obtain ⟨m, hm, rfl⟩ := List.mem_map.mp hp
  have ml := G.fam.lt m (List.mem_append_right _ hm)
  refine ⟨List.pairwise_lt_range.filter _, fun x hx => Classical.byContradiction fun c => ?_⟩
  have := (a1L (Nat.lt_of_lt_of_le ml (Nat.pow_le_pow_right (by decide) n10))).mp hx
  rw [a1C ml (by omega)] at this
  cases this
def c0A (H : Hp) (n : Nat) (ts : List ζζ) (z : Int) (ss : List (List Nat)) (r : Addr) : Prop :=
 (∃ rp rs more, H r = some (.tup [.str "family", .ref rp]) /\ b8X H rp rs /\ GFam n ts z ss rs more) \/ (∃ ro os k, H r = some (.tup [.str "order", .ref ro]) /\ H ro = some (.lst (natV os)) /\ 0 < n /\ z = ((k : Nat) : Int) /\ FreeP n (a2H n ts (AB n k (ssM ss))) (2 ^ n - 1) os)
def c5P (K : Φρ) : Sp := fun vs H Q _ => ∃ (n : Nat) (pn pl r : Addr) (nn : List Nat) (ts : List ζζ) (ss : List (List Nat)) (z : Int), vs = [.int (n : Int), .ref pn, .ref pl, .ref r, .int z] /\ n <= 10 /\ H pn = some (.lst (natV nn)) /\ NearM n ts nn /\ b8X H pl ss /\ SetsOk n ss /\ ss.length <= 5 /\ c0A H n ts z ss r /\ ∀ H', Q (.bl true) H'
section
variable {P : Program} {w : World} {K : Φρ} {mg : Str -> Option Value} {base : Heap}
abbrev DZ1 (K : PySem.W.Frag) (mg : Str -> Option Value) := Dn K mg "_law_holds" a4E ["_law_n", "_law_near_here", "_law_sets_here", "_law_found", "_law_least"]
set_option maxHeartbeats 8000000 in
theorem b0D (B : Bl mg) (Bs : mg "sum" = none) (dZ9 : DZ9 K mg) (dZ8 : DZ8 K mg) (dZ4 : DZ4 K mg) (dZ7 : DZ7 K mg) (dZ2 : DZ2 K mg) (dZ3 : DZ3 K mg) (dZ1 : DZ1 K mg) : FnOk P w K mg base CX0 4 dZ1.f dZ1.fd ["_law_n", "_law_near_here", "_law_sets_here", "_law_found", "_law_least"] (c5P K) := by
 have gZ7 : FnOk P w K mg base CX0 3 _ _ _ _ := (a8S B Bs dZ7).mono (by decide)
 have gZ2 : FnOk P w K mg base CX0 3 _ _ _ _ := a6V B dZ9 dZ8 dZ2
 have gZ3 : FnOk P w K mg base CX0 3 _ _ _ _ := (a6W B dZ4 dZ3).mono (by decide)
 refine dZ1.F.ok sc__law_holds (fun vs H Q E h => ?_) (fun cdv A outer s H vs Q E hr h => ?_)
 ·obtain ⟨n, pn, pl, r, nn, ts, ss, z, rfl, _⟩ := h
  rfl
 obtain ⟨n, pn, pl, r, nn, ts, ss, z, rfl, n10, hN, NM, ⟨qs, hS, pq⟩, SO, l5, FO, q⟩ := h
 have lq := Paired.length pq
 have hu : (A.deeper (PyProof.Rows.envOfC "_law_holds" (a0F a4E) s.heap.objs.size dZ1.f cdv)).units + 64 < cLine := by have := hr.un; omega
 refine ⟨_, (a0B (a1Q (PW.pt (a4Q (a3D (a0T (K := K) rfl (a0I (a1B (K := K) rfl) rfl B.isinstance (by decide +kernel) (a0A (pv 3) (a0A (a2N (v := .ty "tuple") (u := .type "tuple") rfl B.tuple (by decide +kernel) rfl) a0C))) (fun _ => rfl))) (a4Q (a0N c0C (a0I (a0S (K := K) rfl) rfl B.len (by decide +kernel) (a0A (pv 3) a0C)) a0E (a0W _)) (a4W (a3D (a0T (K := K) rfl (a0I (a1B (K := K) rfl) rfl B.isinstance (by decide +kernel) (a0A (a1D (a2A (K := K) rfl) (pv 3) a0E (fun _ _ => rfl)) (a0A (a2N (v := .ty "list") (u := .type "list") rfl B.list (by decide +kernel) rfl) a0C))) (fun _ => rfl)))))))
   (a0D (a0O a4V))
   a0V)
   (a0B (a1Q (a3D (a0T (K := K) rfl (a0I (a1B (K := K) rfl) rfl B.isinstance (by decide +kernel) (a0A (a1D (a2A (K := K) rfl) (pv 3) a0E (fun _ _ => rfl)) (a0A (a2N (v := .ty "str") (u := .type "str") rfl B.str (by decide +kernel) rfl) a0C))) (fun _ => rfl)))
   (a0D (a0O a4V))
   a0V)
   (a0B (a1W (i := 5) ["_law_part", "_law_n"] [none, some 0] sc__law_holds.nd rfl rfl (by kernel_rfl) rfl (a0R (K := K) rfl (pv 2)) (fun _ _ _ _ _ => (a0H (i := 0) (show (["_law_part", "_law_n"] : List Str).Nodup by decide +kernel) rfl (Or.inl rfl))) (fun _ _ _ _ _ => a1G) (fun _ _ _ _ _ => (a0G gZ7 hr rfl dZ7.m dZ7.F.kp dZ7.b .nil a0U (a0A (pv 1) (a0A (pv 0) a0C)))) (by rfl))
   (a0B (a1Q (a0N a3U (a1D (a2A (K := K) rfl) (pv 3) a0E (fun _ _ => rfl)) a8T (a0W _))
   (a0D (a0O (b0G (a5T b5H (pv 0) a0E (a0W _)) (b0F (a0G gZ3 hr rfl dZ3.m dZ3.F.kp dZ3.b .nil a0U (a0A (pv 1) (a0A (a1D (a2A (K := K) rfl) (pv 3) a0E (fun _ _ => rfl)) (a0A (pv 5) (a0A (pv 4) a0C)))))))))
   a0V)
   (a0B (a1W (i := 6) ["_law_part", "_law_n"] [none, some 0] sc__law_holds.nd rfl rfl (by kernel_rfl) rfl (a0R (K := K) rfl (a1D (a2A (K := K) rfl) (pv 3) a0E (fun _ _ => rfl))) (fun _ _ _ _ _ => (a0H (i := 0) (show (["_law_part", "_law_n"] : List Str).Nodup by decide +kernel) rfl (Or.inl rfl))) (fun _ _ _ _ _ => a1G) (fun _ _ _ _ _ => (a0G gZ7 hr rfl dZ7.m dZ7.F.kp dZ7.b .nil a0U (a0A (pv 1) (a0A (pv 0) a0C)))) (by rfl))
   (a0B (a1Q (PW.pt (a4Q (a0N c0C (a1D (a2A (K := K) rfl) (pv 3) a0E (fun _ _ => rfl)) a8T (a0W _)) (a4Q (a0N (a9N (K := K) rfl hu) (a6Y (a7B (K := K) rfl) (pv 6) a9J (a9K (a0I (a0S (K := K) rfl) rfl B.len (by decide +kernel) (a0A (pv 5) a0C)))) (pv 5) (a0W _)) (a4W (a0N b5H (a0I (a0S (K := K) rfl) rfl B.len (by decide +kernel) (a0A (pv 6) a0C)) (a0K a2U (a0I (a0S (K := K) rfl) rfl B.len (by decide +kernel) (a0A (pv 5) a0C)) a0E) (a0W _))))))
   (a0D (a0O a4V))
   a0V)
   (a0D (a0O (a0G gZ2 hr rfl dZ2.m dZ2.F.kp dZ2.b .nil a0U (a0A (pv 1) (a0A (pv 6) (a0A (pv 4) (a0A (a0I (a0S (K := K) rfl) rfl B.len (by decide +kernel) (a0A (pv 5) a0C)) a0C))))))))))))), ?_⟩
 rcases FO with ⟨rp, rs, more, h1, ⟨qr, hrp, pr⟩, GF⟩ | ⟨ro, os, k, h1, hro, n0, ez, FP⟩
 ·have lr := Paired.length pr
  have lrs : rs.length = ss.length + more.length := by rw [GF.rows, List.length_append, List.length_map]
  have few := GF.few
  refine ⟨_, rfl, _, _, _, _, _, rfl, rfl, TyOf.tup h1, a8I, _, rfl, iteF ?_⟩
  refine ⟨_, rfl, r, _, rfl, .inr (SqT.of h1), rfl, _, rfl, iteF ?_⟩
  refine ⟨_, rfl, r, _, _, _, rfl, rfl, SqT.of h1, rfl, _, _, _, _, _, rfl, rfl, TyOf.lst hrp, a5R, _, rfl, iteF ?_⟩
  refine ⟨_, rfl, r, _, _, _, rfl, rfl, SqT.of h1, rfl, _, _, _, _, _, rfl, rfl, TyOf.str _, a8J, _, rfl, iteF ?_⟩
  refine ⟨_, rfl, pl, rfl, ⟨_, SqL.of hS⟩, ?_⟩
  refine a7O (fun j => (ss[j]?).bind fun p => some (.int ((a0Q p : Nat) : Int))) (SqL.of hS) (by rw [List.length_map]; omega) (fun j x G2 N hj g2 hN' => ?_) (fun G2 pm H3 g2 n3 => ?_)
  ·rw [List.getElem?_map] at hj
   obtain ⟨qj, hqj, rfl⟩ := Option.map_eq_some_iff.mp hj
   obtain ⟨p', hp', h6⟩ := a0X pq hqj
   have pm' := List.mem_of_getElem? hp'
   have hN'' : ∀ H', Same H H' -> N (some (V.int ((a0Q p' : Nat) : Int))) H' := fun H' s' => by
    have := hN' H' s'
    rw [hp'] at this
    exact this
   exact ⟨_, rfl, _, rfl, n, qj, p', rfl, g2 _ _ h6, SO.up p' pm', SO.lt p' pm', n10, fun H9 s9 => hN'' H9 (g2.trans s9)⟩
  have e3 : (List.range (qs.map V.ref).length).filterMap (fun j => (ss[j]?).bind fun p => some (V.int ((a0Q p : Nat) : Int))) = natV (ss.map a0Q) := by
   rw [List.length_map, Paired.length pq, a3F, show (fun p => some (V.int ((a0Q p : Nat) : Int))) = fun p => some ((fun x : Nat => V.int (x : Int)) (a0Q p)) from rfl, a9G, a0Y, List.map_map, List.map_map, List.map_map]; rfl
  rw [e3] at n3
  have s13 : Same H H3 := g2.trans n3.same
  have hm := n3.here
  clear e3 n3 g2
  refine ⟨_, rfl, r, _, _, _, rfl, rfl, SqT.of (s13 _ _ h1), rfl, rfl, _, rfl, ?_⟩
  rw [decide_eq_false (show ¬ V.str "family" = V.str "order" by decide)]
  refine iteF ?_
  have pr3 : Paired (fun q l => H3 q = some (.lst (natV l))) qr rs := Paired.mapP pr fun _ _ h => s13 _ _ h
  refine ⟨_, rfl, r, _, _, _, rfl, rfl, SqT.of (s13 _ _ h1), rfl, rp, rfl, ⟨_, SqL.of (s13 _ _ hrp)⟩, ?_⟩
  refine a7O (fun j => (rs[j]?).bind fun p => some (.int ((a0Q p : Nat) : Int))) (SqL.of (s13 _ _ hrp)) (by rw [List.length_map]; omega) (fun j x G2 N hj g2 hN' => ?_) (fun G2 pt H5 g2 n3 => ?_)
  ·rw [List.getElem?_map] at hj
   obtain ⟨qj, hqj, rfl⟩ := Option.map_eq_some_iff.mp hj
   obtain ⟨p', hp', h6⟩ := a0X pr3 hqj
   have pm' := List.mem_of_getElem? hp'
   have hN'' : ∀ H', Same H3 H' -> N (some (V.int ((a0Q p' : Nat) : Int))) H' := fun H' s' => by
    have := hN' H' s'
    rw [hp'] at this
    exact this
   exact ⟨_, rfl, _, rfl, n, qj, p', rfl, g2 _ _ h6, (b9Z n10 GF SO p' pm').1, (b9Z n10 GF SO p' pm').2, n10, fun H9 s9 => hN'' H9 (g2.trans s9)⟩
  have e3 : (List.range (qr.map V.ref).length).filterMap (fun j => (rs[j]?).bind fun p => some (V.int ((a0Q p : Nat) : Int))) = natV (rs.map a0Q) := by
   rw [List.length_map, Paired.length pr3, a3F, show (fun p => some (V.int ((a0Q p : Nat) : Int))) = fun p => some ((fun x : Nat => V.int (x : Int)) (a0Q p)) from rfl, a9G, a0Y, List.map_map, List.map_map, List.map_map]; rfl
  rw [e3] at n3
  have s35 : Same H3 H5 := g2.trans n3.same
  have ht := n3.here
  clear e3 n3 g2
  have s15 := s13.trans s35
  rw [b6E n10 GF] at ht
  refine ⟨_, rfl, r, _, _, _, rfl, rfl, SqT.of (s15 _ _ h1), rfl, rfl, _, rfl, ?_⟩
  rw [decide_eq_true (show V.str "family" = V.str "family" from rfl)]
  refine iteF ?_
  have hm5 := s35 _ _ hm
  refine ⟨_, rfl, _, rfl, pm, _, rfl, .inl (SqL.of hm5), _, rfl, pt, _, rfl, SqL.of ht, fun p8 H8 n8 => ?_⟩
  rw [a0J, b3P _ _ (by rw [List.length_append]; omega), List.take_left] at n8
  have i1 : SqL K H8 p8 (((ss.map a0Q).map fun (x : Nat) => (x : Int)).map V.int) := by rw [<- a0Y]; exact SqL.of n8.here
  have i2 : SqL K H8 pm (((ss.map a0Q).map fun (x : Nat) => (x : Int)).map V.int) := by rw [<- a0Y]; exact SqL.of (n8.same _ _ hm5)
  refine ⟨_, rfl, _, _, .lst i1 (IsDs.ints _), .lst i2 (IsDs.ints _), a1O _, a1O _, _, rfl, ?_⟩
  rw [if_pos rfl, a7C (a1O _)]
  refine iteF ?_
  have ht8 := n8.same _ _ ht
  have hm8 := n8.same _ _ hm5
  refine ⟨_, rfl, pt, _, rfl, .inl (SqL.of ht8), _, rfl, pm, _, rfl, .inl (SqL.of hm8), _, _, rfl, rfl, _, _, rfl, rfl, _, rfl, ?_⟩
  rw [decide_eq_false (show ¬ (((natV (ss.map a0Q)).length : Nat) : Int) + 252 < (((natV (ss.map a0Q ++ more)).length : Nat) : Int) by rw [a0J, a0J, List.length_append]; omega)]
  refine iteF ?_
  have GM : GrM n ts z (ss.map a0Q) more := ⟨GF.fam, GF.nd, GF.new, by rw [List.length_append, List.length_map]; omega, GF.big⟩
  exact ⟨_, rfl, _, rfl, _, rfl, _, rfl, pm, _, rfl, .inl (SqL.of hm8), n, pn, pt, nn, ss.map a0Q, more, ts, z, (by rw [a0J]; rfl), n10, n8.same _ _ (s15 _ _ hN), NM, ht8, GM, fun H9 _ => q H9⟩
 ·have lF : ss.length <= 900 := by omega
  refine ⟨_, rfl, _, _, _, _, _, rfl, rfl, TyOf.tup h1, a8I, _, rfl, iteF ?_⟩
  refine ⟨_, rfl, r, _, rfl, .inr (SqT.of h1), rfl, _, rfl, iteF ?_⟩
  refine ⟨_, rfl, r, _, _, _, rfl, rfl, SqT.of h1, rfl, _, _, _, _, _, rfl, rfl, TyOf.lst hro, a5R, _, rfl, iteF ?_⟩
  refine ⟨_, rfl, r, _, _, _, rfl, rfl, SqT.of h1, rfl, _, _, _, _, _, rfl, rfl, TyOf.str _, a8J, _, rfl, iteF ?_⟩
  refine ⟨_, rfl, pl, rfl, ⟨_, SqL.of hS⟩, ?_⟩
  refine a7O (fun j => (ss[j]?).bind fun p => some (.int ((a0Q p : Nat) : Int))) (SqL.of hS) (by rw [List.length_map]; omega) (fun j x G2 N hj g2 hN' => ?_) (fun G2 pm H3 g2 n3 => ?_)
  ·rw [List.getElem?_map] at hj
   obtain ⟨qj, hqj, rfl⟩ := Option.map_eq_some_iff.mp hj
   obtain ⟨p', hp', h6⟩ := a0X pq hqj
   have pm' := List.mem_of_getElem? hp'
   have hN'' : ∀ H', Same H H' -> N (some (V.int ((a0Q p' : Nat) : Int))) H' := fun H' s' => by
    have := hN' H' s'
    rw [hp'] at this
    exact this
   exact ⟨_, rfl, _, rfl, n, qj, p', rfl, g2 _ _ h6, SO.up p' pm', SO.lt p' pm', n10, fun H9 s9 => hN'' H9 (g2.trans s9)⟩
  have e3 : (List.range (qs.map V.ref).length).filterMap (fun j => (ss[j]?).bind fun p => some (V.int ((a0Q p : Nat) : Int))) = natV (ss.map a0Q) := by
   rw [List.length_map, Paired.length pq, a3F, show (fun p => some (V.int ((a0Q p : Nat) : Int))) = fun p => some ((fun x : Nat => V.int (x : Int)) (a0Q p)) from rfl, a9G, a0Y, List.map_map, List.map_map, List.map_map]; rfl
  rw [e3] at n3
  have s13 : Same H H3 := g2.trans n3.same
  have hm := n3.here
  clear e3 n3 g2
  refine ⟨_, rfl, r, _, _, _, rfl, rfl, SqT.of (s13 _ _ h1), rfl, rfl, _, rfl, ?_⟩
  rw [decide_eq_true (show V.str "order" = V.str "order" from rfl)]
  refine iteT ?_
  refine ⟨_, rfl, _, _, rfl, rfl, _, rfl, ?_⟩
  rw [decide_eq_true (show (0 : Int) < (n : Int) by omega)]
  subst ez
  exact iteT ⟨_, rfl, _, rfl, r, _, _, _, rfl, rfl, SqT.of (s13 _ _ h1), rfl, _, rfl, _, rfl, n, k, pn, ro, pm, nn, os, ss.map a0Q, ts, rfl, n10, s13 _ _ hN, NM, s13 _ _ hro, hm, by rw [List.length_map]; omega, FP, fun H9 _ => q H9⟩
end
end K
namespace K
open PySem L2 Lw Bg
abbrev a8K : Stmt := top 40
theorem sc__law_ties : FnScope ["_law_script", "_law_at", "_law_n", "_law_bits", "_law_menu", "_law_other", "_law_ties_here", "_law_a", "_law_b"] ["_law_script", "_law_at", "_law_n"] (a0F a8K) := ⟨rfl, rfl, rfl, by decide +kernel, rfl, by decide +kernel, by decide +kernel⟩
abbrev lexT (s t : Int × Int) : Prop := s.1 < t.1 \/ (s.1 = t.1 /\ s.2 < t.2)
structure Web (n : Int) (ts : List ζζ) : Prop where
 ok : ∀ t ∈ ts, 0 <= t.1 /\ t.1 < t.2 /\ t.2 < n
 up : ts.Pairwise lexT
def c5Q (K : Φρ) : Sp := fun vs H Q _ => ∃ (a : Addr) (ns : List Int) (k : Int) (n : Nat), vs = [.ref a, .int k, .int n] /\ SqL K H a (ns.map V.int) /\ ns.length <= 63 /\ 0 <= k /\ k <= 900 /\ n <= 10 /\
 ∀ r xs ts H', Same H H' -> H r = none -> H' r = some (.lst xs) -> Paired (TieL H') xs ts -> Web n ts -> ts.length <= 100 -> Q (.ref r) H'
section
variable {P : Program} {w : World} {K : Φρ} {mg : Str -> Option Value} {base : Heap}
abbrev DZ11 (K : PySem.W.Frag) (mg : Str -> Option Value) := Dn K mg "_law_ties" a8K ["_law_script", "_law_at", "_law_n"]
set_option maxHeartbeats 4000000 in
theorem b2J (B : Bl mg) (dZ0 : DZ0 K mg) (dZ5 : DZ5 K mg) (dZ11 : DZ11 K mg) : FnOk P w K mg base CX0 2 dZ11.f dZ11.fd ["_law_script", "_law_at", "_law_n"] (c5Q K) := by
 have gZ0 : FnOk P w K mg base CX0 1 _ _ _ _ := b3O B dZ0
 have gZ5 : FnOk P w K mg base CX0 1 _ _ _ _ := b5B B dZ5
 refine dZ11.F.ok sc__law_ties (fun vs H Q E h => ?_) (fun cdv A outer s H vs Q E hr h => ?_)
 ·obtain ⟨a, ns, k, n, rfl, _⟩ := h
  rfl
 obtain ⟨a, ns, k, n, rfl, hS, h63, k0, k1, hn, q⟩ := h
 refine ⟨_, (a0B (a0M (i := 3) sc__law_ties.nd rfl (Or.inl rfl) (a0G gZ5 hr rfl dZ5.m dZ5.F.kp dZ5.b .nil a0U (a0A (a0G gZ0 hr rfl dZ0.m dZ0.F.kp dZ0.b .nil a0U (a0A (pv 0) (a0A (pv 1) a0C))) (a0A (a0K a8V a0E a0E) a0C))))
   (a0B (a0M (i := 4) sc__law_ties.nd rfl (Or.inl rfl) (a0K a2C (a0G gZ0 hr rfl dZ0.m dZ0.F.kp dZ0.b .nil a0U (a0A (pv 0) (a0A (a0K a2U (pv 1) a0E) a0C))) a0E))
   (a0B (a0M (i := 5) sc__law_ties.nd rfl (Or.inl rfl) (a0G gZ5 hr rfl dZ5.m dZ5.F.kp dZ5.b .nil a0U (a0A (a0G gZ0 hr rfl dZ0.m dZ0.F.kp dZ0.b .nil a0U (a0A (pv 0) (a0A (a0K a2U (pv 1) a0E) a0C))) (a0A (a0K a8V a0E a0E) a0C))))
   (a5V (a1Q (a0N b5G (pv 4) a0E (a0W _))
   (a0D (a0M (i := 3) sc__law_ties.nd rfl (Or.inl rfl) (a0K a3T (pv 3) (pv 5))))
   (a0D (a1Q (a0N b5G (pv 4) a0E (a0W _))
   (a0D (a0M (i := 3) sc__law_ties.nd rfl (Or.inl rfl) (a0K a7L (pv 3) (pv 5))))
   (a0D (a1Q (a0N a3U (pv 4) a0E (a0W _))
   (a0D (a0M (i := 3) sc__law_ties.nd rfl (Or.inl rfl) (a0K a3Q (a0K a8V a0E a0E) a0E)))
   a0V)))))
   (a0B (a0M (i := 6) sc__law_ties.nd rfl (Or.inl rfl) (a2S a0C))
   (a0B (a1I PassesOwn.never rfl (a1U rfl B.range (a0A (pv 2) a0C)) (a0H (i := 7) sc__law_ties.nd rfl (Or.inl rfl))
   (a0D (a1I PassesOwn.never rfl (a3H rfl B.range (a0A (a0K a2U (pv 7) a0E) (a0A (pv 2) a0C))) (a0H (i := 8) sc__law_ties.nd rfl (Or.inl rfl))
   (a5V (a1Q (a0N a3U (a0K a2C (pv 3) a0E) a0E (a0W _))
   (a0D (a2O (a3R (K := K) rfl PySem.F.plainAttrs_list PySem.F.slot_list_append PySem.F.type_list_append a1X (pv 6) (a0A (a3K (a0A (pv 7) (a0A (pv 8) a0C))) a0C))))
   a0V)
   (a0D (a0M (i := 3) sc__law_ties.nd rfl (Or.inl rfl) (a0K a7K (pv 3) a0E)))))))
   (a0D (a0O (pv 6))))))))), ?_⟩
 refine ⟨_, rfl, _, rfl, a, ns, k, rfl, hS, h63, k0, (by omega), _, _, rfl, rfl, ⟨by decide, by decide, by decide⟩, _, _, rfl, (by decide), ?_⟩
 refine ⟨_, rfl, _, rfl, _, _, rfl, rfl, a, ns, k + 1, rfl, hS, h63, (by omega), (by omega), _, _, rfl, rfl, (show (0 : Int) < _ by decide), ?_⟩
 refine ⟨_, rfl, _, rfl, _, _, rfl, rfl, a, ns, k + 2, rfl, hS, h63, (by omega), (by omega), _, _, rfl, rfl, ⟨by decide, by decide, by decide⟩, _, _, rfl, (by decide), ?_⟩
 refine ⟨fun σ' H' => ∃ b x y : Int, σ' = [some (.ref a), some (.int k), some (.int n), some (.int b), some (.int x), some (.int y), none, none, none] /\ H' = H, ?_, ?_⟩
 ·refine ⟨_, rfl, _, _, rfl, rfl, _, rfl, ?_⟩
  refine ite2 (fun c => ?_) (fun c => ?_)
  ·exact ⟨_, rfl, _, rfl, _, _, rfl, rfl, _, _, _, rfl, rfl⟩
  ·refine ⟨_, rfl, _, _, rfl, rfl, _, rfl, ?_⟩
   refine ite2 (fun c => ?_) (fun c => ?_)
   ·exact ⟨_, rfl, _, rfl, _, _, rfl, rfl, _, _, _, rfl, rfl⟩
   ·refine ⟨_, rfl, rfl, _, rfl, ?_⟩
    refine ite2 (fun c => ?_) (fun c => ?_)
    ·exact ⟨_, _, rfl, rfl, ⟨by decide, by decide, by decide⟩, _, _, rfl, rfl, _, _, _, rfl, rfl⟩
    ·exact ⟨_, _, _, rfl, rfl⟩
 rintro σ' H' ⟨b0, x0, y0, rfl, rfl⟩
 refine ⟨(by show 0 <= 1000; decide), fun r H0 nw => ?_⟩
 refine ⟨_, rfl, _, rfl, by omega, by omega, ?_⟩
 have en : ((n : Nat) : Int).toNat = n := by omega
 rw [en]
 refine a2B (n := n) (fun i σ H2 => ∃ (b : Int) (aa bb : Option V) (xs : List V) (ts : List ζζ), σ = [some (.ref a), some (.int k), some (.int n), some (.int b), some (.int x0), some (.int y0), some (.ref r), aa, bb] /\ Same H' H2 /\ H2 r = some (.lst xs) /\ Paired (TieL H2) xs ts /\ ts.length <= 10 * i /\ Web n ts /\ ∀ t ∈ ts, t.1 < (i : Int))
  ⟨_, none, none, [], [], rfl, nw.same, nw.here, .nil, Nat.zero_le _, ⟨fun t h => absurd h List.not_mem_nil, .nil⟩, fun t h => absurd h List.not_mem_nil⟩ ?_ ?_
 ·rintro i σ H2 hi ⟨b, aa, bb, xs, ts, rfl, sm, hr2, hp, hz, hw, hlt⟩
  refine ⟨_, rfl, _, _, rfl, rfl, _, rfl, _, _, rfl, ⟨by omega, by omega, by omega, by omega⟩, ?_⟩
  refine a2B (n := _) (fun j σ H3 => ∃ (b : Int) (bb : Option V) (xs : List V) (ts : List ζζ), σ = [some (.ref a), some (.int k), some (.int n), some (.int b), some (.int x0), some (.int y0), some (.ref r), some (.int (0 + (i : Int))), bb] /\ Same H' H3 /\ H3 r = some (.lst xs) /\ Paired (TieL H3) xs ts /\ ts.length <= 10 * i + j /\ Web n ts /\ ∀ t ∈ ts, t.1 < (i : Int) \/ (t.1 = (i : Int) /\ t.2 < (i : Int) + 1 + j))
   ⟨b, bb, xs, ts, rfl, sm, hr2, hp, by omega, hw, fun t h => .inl (hlt t h)⟩ ?_ ?_
  ·rintro j σ H3 hj ⟨b, bb, xs, ts, rfl, sm, hr3, hp, hz, hw, hlt⟩
   have jn : (j : Int) + (0 + (i : Int) + 1) < n := by omega
   refine ⟨fun σ' H4 => ∃ (xs : List V) (ts : List ζζ), σ' = [some (.ref a), some (.int k), some (.int n), some (.int b), some (.int x0), some (.int y0), some (.ref r), some (.int (0 + (i : Int))), some (.int (0 + (i : Int) + 1 + (j : Int)))] /\ Same H' H4 /\ H4 r = some (.lst xs) /\ Paired (TieL H4) xs ts /\ ts.length <= 10 * i + (j + 1) /\ Web n ts /\ ∀ t ∈ ts, t.1 < (i : Int) \/ (t.1 = (i : Int) /\ t.2 < (i : Int) + 1 + (j + 1 : Nat)), ?_, ?_⟩
   ·refine ⟨_, rfl, _, _, rfl, rfl, (show (0 : Int) < _ by decide), rfl, _, rfl, ?_⟩
    refine ite2 (fun c => ?_) (fun c => ?_)
    ·refine ⟨_, rfl, .inl ⟨rfl, _, SqL.of hr3⟩, _, rfl, _, rfl, (by show 2 <= 1000; decide), fun p4 H4 n4 => ?_⟩
     have hl : xs.length = ts.length := Paired.length hp
     refine ⟨r, _, _, rfl, rfl, n4.same _ _ hr3, (by omega), fun H5 c5 => ?_⟩
     refine ⟨xs ++ [.ref p4], ts ++ [(0 + (i : Int), 0 + (i : Int) + 1 + (j : Int))], rfl, (sm.trans n4.same).chg nw.fresh c5, c5.here, ?_, ?_, ⟨fun t ht => ?_, ?_⟩, fun t ht => ?_⟩
     ·refine a2I (Paired.mapP hp fun v t q => (q.same n4.same).chg (n4.same _ _ hr3) c5) ?_
      exact TieL.chg (n4.same _ _ hr3) c5 ⟨p4, rfl, n4.here⟩
     ·rw [List.length_append]; show ts.length + 1 <= _; omega
     ·rcases List.mem_append.mp ht with ht | ht
      ·exact hw.ok t ht
      ·rw [List.mem_singleton.mp ht]
       exact ⟨by show 0 <= 0 + (i : Int); omega, by show 0 + (i : Int) < 0 + (i : Int) + 1 + (j : Int); omega, by show 0 + (i : Int) + 1 + (j : Int) < n; omega⟩
     ·refine List.pairwise_append.mpr ⟨hw.up, List.pairwise_singleton _ _, fun t ht u hu => ?_⟩
      rw [List.mem_singleton.mp hu]
      show t.1 < 0 + (i : Int) \/ (t.1 = 0 + (i : Int) /\ t.2 < 0 + (i : Int) + 1 + (j : Int))
      have := hlt t ht
      omega
     ·rcases List.mem_append.mp ht with ht | ht
      ·have := hlt t ht
       omega
      ·rw [List.mem_singleton.mp ht]
       show 0 + (i : Int) < (i : Int) \/ (0 + (i : Int) = (i : Int) /\ 0 + (i : Int) + 1 + (j : Int) < (i : Int) + 1 + (j + 1 : Nat))
       omega
    ·exact ⟨xs, ts, rfl, sm, hr3, hp, by omega, hw, fun t ht => by have := hlt t ht; omega⟩
   ·rintro σ' H4 ⟨xs, ts, rfl, sm, hr4, hp, hz, hw, hlt⟩
    refine ⟨_, rfl, _, _, rfl, rfl, ⟨by decide, by decide⟩, ?_⟩
    exact ⟨_, _, xs, ts, rfl, sm, hr4, hp, hz, hw, hlt⟩
  ·rintro σ H3 ⟨b, bb, xs, ts, rfl, sm, hr3, hp, hz, hw, hlt⟩
   exact ⟨b, _, bb, xs, ts, rfl, sm, hr3, hp, by omega, hw, fun t ht => by have := hlt t ht; omega⟩
 ·rintro σ H2 ⟨b, aa, bb, xs, ts, rfl, sm, hr2, hp, hz, hw, hlt⟩
  exact ⟨_, rfl, q r xs ts H2 sm nw.fresh hr2 hp hw (by omega)⟩
end
abbrev c5R : Stmt := top 50
theorem sc_law : FnScope ["_law_script", "_law_n", "_law_ties_here", "_law_near_here", "_law_sets_here", "_law_handed", "_law_some", "_law_part", "_law_found", "_law_least"] ["_law_script"] (a0F c5R) := ⟨rfl, rfl, rfl, by decide +kernel, rfl, by decide +kernel, by decide +kernel⟩
theorem FnOk.sub {P : Program} {w : World} {K : Φρ} {mg : Str -> Option Value} {base : Heap} {CX : CXT} {k : Nat} {f : Addr} {fd : FuncData} {ps : List Str} {sp sp' : Sp} (F : FnOk P w K mg base CX k f fd ps sp) (m : ∀ vs H Q E, sp' vs H Q E -> sp vs H Q E) : FnOk P w K mg base CX k f fd ps sp' :=
 ⟨fun vs H Q E h => F.len vs H Q E (m vs H Q E h), fun A outer s H args us vs Q E hr he hb hv hs => F.run A outer s H args us vs Q E hr he hb hv (m vs H Q E hs)⟩
def FoundN (H H' : Hp) (n : Nat) (ts : List ζζ) (z : Int) (ss : List (List Nat)) (r : Addr) : Prop :=
 (∃ rp qr rs more, H' r = some (.tup [.str "family", .ref rp]) /\ H rp = none /\ H' rp = some (.lst (qr.map V.ref)) /\ (∀ q ∈ qr, H q = none) /\ Paired (fun q l => H' q = some (.lst (natV l))) qr rs /\ GFam n ts z ss rs more) \/
 (∃ ro os k, H' r = some (.tup [.str "order", .ref ro]) /\ H ro = none /\ H' ro = some (.lst (natV os)) /\ 0 < n /\ z = ((k : Nat) : Int) /\ FreeP n (a2H n ts (AB n k (ssM ss))) (2 ^ n - 1) os)
def b5D (K : Φρ) : Sp := fun vs H Q _ => ∃ (g : V) (n : Nat) (ts : List ζζ) (a : Addr) (ss : List (List Nat)), vs = [g, .ref a] /\ GraphV K H g n ts /\ (∀ t ∈ ts, 0 <= t.1 /\ t.1 < t.2 /\ t.2 < (n : Int)) /\ n <= 10 /\ ts.length <= 100 /\ b8X H a ss /\ SsOk n ts ss /\
 ∀ r cs H', Same H H' -> CostOk n ts cs -> FoundN H H' n ts (cs.getD (2 ^ n - 1) 0) ss r -> Q (.ref r) H'
theorem c8B {K : Φρ} : ∀ vs H Q E, b5D K vs H Q E -> b9N K vs H Q E := by
 rintro vs H Q E ⟨g, n, ts, a, ss, e, hG, okt, n10, l100, hA, SS, q⟩
 refine ⟨g, n, ts, a, ss, e, hG, okt, n10, l100, hA, SS, fun r rp rs more cs H' s h1 hN f1 C G => ?_, fun r ro os cs k H' s h1 f1 ho C n0 e' F => ?_⟩
 ·obtain ⟨qr, h2, _, fq, pq⟩ := hN
  exact q r cs H' s C (.inl ⟨rp, qr, rs, more, h1, f1, h2, fq, pq, G⟩)
 ·exact q r cs H' s C (.inr ⟨ro, os, k, h1, f1, ho, n0, e', F⟩)
theorem FoundN.keep {H H' H'' : Hp} {n : Nat} {ts : List ζζ} {z : Int} {ss : List (List Nat)} {r : Addr} (h : FoundN H H' n ts z ss r) (kt : ∀ x l, H' x = some (.tup l) -> H'' x = some (.tup l)) (kn : ∀ x o, H x = none -> H' x = some o -> H'' x = some o) : c0A H'' n ts z ss r := by
 rcases h with ⟨rp, qr, rs, more, h1, h2, h3, h4, h5, G⟩ | ⟨ro, os, k, h1, h2, h3, n0, e, F⟩
 ·exact .inl ⟨rp, rs, more, kt _ _ h1, ⟨qr, kn _ _ h2 h3, a4I h5 fun q l hq h => kn _ _ (h4 q hq) h⟩, G⟩
 ·exact .inr ⟨ro, os, k, kt _ _ h1, kn _ _ h2 h3, n0, e, F⟩
section
variable {P : Program} {w : World} {K : Φρ} {mg : Str -> Option Value} {base : Heap}
set_option maxHeartbeats 16000000 in
theorem c9M (B : Bl mg) (Bs : mg "sum" = none) (dZ26 : DZ26 K mg) (dZ23 : DZ23 K mg) (dZ25 : DZ25 K mg) (dZ15 : DZ15 K mg) (dZ27 : DZ27 K mg) (dZ30 : DZ30 K mg) (dZ13 : DZ13 K mg) (dZ24 : DZ24 K mg) (dZ36 : DZ36 K mg) (dZ35 : DZ35 K mg) (dZ38 : DZ38 K mg) (dZ31 : DZ31 K mg) (dZ37 : DZ37 K mg) (dZ32 : DZ32 K mg) (dZ19 : DZ19 K mg) (dZ40 : DZ40 K mg) (dZ12 : DZ12 K mg) (dZ16 : DZ16 K mg) (dZ17 : DZ17 K mg) (dZ21 : DZ21 K mg) (dZ29 : DZ29 K mg) (dZ20 : DZ20 K mg) (dZ33 : DZ33 K mg) (dZ22 : DZ22 K mg) (dZ18 : DZ18 K mg) (dZ39 : DZ39 K mg) (dZ14 : DZ14 K mg) (dZ34 : DZ34 K mg) (dZ0 : DZ0 K mg) (dZ5 : DZ5 K mg) (dZ11 : DZ11 K mg) (dZ6 : DZ6 K mg) (dZ9 : DZ9 K mg) (dZ8 : DZ8 K mg) (dZ4 : DZ4 K mg) (dZ10 : DZ10 K mg) (dZ7 : DZ7 K mg) (dZ2 : DZ2 K mg) (dZ3 : DZ3 K mg) (dZ1 : DZ1 K mg) (dZ28 : Dn K mg "law" c5R ["_law_script"]) : FnOk P w K mg base CX0 12 dZ28.f dZ28.fd ["_law_script"] (spLaw K) := by
 have gZ0 : FnOk P w K mg base CX0 11 _ _ _ _ := (b3O B dZ0).mono (by decide)
 have gZ11 : FnOk P w K mg base CX0 11 _ _ _ _ := (b2J B dZ0 dZ5 dZ11).mono (by decide)
 have gZ6 : FnOk P w K mg base CX0 11 _ _ _ _ := (b2F B dZ6).mono (by decide)
 have gZ10 : FnOk P w K mg base CX0 11 _ _ _ _ := (b2I B dZ0 dZ5 dZ9 dZ8 dZ4 dZ10).mono (by decide)
 have gZ1 : FnOk P w K mg base CX0 11 _ _ _ _ := (b0D B Bs dZ9 dZ8 dZ4 dZ7 dZ2 dZ3 dZ1).mono (by decide)
 have gZ29 : FnOk P w K mg base CX0 11 _ _ _ _ := (a4N B dZ32 dZ19 dZ40 dZ12 dZ17 dZ16 dZ29).mono (by decide)
 have G0 : FnOk P w K mg base CX0 11 _ _ _ _ := (c2B B Bs dZ26 dZ23 dZ25 dZ15 dZ27 dZ30 dZ13 dZ24 dZ36 dZ35 dZ38 dZ31 dZ37 dZ32 dZ19 dZ40 dZ12 dZ16 dZ17 dZ21 dZ29 dZ20 dZ33 dZ18 dZ39 dZ14 dZ34 dZ22).mono (by decide)
 have gZ22 : FnOk P w K mg base CX0 11 _ _ _ (b5D K) := FnOk.sub G0 c8B
 refine dZ28.F.ok sc_law (fun vs H Q E h => ?_) (fun cdv A outer s H vs Q E hr h => ?_)
 ·obtain ⟨a, ns, rfl, _⟩ := h
  rfl
 obtain ⟨a, ns, rfl, hS, h63, q⟩ := h
 have hu : (A.deeper (PyProof.Rows.envOfC "law" (a0F c5R) s.heap.objs.size dZ28.f cdv)).units + 64 < cLine := by have := hr.un; omega
 refine ⟨_, (a0B (a0M (i := 1) sc_law.nd rfl (Or.inl rfl) (a0K a2C (a0G gZ0 hr rfl dZ0.m dZ0.F.kp dZ0.b .nil a0U (a0A (pv 0) (a0A a0E a0C))) a0E))
   (a5V (a1Q (a0N a3U (a0K a2C (a0K a7K (a0G gZ0 hr rfl dZ0.m dZ0.F.kp dZ0.b .nil a0U (a0A (pv 0) (a0A a0E a0C))) a0E) a0E) a0E (a0W _))
   (a0D (a0M (i := 1) sc_law.nd rfl (Or.inl rfl) (a0K a2U a0E (a0K a2C (a0K a7K (a0G gZ0 hr rfl dZ0.m dZ0.F.kp dZ0.b .nil a0U (a0A (pv 0) (a0A a0E a0C))) a0E) a0E))))
   a0V)
   (a0B (a0M (i := 2) sc_law.nd rfl (Or.inl rfl) (a0G gZ11 hr rfl dZ11.m dZ11.F.kp dZ11.b .nil a0U (a0A (pv 0) (a0A a0E (a0A (pv 1) a0C)))))
   (a0B (a0M (i := 3) sc_law.nd rfl (Or.inl rfl) (a0G gZ6 hr rfl dZ6.m dZ6.F.kp dZ6.b .nil a0U (a0A (pv 1) (a0A (pv 2) a0C))))
   (a0B (a0M (i := 4) sc_law.nd rfl (Or.inl rfl) (a0G gZ10 hr rfl dZ10.m dZ10.F.kp dZ10.b .nil a0U (a0A (pv 0) (a0A (pv 1) (a0A (pv 3) a0C)))))
   (a0B (a0M (i := 5) sc_law.nd rfl (Or.inl rfl) (a3K (a0A (pv 1) (a0A (a2V (a3I (K := K) rfl) rfl B.list (by decide +kernel) (a0A (pv 2) a0C)) a0C))))
   (a0B (a1W (i := 6) ["_law_part"] [none] sc_law.nd rfl rfl (by kernel_rfl) rfl (a0R (K := K) rfl (pv 4)) (fun _ _ _ _ _ => (a0H (i := 0) (show (["_law_part"] : List Str).Nodup by decide +kernel) rfl (Or.inl rfl))) (fun _ _ _ _ _ => a1G) (fun _ _ _ _ _ => (a2V (a3I (K := K) rfl) rfl B.list (by decide +kernel) (a0A (pv 0) a0C))) (by rfl))
   (a0B (a0M (i := 8) sc_law.nd rfl (Or.inl rfl) (a0G gZ22 hr rfl dZ22.m dZ22.F.kp dZ22.b .nil a0U (a0A (pv 5) (a0A (pv 6) a0C))))
   (a0B (a0M (i := 9) sc_law.nd rfl (Or.inl rfl) (a0G gZ29 hr rfl dZ29.m dZ29.F.kp dZ29.b .nil a0U (a0A (a3K (a0A (pv 1) (a0A (a2V (a3I (K := K) rfl) rfl B.list (by decide +kernel) (a0A (pv 2) a0C)) a0C))) a0C)))
   (a0B (a1Q (PW.pt (a4Q (a3D (a0T (K := K) rfl (a0I (a1B (K := K) rfl) rfl B.isinstance (by decide +kernel) (a0A (pv 9) (a0A (a2N (v := .ty "int") (u := .type "int") rfl B.int (by decide +kernel) rfl) a0C))) (fun _ => rfl))) (a4Q (a0T (K := K) rfl (a0I (a1B (K := K) rfl) rfl B.isinstance (by decide +kernel) (a0A (pv 9) (a0A (a2N (v := .ty "bool") (u := .type "bool") rfl B.bool (by decide +kernel) rfl) a0C))) (fun _ => rfl)) (a4Q (a0N (a9N (K := K) rfl hu) (pv 5) (a3K (a0A (pv 1) (a0A (pv 2) a0C))) (a0W _)) (a4W (a0N (a9N (K := K) rfl hu) (pv 6) (pv 4) (a0W _)))))))
   (a0D (a0O a4V))
   a0V)
   (a0B (a1I PassesOwn.never rfl (a0R (K := K) rfl (pv 6)) (a0H (i := 7) sc_law.nd rfl (Or.inl rfl))
   (a0D (a2O (a3R (K := K) rfl PySem.F.plainAttrs_list PySem.F.slot_list_append PySem.F.type_list_append a1X (pv 7) (a0A (pv 1) a0C)))))
   (a0B (a2O (a3R (K := K) rfl PySem.F.plainAttrs_list PySem.F.slot_list_append PySem.F.type_list_append a1X (pv 6) (a0A (a2S a0C) a0C)))
   (a0B (a2O (a3R (K := K) rfl PySem.F.plainAttrs_list PySem.F.slot_list_append PySem.F.type_list_append a1X (a1D (a2A (K := K) rfl) (pv 5) a0E (fun _ _ => rfl)) (a0A (a3K (a0A (pv 1) (a0A (a0K a2U (pv 1) a0E) a0C))) a0C)))
   (a0D (a0O (a0G gZ1 hr rfl dZ1.m dZ1.F.kp dZ1.b .nil a0U (a0A (pv 1) (a0A (pv 3) (a0A (pv 4) (a0A (pv 8) (a0A (pv 9) a0C))))))))))))))))))))), ?_⟩
 refine ⟨_, rfl, a, ns, 0, rfl, hS.seq, h63, by decide, by decide, _, _, rfl, rfl, (show (0 : Int) < _ by decide), ?_⟩
 obtain ⟨m1, e1, b1⟩ : ∃ m1 : Nat, a2L ns 0 % 7 = (m1 : Int) /\ m1 <= 10 := by
  have y0 := Int.emod_nonneg (a2L ns 0) (show (7 : Int) ≠ 0 by decide)
  have y1 := Int.emod_lt_of_pos (a2L ns 0) (show (0 : Int) < 7 by decide)
  exact ⟨(a2L ns 0 % 7).toNat, by omega, by omega⟩
 obtain ⟨m2, e2, b2⟩ : ∃ m2 : Nat, 7 + a2L ns 0 / 56 % 4 = (m2 : Int) /\ m2 <= 10 := by
  have y0 := Int.emod_nonneg (a2L ns 0 / 56) (show (4 : Int) ≠ 0 by decide)
  have y1 := Int.emod_lt_of_pos (a2L ns 0 / 56) (show (0 : Int) < 4 by decide)
  exact ⟨(7 + a2L ns 0 / 56 % 4).toNat, by omega, by omega⟩
 dsimp only
 rw [e1]
 refine ⟨fun σ' H' => ∃ n : Nat, n <= 10 /\ σ' = [some (.ref a), some (.int (n : Int)), none, none, none, none, none, none, none, none] /\ H' = H, ?_, ?_⟩
 ·refine ⟨_, rfl, a, ns, 0, rfl, hS.seq, h63, by decide, by decide, _, _, rfl, rfl, ⟨by decide, by decide⟩, _, _, rfl, rfl, (show (0 : Int) < _ by decide), rfl, _, rfl, ite2 (fun _ => ?_) (fun _ => ⟨m1, b1, rfl, rfl⟩)⟩
  refine ⟨_, rfl, a, ns, 0, rfl, hS.seq, h63, by decide, by decide, _, _, rfl, rfl, ⟨by decide, by decide⟩, _, _, rfl, rfl, (show (0 : Int) < _ by decide), _, _, rfl, rfl, m2, b2, ?_, rfl⟩
  rw [<- e2]
  rfl
 clear e1 e2 b1 b2
 rintro σ0 H0 ⟨n, n10, rfl, rfl⟩
 refine ⟨_, rfl, _, rfl, a, ns, 1, n, rfl, hS.seq, h63, by decide, by decide, n10, fun rt xs ts H1 s1 f1 h1 p1 W l100 => ?_⟩
 have nd : ts.Nodup := W.up.imp fun {a b} h z => by
  subst z
  unfold lexT at h
  omega
 have lx := Paired.length p1
 refine ⟨_, rfl, _, rfl, n, rt, xs, ts, rfl, n10, SqL.of h1, p1, W.ok, nd, fun pn nn H2 s2 f2 h2 NM => ?_⟩
 have s02 := s1.trans s2
 refine ⟨_, rfl, _, rfl, _, rfl, a, ns, n, pn, nn, ts, rfl, (hS.same s02).seq, h63, n10, SqL.of h2, NM, fun pl ss H3 s3 ⟨qs, hl, fl, nq, fq, pq⟩ SY l5 => ?_⟩
 have s13 := s2.trans s3
 have lq := Paired.length pq
 refine ⟨_, rfl, _, rfl, rt, _, rfl, .inl (SqL.of (s13 _ _ h1)), fun ph H4 n4 => ⟨(by show 2 <= 1000; decide), fun pw H5 n5 => ?_⟩⟩
 have s35 := n4.same.trans n5.same
 have pq5 : Paired (fun q l => H5 q = some (.lst (natV l))) qs ss := Paired.mapP pq fun _ _ h => s35 _ _ h
 refine ⟨_, rfl, pl, rfl, ⟨_, SqL.of (s35 _ _ hl)⟩, c5K (s35 _ _ hl) pq5 (by omega) fun pm us H6 s6 f6 h6 nu fu p6 => ?_⟩
 have s15 := s13.trans s35
 have tp : ∀ {H' : Hp}, Same H1 H' -> Paired (TieV K H') xs ts := fun {H'} s => Paired.mapP p1 fun _ _ q => (TieL.same s q).v
 have hG5 : GraphV K H5 (.ref pw) n ts := ⟨pw, ph, rfl, SqT.of n5.here, xs, SqL.of (n5.same _ _ n4.here), tp s15, by omega⟩
 refine ⟨_, rfl, _, rfl, .ref pw, n, ts, pm, ss, rfl, hG5.same s6, W.ok, n10, l100, ⟨us, h6, p6⟩, SY.ss (by omega), fun r cs H7 s7 Cc FN => ?_⟩
 have s17 := s15.trans (s6.trans s7)
 refine ⟨_, rfl, _, rfl, rt, _, rfl, .inl (SqL.of (s17 _ _ h1)), fun p8 H8 n8 => ⟨(by show 2 <= 1000; decide), fun p9 H9 n9 => ?_⟩⟩
 have s79 := n8.same.trans n9.same
 refine ⟨.ref p9, n, ts, rfl, ⟨p9, p8, rfl, SqT.of n9.here, xs, SqL.of (n9.same _ _ n8.here), tp (s17.trans s79), by omega⟩, W.ok, n10, fun cs' H10 s10 C10 => ?_⟩
 obtain rfl := b8S Cc C10
 refine ⟨_, rfl, _, _, _, _, _, rfl, rfl, TyOf.int _, c7Z, _, rfl, iteF ?_⟩
 refine ⟨_, rfl, _, _, _, _, _, rfl, rfl, TyOf.int _, c8A, _, rfl, iteF ?_⟩
 have s7_10 := s79.trans s10
 have s6_10 := s7.trans s7_10
 refine ⟨_, rfl, _, rfl, _, rfl, (by show 2 <= 1000; decide), fun p11 H11 n11 => ?_⟩
 have s6_11 := s6_10.trans n11.same
 have s5_11 := s6.trans s6_11
 have tB : TiesAt K H11 rt ts := ⟨xs, SqL.of ((s15.trans s5_11) _ _ h1), tp (s15.trans s5_11), by omega⟩
 refine ⟨webD n ts, webD n ts, (hG5.same s5_11).isD, .tup (SqT.of n11.here) (.cons (.int _) (.cons tB.isD .nil)), a5W _ _, a5W _ _, _, rfl, ?_⟩
 rw [if_pos rfl, a7C (a5W _ _)]
 refine iteF ?_
 refine ⟨_, rfl, _, rfl, c2H ss, c2H ss, .lst (SqL.of (s6_11 _ _ h6)) (a5Q (Paired.mapP p6 fun _ _ h => s6_11 _ _ h)), .lst (SqL.of (s5_11 _ _ (s35 _ _ hl))) (a5Q (Paired.mapP pq5 fun _ _ h => s5_11 _ _ h)), a3P _, a3P _, _, rfl, ?_⟩
 rw [if_pos rfl, a7C (a3P _)]
 refine iteF ?_
 have h11 := s6_11 _ _ h6
 have lu : ∀ u ∈ us, ∃ ys : List V, H11 u = some (.lst ys) /\ ys.length <= 20 := fun u hu => by
  obtain ⟨i, hi⟩ := List.mem_iff_getElem?.mp hu
  obtain ⟨p, hp, hup⟩ := a0X p6 hi
  have pm' := List.mem_of_getElem? hp
  refine ⟨_, s6_11 _ _ hup, ?_⟩
  rw [a0J]
  have := a2K (m := n) ((SY.up p pm').imp fun h => Nat.ne_of_lt h) (SY.lt p pm')
  omega
 have lus := Paired.length p6
 refine ⟨_, rfl, pm, rfl, ⟨_, SqL.of h11⟩, ?_⟩
 refine a2E (xs := us.map V.ref) (fun i σ H' => (∃ pp : Option V, σ = [some (.ref a), some (.int (n : Int)), some (.ref rt), some (.ref pn), some (.ref pl), some (.ref pw), some (.ref pm), pp, some (.ref r), some (.int (cs.getD (2 ^ n - 1) 0))]) /\ (∀ x, x ∉ us -> H' x = H11 x) /\ ∀ u ∈ us, ∃ ys : List V, H' u = some (.lst ys) /\ ys.length <= 20 + i) ⟨⟨none, rfl⟩, fun _ _ => rfl, lu⟩ (fun i σ H' _ ⟨_, k, _⟩ => SqL.of ((k pm nu).trans h11)) ?_ ?_
 ·rintro i x σ H12 hx ⟨⟨pp, rfl⟩, kp, ku⟩
  rw [List.getElem?_map] at hx
  obtain ⟨u, hui, rfl⟩ := Option.map_eq_some_iff.mp hx
  obtain ⟨hil, _⟩ := List.getElem?_eq_some_iff.mp hui
  have um := List.mem_of_getElem? hui
  obtain ⟨ys, hy, ly⟩ := ku u um
  refine ⟨_, rfl, .inl ⟨rfl, _, SqL.of hy⟩, _, rfl, u, _, _, rfl, rfl, hy, by omega, fun H13 c13 => ⟨⟨_, rfl⟩, fun x hx => (c13.rest x fun z => hx (by rw [z]; exact um)).trans (kp x hx), fun x hx => ?_⟩⟩
  by_cases c : x = u
  ·rw [c]
   exact ⟨_, c13.here, by rw [List.length_append]; show ys.length + 1 <= 20 + (i + 1); omega⟩
  ·obtain ⟨zs, hz, lz⟩ := ku x hx
   exact ⟨zs, (c13.rest x c).trans hz, by omega⟩
 rintro σ H12 ⟨⟨pp, rfl⟩, kp, _⟩
 have hm12 := (kp pm nu).trans h11
 refine ⟨_, rfl, .inl ⟨rfl, _, SqL.of hm12⟩, (by show 0 <= 1000; decide), fun pe H13 n13 => ⟨pm, _, _, rfl, rfl, n13.same _ _ hm12, by rw [List.length_map]; omega, fun H14 c14 => ?_⟩⟩
 have k14 : ∀ x o, H11 x = some o -> x ∉ us -> x ≠ pm -> H14 x = some o := fun x o h1 h2 h3 => (c14.rest x h3).trans (n13.same _ _ ((kp x h2).trans h1))
 have nou : ∀ x o, H5 x = some o -> x ∉ us /\ x ≠ pm := fun x o h => ⟨fun z => (by have := fu x z; rw [h] at this; cases this), fun z => (by rw [z, f6] at h; cases h)⟩
 have hw14 : H14 pw = some (.tup [.int (n : Int), .ref ph]) := k14 _ _ (s5_11 _ _ n5.here) (nou _ _ n5.here).1 (nou _ _ n5.here).2
 have hh5 := n5.same _ _ n4.here
 have hh14 : H14 ph = some (.lst xs) := k14 _ _ (s5_11 _ _ hh5) (nou _ _ hh5).1 (nou _ _ hh5).2
 refine ⟨_, rfl, pw, _, _, _, rfl, rfl, SqT.of hw14, rfl, .inl ⟨rfl, _, SqL.of hh14⟩, _, rfl, _, rfl, _, _, rfl, rfl, (by show 2 <= 1000; decide), fun pt H15 n15 => ⟨ph, _, _, rfl, rfl, n15.same _ _ hh14, by omega, fun H16 c16 => ?_⟩⟩
 have k16 : ∀ x o, H11 x = some o -> x ∉ us -> x ≠ pm -> x ≠ ph -> H16 x = some o := fun x o h1 h2 h3 h4 => (c16.rest x h4).trans (n15.same _ _ (k14 x o h1 h2 h3))
 have k3 : ∀ x o, H3 x = some o -> H16 x = some o := fun x o h => by
  have h5 := s35 _ _ h
  refine k16 x o (s5_11 _ _ h5) (nou _ _ h5).1 (nou _ _ h5).2 fun z => ?_
  have := n4.fresh
  rw [<- z, h] at this
  cases this
 have s7_11 := s7_10.trans n11.same
 have FO := FN.keep (H'' := H16) (fun x l h => k16 x _ (s7_11 _ _ h) (fun z => by
   obtain ⟨ys, hy, _⟩ := lu x z
   rw [s7_11 _ _ h] at hy
   cases hy) (fun z => by
   have := s7_11 _ _ h
   rw [z, h11] at this
   cases this) (fun z => by
   have := s7_11 _ _ h
   rw [z, s5_11 _ _ hh5] at this
   cases this)) (fun x o h1 h2 => k16 x o (s7_11 _ _ h2) (fun z => by
   obtain ⟨i, hi⟩ := List.mem_iff_getElem?.mp z
   obtain ⟨p, _, hup⟩ := a0X p6 hi
   rw [hup] at h1
   cases h1) (fun z => by rw [z, h6] at h1; cases h1) (fun z => by rw [z, s6 _ _ hh5] at h1; cases h1))
 exact ⟨_, rfl, _, rfl, _, rfl, _, rfl, _, rfl, n, pn, pl, r, nn, ts, ss, _, rfl, n10, k3 _ _ (s3 _ _ h2), NM, ⟨qs, k3 _ _ hl, Paired.mapP pq fun _ _ h => k3 _ _ h⟩, (SY.ss (by omega)).ok, l5, FO, q⟩
end
end K
open PySem PySem.W PyProof.Rows
def PySem.W.Fast.tw8132023817491183591 : Unit := ()
def PySem.W.Fast.tw13503906894613183990 : Unit := ()
def PySem.W.Fast.tw6006165936563496610 : Unit := ()
def PySem.W.Fast.tw27100062479618763 : Unit := ()
def PySem.W.Fast.tw5025443809661886809 : Unit := ()
def PySem.W.Fast.tw12608911849388573333 : Unit := ()
def PySem.W.Fast.tw7580417566061858243 : Unit := ()
def PySem.W.Fast.tw15363481008723570054 : Unit := ()
def PySem.W.Fast.tw11564141938373265922 : Unit := ()
def PySem.W.Fast.tw11813903142543146726 : Unit := ()
def PySem.W.Fast.tw556264568751456093 : Unit := ()
def PySem.W.Fast.tw11749476342108604070 : Unit := ()
def PySem.W.Fast.tw5719050733866210982 : Unit := ()
def PySem.W.Fast.tw16589515771684230507 : Unit := ()
def PySem.W.Fast.tw3050477030581818714 : Unit := ()
def PySem.W.Fast.tw2654420514843796261 : Unit := ()
def PySem.W.Fast.tw5266706571715826209 : Unit := ()
def PySem.W.Fast.tw3602396967878152152 : Unit := ()
def PySem.W.Fast.tw9140437851934772628 : Unit := ()
def PySem.W.Fast.tw16611943677618576498 : Unit := ()
def PySem.W.Fast.tw4921837867555028379 : Unit := ()
def PySem.W.Fast.tw6976198200969780567 : Unit := ()
def PySem.W.Fast.tw14618756260031104625 : Unit := ()
def PySem.W.Fast.tw2163330272715843389 : Unit := ()
def PySem.W.Fast.tw11168516549863293647 : Unit := ()
def PySem.W.Fast.tw1921824122765282779 : Unit := ()
set_option maxRecDepth 100000 in
set_option maxHeartbeats 0 in
theorem PySem.Challenge.cw_bagwood_k42_whole_grown_or_ordered_holds : PySem.Challenge.rw_bagwood_k42_whole_grown_or_ordered.Holds := by
 w_on; o_law; k_head; (case hw => w_witness2)
 k_fill
 refine L2.walk_ofK (l := PySem.Challenge.rw_bagwood_k42_whole_grown_or_ordered) (n := 63) (k := 12) (x := "_law_script") (CX := L2.CX0) (sp := Lw.spLaw) rfl (by decide) rfl ⟨rfl, by decide, by decide⟩ (fun w h Y => PySem.W.kIn_of Y) ?F ?S ?C
 case F =>
  intro w mg fa h KX G hmg
  have B : L2.Bl mg := by
   refine' L2.bl_mk KX G ?z1 ?z2 ?z3 ?z4 ?z5 ?z6 ?z7 ?z8 ?z9 ?z10 ?z11 ?z12 ?z13 ?z14 ?z15 ?z16 ?z17
   all_goals k_is
  have Bs : mg "sum" = none := by
   refine' PySem.W.mg_none_of KX G ?z
   k_is
  have dZ26 : Nonempty (L2.Dn (L2.KOf KX) mg "is_whole" K.a9D ["thing"]) := by
   dsimp only [L2.KOf]
   refine' L2.dn_mk1 KX G ?a ?l ?c ?k rfl (fun _ _ _ _ _ _ _ => rfl)
   (case a => k_is); (case l => k_is); (case c => k_is); (case k => k_is)
  obtain ⟨dZ26⟩ := dZ26
  have dZ23 : Nonempty (L2.Dn (L2.KOf KX) mg "is_below" K.a9E ["n", "thing"]) := by
   dsimp only [L2.KOf]
   refine' L2.dn_mk2 KX G ?a ?l ?c ?k rfl (fun _ _ _ _ _ _ _ _ => rfl)
   (case a => k_is); (case l => k_is); (case c => k_is); (case k => k_is)
  obtain ⟨dZ23⟩ := dZ23
  have dZ25 : Nonempty (L2.Dn (L2.KOf KX) mg "is_set" K.b4H ["n", "places"]) := by
   dsimp only [L2.KOf]
   refine' L2.dn_mk2 KX G ?a ?l ?c ?k rfl (fun _ _ _ _ _ _ _ _ => rfl)
   (case a => k_is); (case l => k_is); (case c => k_is); (case k => k_is)
  obtain ⟨dZ25⟩ := dZ25
  have dZ15 : Nonempty (L2.Dn (L2.KOf KX) mg "common" K.a9T ["one", "other"]) := by
   dsimp only [L2.KOf]
   refine' L2.dn_mk2 KX G ?a ?l ?c ?k rfl (fun _ _ _ _ _ _ _ _ => rfl)
   (case a => k_is); (case l => k_is); (case c => k_is); (case k => k_is)
  obtain ⟨dZ15⟩ := dZ15
  have dZ27 : Nonempty (L2.Dn (L2.KOf KX) mg "joint" K.b8C ["one", "other"]) := by
   dsimp only [L2.KOf]
   refine' L2.dn_mk2 KX G ?a ?l ?c ?k rfl (fun _ _ _ _ _ _ _ _ => rfl)
   (case a => k_is); (case l => k_is); (case c => k_is); (case k => k_is)
  obtain ⟨dZ27⟩ := dZ27
  have dZ30 : Nonempty (L2.Dn (L2.KOf KX) mg "less" K.b7Z ["one", "other"]) := by
   dsimp only [L2.KOf]
   refine' L2.dn_mk2 KX G ?a ?l ?c ?k rfl (fun _ _ _ _ _ _ _ _ => rfl)
   (case a => k_is); (case l => k_is); (case c => k_is); (case k => k_is)
  obtain ⟨dZ30⟩ := dZ30
  have dZ13 : Nonempty (L2.Dn (L2.KOf KX) mg "around" K.b4J ["graph", "v"]) := by
   dsimp only [L2.KOf]
   refine' L2.dn_mk2 KX G ?a ?l ?c ?k rfl (fun _ _ _ _ _ _ _ _ => rfl)
   (case a => k_is); (case l => k_is); (case c => k_is); (case k => k_is)
  obtain ⟨dZ13⟩ := dZ13
  have dZ24 : Nonempty (L2.Dn (L2.KOf KX) mg "is_joined" K.a8D ["graph", "places"]) := by
   dsimp only [L2.KOf]
   refine' L2.dn_mk2 KX G ?a ?l ?c ?k rfl (fun _ _ _ _ _ _ _ _ => rfl)
   (case a => k_is); (case l => k_is); (case c => k_is); (case k => k_is)
  obtain ⟨dZ24⟩ := dZ24
  have dZ36 : Nonempty (L2.Dn (L2.KOf KX) mg "pieces" K.b4O ["graph", "places"]) := by
   dsimp only [L2.KOf]
   refine' L2.dn_mk2 KX G ?a ?l ?c ?k rfl (fun _ _ _ _ _ _ _ _ => rfl)
   (case a => k_is); (case l => k_is); (case c => k_is); (case k => k_is)
  obtain ⟨dZ36⟩ := dZ36
  have dZ35 : Nonempty (L2.Dn (L2.KOf KX) mg "piece_from" K.a6Q ["graph", "places", "v"]) := by
   dsimp only [L2.KOf]
   refine' L2.dn_mk3 KX G ?a ?l ?c ?k rfl (fun _ _ _ _ _ _ _ _ _ => rfl)
   (case a => k_is); (case l => k_is); (case c => k_is); (case k => k_is)
  obtain ⟨dZ35⟩ := dZ35
  have dZ38 : Nonempty (L2.Dn (L2.KOf KX) mg "rim" K.c7K ["graph", "places"]) := by
   dsimp only [L2.KOf]
   refine' L2.dn_mk2 KX G ?a ?l ?c ?k rfl (fun _ _ _ _ _ _ _ _ => rfl)
   (case a => k_is); (case l => k_is); (case c => k_is); (case k => k_is)
  obtain ⟨dZ38⟩ := dZ38
  have dZ31 : Nonempty (L2.Dn (L2.KOf KX) mg "mask_of" K.b1Z ["places"]) := by
   dsimp only [L2.KOf]
   refine' L2.dn_mk1 KX G ?a ?l ?c ?k rfl (fun _ _ _ _ _ _ _ => rfl)
   (case a => k_is); (case l => k_is); (case c => k_is); (case k => k_is)
  obtain ⟨dZ31⟩ := dZ31
  have dZ37 : Nonempty (L2.Dn (L2.KOf KX) mg "places_of" K.a7X ["mask"]) := by
   dsimp only [L2.KOf]
   refine' L2.dn_mk1 KX G ?a ?l ?c ?k rfl (fun _ _ _ _ _ _ _ => rfl)
   (case a => k_is); (case l => k_is); (case c => k_is); (case k => k_is)
  obtain ⟨dZ37⟩ := dZ37
  have dZ32 : Nonempty (L2.Dn (L2.KOf KX) mg "mask_sizes" K.a6N ["n"]) := by
   dsimp only [L2.KOf]
   refine' L2.dn_mk1 KX G ?a ?l ?c ?k rfl (fun _ _ _ _ _ _ _ => rfl)
   (case a => k_is); (case l => k_is); (case c => k_is); (case k => k_is)
  obtain ⟨dZ32⟩ := dZ32
  have dZ19 : Nonempty (L2.Dn (L2.KOf KX) mg "first_bags" K.a6L ["graph"]) := by
   dsimp only [L2.KOf]
   refine' L2.dn_mk1 KX G ?a ?l ?c ?k rfl (fun _ _ _ _ _ _ _ => rfl)
   (case a => k_is); (case l => k_is); (case c => k_is); (case k => k_is)
  obtain ⟨dZ19⟩ := dZ19
  have dZ40 : Nonempty (L2.Dn (L2.KOf KX) mg "taken_out" K.a7Y ["bags", "v"]) := by
   dsimp only [L2.KOf]
   refine' L2.dn_mk2 KX G ?a ?l ?c ?k rfl (fun _ _ _ _ _ _ _ _ => rfl)
   (case a => k_is); (case l => k_is); (case c => k_is); (case k => k_is)
  obtain ⟨dZ40⟩ := dZ40
  have dZ12 : Nonempty (L2.Dn (L2.KOf KX) mg "all_bags" K.a9F ["graph"]) := by
   dsimp only [L2.KOf]
   refine' L2.dn_mk1 KX G ?a ?l ?c ?k rfl (fun _ _ _ _ _ _ _ => rfl)
   (case a => k_is); (case l => k_is); (case c => k_is); (case k => k_is)
  obtain ⟨dZ12⟩ := dZ12
  have dZ16 : Nonempty (L2.Dn (L2.KOf KX) mg "costs" K.b8K ["graph"]) := by
   dsimp only [L2.KOf]
   refine' L2.dn_mk1 KX G ?a ?l ?c ?k rfl (fun _ _ _ _ _ _ _ => rfl)
   (case a => k_is); (case l => k_is); (case c => k_is); (case k => k_is)
  obtain ⟨dZ16⟩ := dZ16
  have dZ17 : Nonempty (L2.Dn (L2.KOf KX) mg "costs_along" K.a5D ["bags"]) := by
   dsimp only [L2.KOf]
   refine' L2.dn_mk1 KX G ?a ?l ?c ?k rfl (fun _ _ _ _ _ _ _ => rfl)
   (case a => k_is); (case l => k_is); (case c => k_is); (case k => k_is)
  obtain ⟨dZ17⟩ := dZ17
  have dZ21 : Nonempty (L2.Dn (L2.KOf KX) mg "free_start" K.a6P ["bags", "barred", "mask"]) := by
   dsimp only [L2.KOf]
   refine' L2.dn_mk3 KX G ?a ?l ?c ?k rfl (fun _ _ _ _ _ _ _ _ _ => rfl)
   (case a => k_is); (case l => k_is); (case c => k_is); (case k => k_is)
  obtain ⟨dZ21⟩ := dZ21
  have dZ29 : Nonempty (L2.Dn (L2.KOf KX) mg "least_width" K.a5F ["graph"]) := by
   dsimp only [L2.KOf]
   refine' L2.dn_mk1 KX G ?a ?l ?c ?k rfl (fun _ _ _ _ _ _ _ => rfl)
   (case a => k_is); (case l => k_is); (case c => k_is); (case k => k_is)
  obtain ⟨dZ29⟩ := dZ29
  have dZ20 : Nonempty (L2.Dn (L2.KOf KX) mg "flaw" K.c2V ["graph", "sets"]) := by
   dsimp only [L2.KOf]
   refine' L2.dn_mk2 KX G ?a ?l ?c ?k rfl (fun _ _ _ _ _ _ _ _ => rfl)
   (case a => k_is); (case l => k_is); (case c => k_is); (case k => k_is)
  obtain ⟨dZ20⟩ := dZ20
  have dZ33 : Nonempty (L2.Dn (L2.KOf KX) mg "nearby" K.b4P ["bags", "places"]) := by
   dsimp only [L2.KOf]
   refine' L2.dn_mk2 KX G ?a ?l ?c ?k rfl (fun _ _ _ _ _ _ _ _ => rfl)
   (case a => k_is); (case l => k_is); (case c => k_is); (case k => k_is)
  obtain ⟨dZ33⟩ := dZ33
  have dZ22 : Nonempty (L2.Dn (L2.KOf KX) mg "grown" K.b9M ["graph", "sets"]) := by
   dsimp only [L2.KOf]
   refine' L2.dn_mk2 KX G ?a ?l ?c ?k rfl (fun _ _ _ _ _ _ _ _ => rfl)
   (case a => k_is); (case l => k_is); (case c => k_is); (case k => k_is)
  obtain ⟨dZ22⟩ := dZ22
  have dZ18 : Nonempty (L2.Dn (L2.KOf KX) mg "covers_also" K.a5I ["covers", "part"]) := by
   dsimp only [L2.KOf]
   refine' L2.dn_mk2 KX G ?a ?l ?c ?k rfl (fun _ _ _ _ _ _ _ _ => rfl)
   (case a => k_is); (case l => k_is); (case c => k_is); (case k => k_is)
  obtain ⟨dZ18⟩ := dZ18
  have dZ39 : Nonempty (L2.Dn (L2.KOf KX) mg "small_cover" K.a5J ["covers", "sizes", "wide"]) := by
   dsimp only [L2.KOf]
   refine' L2.dn_mk3 KX G ?a ?l ?c ?k rfl (fun _ _ _ _ _ _ _ _ _ => rfl)
   (case a => k_is); (case l => k_is); (case c => k_is); (case k => k_is)
  obtain ⟨dZ39⟩ := dZ39
  have dZ14 : Nonempty (L2.Dn (L2.KOf KX) mg "barred_bags" K.a5K ["covers", "sizes", "wide"]) := by
   dsimp only [L2.KOf]
   refine' L2.dn_mk3 KX G ?a ?l ?c ?k rfl (fun _ _ _ _ _ _ _ _ _ => rfl)
   (case a => k_is); (case l => k_is); (case c => k_is); (case k => k_is)
  obtain ⟨dZ14⟩ := dZ14
  have dZ34 : Nonempty (L2.Dn (L2.KOf KX) mg "next_part" K.a8E ["graph", "small", "bags", "barred"]) := by
   dsimp only [L2.KOf]
   refine' L2.dn_mk4 KX G ?a ?l ?c ?k rfl (fun _ _ _ _ _ _ _ _ _ _ => rfl)
   (case a => k_is); (case l => k_is); (case c => k_is); (case k => k_is)
  obtain ⟨dZ34⟩ := dZ34
  have dZ0 : Nonempty (L2.Dn (L2.KOf KX) mg "_law_cell" K.a4S ["_law_script", "_law_k"]) := by
   dsimp only [L2.KOf]
   refine' L2.dn_mk2 KX G ?a ?l ?c ?k rfl (fun _ _ _ _ _ _ _ _ => rfl)
   (case a => k_is); (case l => k_is); (case c => k_is); (case k => k_is)
  obtain ⟨dZ0⟩ := dZ0
  have dZ5 : Nonempty (L2.Dn (L2.KOf KX) mg "_law_mixed" K.a4D ["_law_cell_here", "_law_many"]) := by
   dsimp only [L2.KOf]
   refine' L2.dn_mk2 KX G ?a ?l ?c ?k rfl (fun _ _ _ _ _ _ _ _ => rfl)
   (case a => k_is); (case l => k_is); (case c => k_is); (case k => k_is)
  obtain ⟨dZ5⟩ := dZ5
  have dZ11 : Nonempty (L2.Dn (L2.KOf KX) mg "_law_ties" K.a8K ["_law_script", "_law_at", "_law_n"]) := by
   dsimp only [L2.KOf]
   refine' L2.dn_mk3 KX G ?a ?l ?c ?k rfl (fun _ _ _ _ _ _ _ _ _ => rfl)
   (case a => k_is); (case l => k_is); (case c => k_is); (case k => k_is)
  obtain ⟨dZ11⟩ := dZ11
  have dZ6 : Nonempty (L2.Dn (L2.KOf KX) mg "_law_near" K.a8F ["_law_n", "_law_ties_here"]) := by
   dsimp only [L2.KOf]
   refine' L2.dn_mk2 KX G ?a ?l ?c ?k rfl (fun _ _ _ _ _ _ _ _ => rfl)
   (case a => k_is); (case l => k_is); (case c => k_is); (case k => k_is)
  obtain ⟨dZ6⟩ := dZ6
  have dZ9 : Nonempty (L2.Dn (L2.KOf KX) mg "_law_reach" K.a6R ["_law_near_here", "_law_number_here"]) := by
   dsimp only [L2.KOf]
   refine' L2.dn_mk2 KX G ?a ?l ?c ?k rfl (fun _ _ _ _ _ _ _ _ => rfl)
   (case a => k_is); (case l => k_is); (case c => k_is); (case k => k_is)
  obtain ⟨dZ9⟩ := dZ9
  have dZ8 : Nonempty (L2.Dn (L2.KOf KX) mg "_law_piece" K.a6S ["_law_near_here", "_law_number_here", "_law_piece_here"]) := by
   dsimp only [L2.KOf]
   refine' L2.dn_mk3 KX G ?a ?l ?c ?k rfl (fun _ _ _ _ _ _ _ _ _ => rfl)
   (case a => k_is); (case l => k_is); (case c => k_is); (case k => k_is)
  obtain ⟨dZ8⟩ := dZ8
  have dZ4 : Nonempty (L2.Dn (L2.KOf KX) mg "_law_list" K.a8H ["_law_n", "_law_number_here"]) := by
   dsimp only [L2.KOf]
   refine' L2.dn_mk2 KX G ?a ?l ?c ?k rfl (fun _ _ _ _ _ _ _ _ => rfl)
   (case a => k_is); (case l => k_is); (case c => k_is); (case k => k_is)
  obtain ⟨dZ4⟩ := dZ4
  have dZ10 : Nonempty (L2.Dn (L2.KOf KX) mg "_law_sets" K.a4T ["_law_script", "_law_n", "_law_near_here"]) := by
   dsimp only [L2.KOf]
   refine' L2.dn_mk3 KX G ?a ?l ?c ?k rfl (fun _ _ _ _ _ _ _ _ _ => rfl)
   (case a => k_is); (case l => k_is); (case c => k_is); (case k => k_is)
  obtain ⟨dZ10⟩ := dZ10
  have dZ7 : Nonempty (L2.Dn (L2.KOf KX) mg "_law_number" K.a5P ["_law_n", "_law_part"]) := by
   dsimp only [L2.KOf]
   refine' L2.dn_mk2 KX G ?a ?l ?c ?k rfl (fun _ _ _ _ _ _ _ _ => rfl)
   (case a => k_is); (case l => k_is); (case c => k_is); (case k => k_is)
  obtain ⟨dZ7⟩ := dZ7
  have dZ2 : Nonempty (L2.Dn (L2.KOf KX) mg "_law_is_grown" K.a3B ["_law_near_here", "_law_numbers", "_law_least", "_law_first"]) := by
   dsimp only [L2.KOf]
   refine' L2.dn_mk4 KX G ?a ?l ?c ?k rfl (fun _ _ _ _ _ _ _ _ _ _ => rfl)
   (case a => k_is); (case l => k_is); (case c => k_is); (case k => k_is)
  obtain ⟨dZ2⟩ := dZ2
  have dZ3 : Nonempty (L2.Dn (L2.KOf KX) mg "_law_is_order" K.a2G ["_law_near_here", "_law_row", "_law_numbers", "_law_least"]) := by
   dsimp only [L2.KOf]
   refine' L2.dn_mk4 KX G ?a ?l ?c ?k rfl (fun _ _ _ _ _ _ _ _ _ _ => rfl)
   (case a => k_is); (case l => k_is); (case c => k_is); (case k => k_is)
  obtain ⟨dZ3⟩ := dZ3
  have dZ1 : Nonempty (L2.Dn (L2.KOf KX) mg "_law_holds" K.a4E ["_law_n", "_law_near_here", "_law_sets_here", "_law_found", "_law_least"]) := by
   dsimp only [L2.KOf]
   refine' L2.dn_mk5 KX G ?a ?l ?c ?k rfl (fun _ _ _ _ _ _ _ _ _ _ _ => rfl)
   (case a => k_is); (case l => k_is); (case c => k_is); (case k => k_is)
  obtain ⟨dZ1⟩ := dZ1
  have dZ28 : Nonempty (L2.Dn (L2.KOf KX) mg "law" K.c5R ["_law_script"]) := by
   dsimp only [L2.KOf]
   refine' L2.dn_mk1 KX G ?a ?l ?c ?k rfl (fun _ _ _ _ _ _ _ => rfl)
   (case a => k_is); (case l => k_is); (case c => k_is); (case k => k_is)
  obtain ⟨dZ28⟩ := dZ28
  exact L2.law_at hmg dZ28 fun base => K.c9M B Bs dZ26 dZ23 dZ25 dZ15 dZ27 dZ30 dZ13 dZ24 dZ36 dZ35 dZ38 dZ31 dZ37 dZ32 dZ19 dZ40 dZ12 dZ16 dZ17 dZ21 dZ29 dZ20 dZ33 dZ22 dZ18 dZ39 dZ14 dZ34 dZ0 dZ5 dZ11 dZ6 dZ9 dZ8 dZ4 dZ10 dZ7 dZ2 dZ3 dZ1 dZ28
 case S => exact fun K H a ns hl hO hS => ⟨a, ns, rfl, Lw.Scr.of hO hS, hl, fun _ => rfl⟩
 case C => exact fun _ _ _ _ z => z
