import PyProof.Rows.All
import Wide.All
import OpenK.AllK
import Wide.FinOn
import Lean
import PyProof.EqAt
import PyProof.EqKinds
import PyProof.TupleCall
import PyProof.SetScanFacts
import PyProof.SetKind
import PyProof.DictKinds
import PyProof.FactsAll.set_0
import PyProof.FactsAll.set_1
import PyProof.FactsAll.set_2
import PyProof.FactsAll.set_3
import PyProof.FactsSeq
import PyProof.CollectWalk
import PyProof.ListRange
import PyProof.ZipIter
import PyProof.MeetsSeq
import PyProof.IsRules
import PyProof.Rows.ZipGen
import PyProof.SumWalkG
import PyProof.DictWalks
import PyProof.Rows.SortShell
import PyProof.Rows.SetFrom
import PyProof.SetRoads
import KE.KIntText
import KE.IntTextLaws
import PyProof.StrWalks
import PyProof.StrOps2
import PyProof.SliceStr2
import PyProof.PureStr
import PyProof.StrCalls3
import PyProof.Rows.StrMadeLen
import PyProof.StrLawsIn
import PySem.Challenge.RW_bagwood_k22_no_order_no_place
set_option Elab.async false
set_option linter.all false
set_option maxRecDepth 100000
local macro_rules | `(tactic| omega) => `(tactic| first | lia | omega (config := {}))
abbrev Φρ := PySem.W.Frag
abbrev ζζ := Int × Int
theorem τα {α : Type} {l : List α} {i : Nat} {a : α} : l.getD i a = l[i]?.getD a := List.getD_eq_getElem?_getD ..
namespace L2
open PySem PySem.Spec PyProof.Rows
abbrev Key := Sum Int Str
def c1C : Key -> Value -> Bool
 | .inl k, v => Value.isInt k v
 | .inr x, v => Value.isStrOf x v
def keyH (w : World) : Key -> Int
 | .inl k => hashInt k
 | .inr x => hashStr w x
theorem a0X : ∀ {k : Key} {v : Value}, c1C k v = true -> (∃ i t, k = Sum.inl i /\ v = Value.int i t) \/ (∃ x t, k = Sum.inr x /\ v = Value.str x t)
 | .inl i, v, h => by
  obtain ⟨t, e⟩ := Value.isInt_shape (k := i) (v := v) h
  exact .inl ⟨i, t, rfl, e⟩
 | .inr x, v, h => by
  obtain ⟨t, e⟩ := Value.isStrOf_shape (x := x) (v := v) h
  exact .inr ⟨x, t, rfl, e⟩
theorem c1D (a b : Int) : decide ((Sum.inl a : Key) = Sum.inl b) = (a == b) := by
 by_cases e : a = b
 ·subst e; simp
 ·have h : ¬ (Sum.inl a : Key) = Sum.inl b := fun q => e (Sum.inl.inj q)
  rw [decide_eq_false h]
  exact (beq_eq_false_iff_ne.mpr e).symm
theorem c1E (a b : Str) : decide ((Sum.inr a : Key) = Sum.inr b) = decide (a = b) := by
 by_cases e : a = b
 ·subst e; simp
 ·have h : ¬ (Sum.inr a : Key) = Sum.inr b := fun q => e (Sum.inr.inj q)
  rw [decide_eq_false h, decide_eq_false e]
theorem c1F (a : Int) (b : Str) : decide ((Sum.inl a : Key) = Sum.inr b) = false := decide_eq_false (fun q => nomatch q)
theorem c1G (a : Str) (b : Int) : decide ((Sum.inr a : Key) = Sum.inl b) = false := decide_eq_false (fun q => nomatch q)
def a9K (prog : Program) (w : World) : PySem.KeyKind prog w Key where
 is := c1C
 hash := keyH w
 inj := fun v a b ha hb => by
  rcases a0X ha with ⟨i, t, rfl, rfl⟩ | ⟨x, t, rfl, rfl⟩
  ·rcases a0X hb with ⟨j, u, rfl, e⟩ | ⟨y, u, rfl, e⟩
   ·injection e with e1 _; rw [e1]
   ·exact nomatch e
  ·rcases a0X hb with ⟨j, u, rfl, e⟩ | ⟨y, u, rfl, e⟩
   ·exact nomatch e
   ·injection e with e1 _; rw [e1]
 byValue := fun k v h => by
  rcases a0X h with ⟨i, t, rfl, rfl⟩ | ⟨x, t, rfl, rfl⟩ <;> rfl
 pyHash := fun hv h => by
  rcases a0X hv with ⟨i, t, rfl, rfl⟩ | ⟨x, t, rfl, rfl⟩
  ·exact wpAny_pyHash_int h
  ·exact wpAny_pyHash_str h
 eqBool := fun hu hv h => by
  rcases a0X hu with ⟨i, t, rfl, rfl⟩ | ⟨x, t, rfl, rfl⟩
  ·rcases a0X hv with ⟨j, u, rfl, rfl⟩ | ⟨y, u, rfl, rfl⟩
   ·rw [c1D] at h; exact wpAny_eqBool_int h
   ·rw [c1F] at h; exact SeqAt.EqAt.int_str i t y u _ _ _ _ h
  ·rcases a0X hv with ⟨j, u, rfl, rfl⟩ | ⟨y, u, rfl, rfl⟩
   ·rw [c1G] at h; exact SeqAt.EqAt.str_int x t j u _ _ _ _ h
   ·rw [c1E] at h; exact wpAny_eqBool_str h
 «strs» := fun k x t v h => by
  rcases a0X h with ⟨i, u, rfl, e⟩ | ⟨y, u, rfl, e⟩
  ·exact nomatch e
  ·injection e with e1 _
   subst e1
   cases v <;> rfl
end L2
namespace L2
open PySem PySem.Spec PyProof.Rows
inductive V where
 | non | bl (b : Bool) | int (i : Int) | str (x : Str) | byt (b : Array UInt8) | flt (b : UInt64) | ref (a : Addr) | ty (n : String)
 deriving DecidableEq
def RelV : V -> Value -> Prop
 | .non, u => u = Value.none
 | .bl b, u => u = Value.bool b
 | .int i, u => ∃ t, u = Value.int i t
 | .str x, u => ∃ t, u = Value.str x t
 | .byt b, u => ∃ t, u = Value.bytes b t
 | .flt b, u => ∃ t, u = Value.float b t
 | .ref a, u => u = Value.ref a
 | .ty n, u => u = Value.type n
abbrev Vals : List V -> List Value -> Prop := Paired RelV
theorem Vals.length {xs : List V} {us : List Value} (r : Vals xs us) : xs.length = us.length := Paired.length r
theorem Vals.get : ∀ {xs : List V} {us : List Value} {i : Nat} {x : V}, Vals xs us -> xs[i]? = some x -> ∃ u, us[i]? = some u /\ RelV x u
 | _, _, _, _, .nil, e => by simp at e
 | _, _, 0, _, .cons r _, e => by simp at e; subst e; exact ⟨_, rfl, r⟩
 | _, _, i + 1, x, .cons _ t, e => by
  obtain ⟨u, h1, h2⟩ := Vals.get (i := i) (x := x) t (by simpa using e)
  exact ⟨u, by simpa using h1, h2⟩
theorem Vals.set {x : V} {u : Value} (r : RelV x u) : ∀ {xs : List V} {us : List Value} (i : Nat), Vals xs us -> Vals (xs.set i x) (us.set i u)
 | _, _, _, .nil => .nil
 | _, _, 0, .cons _ t => .cons r t
 | _, _, i + 1, .cons q t => .cons q (Vals.set r i t)
theorem Vals.append : ∀ {xs ys : List V} {us ws : List Value}, Vals xs us -> Vals ys ws -> Vals (xs ++ ys) (us ++ ws)
 | _, _, _, _, .nil, s => s
 | _, _, _, _, .cons r t, s => .cons r (Vals.append t s)
theorem Vals.take : ∀ {xs : List V} {us : List Value} (n : Nat), Vals xs us -> Vals (xs.take n) (us.take n)
 | _, _, 0, _ => .nil
 | _, _, _ + 1, .nil => .nil
 | _, _, n + 1, .cons r t => .cons r (Vals.take n t)
theorem Vals.drop : ∀ {xs : List V} {us : List Value} (n : Nat), Vals xs us -> Vals (xs.drop n) (us.drop n)
 | _, _, 0, r => r
 | _, _, _ + 1, .nil => .nil
 | _, _, n + 1, .cons _ t => Vals.drop n t
def RelO : Option V -> Option Value -> Prop
 | some v, some u => RelV v u
 | none, none => True
 | _, _ => False
def KV {κ : Type} : List (κ × V) -> List (κ × Value) -> Prop := Paired fun (p : κ × V) (q : κ × Value) => p.1 = q.1 /\ RelV p.2 q.2
def kV : Key -> V
 | .inl i => .int i
 | .inr x => .str x
inductive HO where
  | lst (xs : List V)
  | tup (xs : List V)
  | dK (kvs : List (Key × V)) | dT (kvs : List (List Key × V))
  | set (S : Int -> Bool) (n : Nat)
  | ins (C dx : Addr) (fs : List (Str × V))
  | own (x : Addr)
  | xd (fs : List (Str × V))
  | met (f x : Addr)
  | rng (lo hi : Int)
  | frz (o : Obj) (u : HO)
  | tbl (ps : Array Value)
  | ext (φ : Heap -> Prop)
abbrev Hp := Addr -> Option HO
def upd (H : Hp) (a : Addr) (o : HO) : Hp := fun b => if b = a then some o else H b
theorem a1V {H : Hp} {a : Addr} {o : HO} : upd H a o a = some o := by unfold upd; rw [if_pos rfl]
theorem a0P {H : Hp} {a b : Addr} {o : HO} (h : b ≠ a) : upd H a o b = H b := by unfold upd; rw [if_neg h]
theorem c1H {H : Hp} {a b : Addr} {o u : HO} (h : H a = some o) (h' : H b = some u) (d : o ≠ u) : a ≠ b := by
 intro e; subst e; rw [h] at h'; exact d (Option.some.inj h')
theorem a0K {H : Hp} {a b : Addr} {o : HO} (h : H a = some o) (h' : H b = none) : a ≠ b := by
 intro e; subst e; rw [h] at h'; cases h'
section
variable (P : Program) (w : World)
def ObjOk (H : Hp) (h : Heap) (a : Addr) : HO -> Prop
 | .lst xs => xs.length <= sizeLine /\ ∃ (its : List Value) (n : Nat), Vals xs its /\ h.get? a = some { cls := .type "list", data := .seq its.toArray n }
 | .tup xs => xs.length <= sizeLine /\ ∃ its : List Value, Vals xs its /\ IsTup h a its.toArray
 | .dK kvs => kvs.length <= sizeLine /\ (a == sysModules) = false /\ ∃ vs, KV kvs vs /\ h.DictOf (a9K P w) a vs
 | .dT kvs => kvs.length <= sizeLine /\ (a == sysModules) = false /\ ∃ xs : List (List Key × Addr × Value),
   Paired (fun (p : List Key × V) (q : List Key × Addr × Value) => p.1 = q.1 /\ H q.2.1 = some (.tup (p.1.map kV)) /\ RelV p.2 q.2.2) kvs xs /\
   ∃ o es ep, h.get? a = some o /\ o.ExactDict /\ o.data = .dict es ep /\ es.toList = xs.map (entryOfKey (tupleKind (a9K P w))) /\ (xs.map (·.1)).Nodup
 | .set S n => h.SetOf (intKind P w) a S n
 | .ins C dx fs => H dx = some (.own a) /\ fs.length <= 1000 /\ dx ≠ a /\ h.get? a = some (PySem.W.instObj C dx) /\
   ∃ mA, h.Ns1 dx mA /\ (∀ f, RelO (fs.lookup f) (mA f)) /\ PySem.Within mA (fs.map (·.1))
 | .own _ => ∃ o, h.get? a = some o
 | .xd fs => ∃ mA, h.Ns1 a mA /\ ∀ f, RelO (fs.lookup f) (mA f)
 | .rng lo hi => ∃ t u v, h.get? a = some { cls := .type "range", data := .fields #[.int lo t, .int hi u, .int 1 v] }
 | .frz o u => h.get? a = some o /\ ObjOk H h a u
 | .tbl ps => h.get? a = some { cls := .none, data := .fields ps }
 | .met f x => h.get? a = some (PySem.W.methodObj (.ref f) (.ref x))
 | .ext φ => φ h /\ (∃ o, h.get? a = some o) /\ ∀ h1 h2 : Heap, φ h1 -> (∀ o, h1.get? a = some o -> h2.get? a = some o) -> φ h2
def HOk (H : Hp) (h : Heap) : Prop := ∀ a o, H a = some o -> ObjOk P w H h a o
end
section
variable {P : Program} {w : World} {H H' : Hp} {h h' : Heap} {a : Addr} {o : HO}
theorem ObjOk.lt (x : ObjOk P w H h a o) : a < h.objs.size := by
 cases o with
 | lst xs => obtain ⟨_, _, _, _, e⟩ := x; exact Heap.lt_size e
 | tup xs => obtain ⟨_, _, _, p⟩ := x; exact p.lt
 | dK kvs => obtain ⟨_, _, _, _, o, _, _, e, _⟩ := x; exact Heap.lt_size e
 | dT kvs => obtain ⟨_, _, _, _, o, _, _, e, _⟩ := x; exact Heap.lt_size e
 | set S n => obtain ⟨o, _, _, _, e, _⟩ := x; exact Heap.lt_size e
 | ins C dx fs => obtain ⟨_, _, _, e, _⟩ := x; exact Heap.lt_size e
 | own y => obtain ⟨_, e⟩ := x; exact Heap.lt_size e
 | xd fs => obtain ⟨_, ⟨_, _, _, e, _⟩, _⟩ := x; exact Heap.lt_size e
 | rng lo hi => obtain ⟨_, _, _, e⟩ := x; exact Heap.lt_size e
 | frz ob u => obtain ⟨e, _⟩ := x; exact Heap.lt_size e
 | tbl ps => exact Heap.lt_size (show h.get? a = some _ from x)
 | met f y => exact Heap.lt_size (show h.get? a = some _ from x)
 | ext φ => obtain ⟨_, ⟨_, e⟩, _⟩ := x; exact Heap.lt_size e
theorem Paired.mapP {α β : Type} {F G : α -> β -> Prop} : ∀ {l₁ : List α} {l₂ : List β}, Paired F l₁ l₂ -> (∀ a b, F a b -> G a b) -> Paired G l₁ l₂
 | _, _, .nil, _ => .nil
 | _, _, .cons r t, f => .cons (f _ _ r) (Paired.mapP t f)
theorem ObjOk.stay (x : ObjOk P w H h a o) (k : ∀ b u, (b = a \/ H b = some (.own a)) -> h.get? b = some u -> h'.get? b = some u)
  (ho : ∀ b, H b = some (.own a) -> H' b = some (.own a)) (ht : ∀ b xs, H b = some (.tup xs) -> H' b = some (.tup xs)) : ObjOk P w H' h' a o := by
 induction o with
 | lst xs => obtain ⟨z, its, n, r, e⟩ := x; exact ⟨z, its, n, r, k _ _ (.inl rfl) e⟩
 | tup xs => obtain ⟨z, its, r, ob, e, c⟩ := x; exact ⟨z, its, r, ob, k _ _ (.inl rfl) e, c⟩
 | dK kvs => obtain ⟨z, y, vs, r, ob, es, ep, e, c⟩ := x; exact ⟨z, y, vs, r, ob, es, ep, k _ _ (.inl rfl) e, c⟩
 | dT kvs =>
  obtain ⟨z, y, xs, r, ob, es, ep, e, c⟩ := x
  exact ⟨z, y, xs, Paired.mapP r fun p q z => ⟨z.1, ht _ _ z.2.1, z.2.2⟩, ob, es, ep, k _ _ (.inl rfl) e, c⟩
 | set S n => obtain ⟨ob, es, ep, t, e, c⟩ := x; exact ⟨ob, es, ep, t, k _ _ (.inl rfl) e, c⟩
 | ins C dx fs =>
  obtain ⟨d, z, ne, e, mA, ⟨od, es, ep, e2, c⟩, r⟩ := x
  exact ⟨ho _ d, z, ne, k _ _ (.inl rfl) e, mA, ⟨od, es, ep, k _ _ (.inr d) e2, c⟩, r⟩
 | own y => obtain ⟨ob, e⟩ := x; exact ⟨ob, k _ _ (.inl rfl) e⟩
 | xd fs => obtain ⟨mA, ⟨od, es, ep, e, c⟩, r⟩ := x; exact ⟨mA, ⟨od, es, ep, k _ _ (.inl rfl) e, c⟩, r⟩
 | rng lo hi => obtain ⟨t, u, v, e⟩ := x; exact ⟨t, u, v, k _ _ (.inl rfl) e⟩
 | frz ob u ih => obtain ⟨e, q⟩ := x; exact ⟨k _ _ (.inl rfl) e, ih q⟩
 | tbl ps =>
  have e : h.get? a = some { cls := .none, data := .fields ps } := x
  show h'.get? a = some { cls := .none, data := .fields ps }
  exact k a _ (.inl rfl) e
 | met f y =>
  have e : h.get? a = some (PySem.W.methodObj (.ref f) (.ref y)) := x
  show h'.get? a = some (PySem.W.methodObj (.ref f) (.ref y))
  exact k a _ (.inl rfl) e
 | ext φ => obtain ⟨p, ⟨o, e⟩, st⟩ := x; exact ⟨st _ _ p fun o q => k _ _ (.inl rfl) q, ⟨o, k _ _ (.inl rfl) e⟩, st⟩
theorem HOk.lt (x : HOk P w H h) (e : H a = some o) : a < h.objs.size := (x a o e).lt
theorem HOk.fresh (x : HOk P w H h) (e : h.objs.size <= a) : H a = none := by
 cases q : H a with
 | none => rfl
 | some u => exact absurd (Nat.lt_of_lt_of_le (x.lt q) e) (Nat.lt_irrefl _)
theorem HOk.kept (x : HOk P w H h) (k : ∀ b u, h.get? b = some u -> h'.get? b = some u) : HOk P w H h' := fun a o e =>
 (x a o e).stay (fun b u _ q => k b u q) (fun _ q => q) fun _ _ q => q
theorem HOk.laid (x : HOk P w H h) (k : ∀ b u, h.get? b = some u -> h'.get? b = some u) (hp : h.objs.size <= a) (new : ObjOk P w (upd H a o) h' a o) : HOk P w (upd H a o) h' := fun b u e => by
 have hn := x.fresh hp
 by_cases hb : b = a
 ·subst hb; rw [a1V] at e; cases e; exact new
 ·rw [a0P hb] at e
  exact (x b u e).stay (fun c v _ q => k c v q) (fun c q => by rw [a0P (a0K q hn)]; exact q) fun c xs q => by rw [a0P (a0K q hn)]; exact q
end
def Rd (H : Hp) (a : Addr) (u : HO) : Prop := H a = some u \/ ∃ o, H a = some (.frz o u)
theorem Rd.ok {P : Program} {w : World} {H : Hp} {h : Heap} {a : Addr} {u : HO} (r : Rd H a u) (x : HOk P w H h) : ObjOk P w H h a u := by
 rcases r with r | ⟨o, r⟩
 ·exact x a u r
 ·obtain ⟨_, q⟩ := x a _ r
  exact q
def Mut : Option HO -> Prop
 | some (.lst _) => True
 | some (.dK _) => True
 | some (.dT _) => True
 | some (.set _ _) => True
 | some (.ins _ _ _) => True
 | some (.ext _) => True
 | _ => False
section
variable {P : Program} {w : World} {H : Hp} {h h' : Heap} {x e : Addr} {o' : HO}
theorem HOk.write (ok : HOk P w H h) (mu : Mut (H x)) (he : e = x \/ H e = some (.own x)) (k : ∀ b u, b ≠ e -> h.get? b = some u -> h'.get? b = some u) (heo : ∃ u, h'.get? e = some u)
  (new : ObjOk P w (upd H x o') h' x o') : HOk P w (upd H x o') h' := fun b u q => by
 have nown : ∀ c y, H c = some (.own y) -> c ≠ x := fun c y r z => by subst z; rw [r] at mu; exact mu
 have ntup : ∀ c xs, H c = some (.tup xs) -> c ≠ x := fun c xs r z => by subst z; rw [r] at mu; exact mu
 by_cases hb : b = x
 ·subst hb; rw [a1V] at q; cases q; exact new
 ·rw [a0P hb] at q
  by_cases hbe : b = e
  ·have q' : H b = some (.own x) := by
    rcases he with z | z
    ·exact absurd (hbe.trans z) hb
    ·rw [hbe]; exact z
   rw [q] at q'; cases q'
   obtain ⟨v, hv⟩ := heo
   exact ⟨v, by rw [hbe]; exact hv⟩
  ·refine (ok b u q).stay (fun c v hc r => k c v ?_ r) (fun c r => by rw [a0P (nown c b r)]; exact r) fun c xs r => by rw [a0P (ntup c xs r)]; exact r
   rcases hc with rfl | hc
   ·exact hbe
   ·rintro rfl
    rcases he with z | z
    ·exact nown c b hc z
    ·rw [hc] at z; cases z; exact hb rfl
end
structure Un (fs ex : List Addr) (H H' : Hp) (h h' : Heap) : Prop where
 keep : ∀ b o, h.get? b = some o -> H b = none -> b ∉ fs -> b ∉ ex -> h'.get? b = some o
 slot : ∀ b o, h.get? b = some o -> H b = none -> b ∈ fs -> b ∉ ex -> ∃ sl, h'.get? b = some { o with slots := sl }
 free : ∀ b o, h.get? b = some o -> H b = none -> b ∉ ex -> H' b = none
 there : ∀ b o, h.get? b = some o -> b ∉ ex -> ∃ o', h'.get? b = some o'
 tups : ∀ b xs, H b = some (.tup xs) -> H' b = some (.tup xs)
 frzs : ∀ b o u, H b = some (.frz o u) -> H' b = some (.frz o u)
 tbls : ∀ b ps, H b = some (.tbl ps) -> ∃ more, H' b = some (.tbl (ps ++ more))
section
variable {fs fs' ex ex' : List Addr} {H H1 H2 : Hp} {h h1 h2 h' : Heap} {a x e : Addr} {o : HO}
theorem Un.any (u : Un fs ex H H1 h h1) {b : Addr} {ob : Obj} (q : h.get? b = some ob) (n : H b = none) (hx : b ∉ ex) : ∃ sl, h1.get? b = some { ob with slots := sl } := by
 by_cases hb : b ∈ fs
 ·exact u.slot b ob q n hb hx
 ·exact ⟨ob.slots, u.keep b ob q n hb hx⟩
theorem Un.kept (k : ∀ b u, h.get? b = some u -> h'.get? b = some u) : Un fs ex H H h h' :=
 ⟨fun b ob q _ _ _ => k b ob q, fun b ob q _ _ _ => ⟨ob.slots, k b ob q⟩, fun _ _ _ n _ => n, fun b ob q _ => ⟨ob, k b ob q⟩, fun _ _ q => q, fun _ _ _ q => q, fun _ ps q => ⟨#[], by rw [q]; simp⟩⟩
theorem Un.refl : Un fs ex H H h h := Un.kept fun _ _ q => q
theorem Un.laid (k : ∀ b u, h.get? b = some u -> h'.get? b = some u) (hp : h.objs.size <= a) (hn : H a = none) : Un fs ex H (upd H a o) h h' where
 keep := fun b u q _ _ _ => k b u q
 slot := fun b u q _ _ _ => ⟨u.slots, k b u q⟩
 free := fun b u q n _ => by rw [a0P (Nat.ne_of_lt (Nat.lt_of_lt_of_le (Heap.lt_size q) hp))]; exact n
 there := fun b u q _ => ⟨u, k b u q⟩
 tups := fun b xs q => by rw [a0P (a0K q hn)]; exact q
 frzs := fun b u xs q => by rw [a0P (a0K q hn)]; exact q
 tbls := fun b ps q => ⟨#[], by rw [a0P (a0K q hn), q]; simp⟩
theorem Un.write (mu : Mut (H x)) (he : e = x \/ H e = some (.own x)) (k : ∀ b u, b ≠ e -> h.get? b = some u -> h'.get? b = some u) (heo : ∃ u, h'.get? e = some u) : Un fs ex H (upd H x o) h h' := by
 have hx : ∀ b, H b = none -> b ≠ x := fun b n z => by subst z; rw [n] at mu; exact mu
 have hb : ∀ b, H b = none -> b ≠ e := fun b n z => by
  subst z
  rcases he with r | r
  ·exact hx b n r
  ·rw [n] at r; cases r
 have hm : ∀ b u, H b = some u -> ¬ Mut (some u) -> b ≠ x := fun b u q nm z => by subst z; rw [q] at mu; exact nm mu
 refine ⟨fun b u q n _ _ => k b u (hb b n) q, fun b u q n _ _ => ⟨u.slots, k b u (hb b n) q⟩, fun b u q n _ => by rw [a0P (hx b n)]; exact n, fun b u q _ => ?_,
  fun b xs q => by rw [a0P (hm b _ q fun z => z)]; exact q, fun b u xs q => by rw [a0P (hm b _ q fun z => z)]; exact q, fun b ps q => ⟨#[], by rw [a0P (hm b _ q fun z => z), q]; simp⟩⟩
 by_cases hbe : b = e
 ·subst hbe; exact heo
 ·exact ⟨u, k b u hbe q⟩
end
def trk (h : Heap) (H : Hp) : List Addr := (List.range h.objs.size).filter fun a => (H a).isSome
def hidT (h : Heap) (H : Hp) : Heap := PySem.W.hideAll h (trk h H)
theorem b2X (h : Heap) (H : Hp) : (hidT h H).objs.size = h.objs.size := PySem.W.hideAll_size _ _
theorem b6C {h : Heap} {H : Hp} {b : Addr} {o : Obj} (e : h.get? b = some o) (n : H b = none) : (hidT h H).get? b = some o :=
 PySem.W.hideAll_get _ e fun hm => by
  have q : (H b).isSome = true := (List.mem_filter.mp hm).2
  rw [n] at q; simp at q
theorem b8Q {h : Heap} {H : Hp} {b : Addr} {o : Obj} (e : (hidT h H).get? b = some o) : h.get? b = some o /\ H b = none := by
 have e' : h.get? b = some o := PySem.W.of_hideAll (trk h H) e
 refine ⟨e', ?_⟩
 cases q : H b with
 | none => rfl
 | some x =>
  have hm : b ∈ trk h H := List.mem_filter.mpr ⟨List.mem_range.mpr (Heap.lt_size e'), by simp [q]⟩
  have z : (hidT h H).get? b = none := PySem.W.hideAll_none (trk h H) hm
  rw [z] at e; cases e
end L2
namespace L2
open PySem PySem.Spec PyProof.Rows
structure Mod (K : Φρ) (mg : Str -> Option Value) (base : Heap) : Prop where
 kin : K.In base
 glob : base.Ns mainGlobals mg
 blt : ∃ mb, base.Ns builtinsNs mb /\ ∀ x : Str, x ≠ "__name__" -> mb x = bootBuiltins x
 nolimit : base.NoLimit
structure Cx where
 prog : Program
 w : World
 K : Φρ
 mg : Str -> Option Value
 base : Heap
 A : Around
 N : List Str
 s₀ : Shared
 H₀ : Hp
 env : Env
 outer : List Env
 stack : List Env
 ex : List Addr
 fn : Str -> Bool
 calm : Bool
 pn : List (Addr × Obj)
 xe : Value -> Shared -> Prop
def frs (l : List Env) : List Addr := l.filterMap (·.frame)
abbrev Cx.fs (X : Cx) : List Addr := frs X.outer
def Vis (sc : Scope) (x : Str) : Prop := sc.names.lookup x = some .local \/ sc.names.lookup x = some .cell \/ sc.names.lookup x = some .free
def Loc (sc : Scope) (x : Str) : Prop := sc.names.lookup x = some .local \/ sc.names.lookup x = some .cell
def Look (env : Env) (h : Heap) (m : Str -> Option Value) (x : Str) (u : Value) : Prop :=
 (env.kindOf x = some .local /\ m x = some u) \/ ((env.kindOf x = some .cell \/ env.kindOf x = some .free) /\ ∃ c, env.cells.lookup x = some c /\ h.IsCell c (some u))
structure Cx.Ok (X : Cx) : Prop where
 mod : Mod X.K X.mg X.base
 kind : X.env.scope.kind = .function
 glob : X.env.globals = mainGlobals
 blt : X.env.builtins = builtinsNs
 above : X.s₀.heap.objs.size <= X.env.locals
 inj : ∀ x y c, X.env.cells.lookup x = some c -> X.env.cells.lookup y = some c -> x = y
 has : ∀ x, (X.env.kindOf x = some .cell \/ X.env.kindOf x = some .free) -> ∃ c, X.env.cells.lookup x = some c
 cab : ∀ x c, X.fn x = true -> X.env.cells.lookup x = some c -> X.s₀.heap.objs.size <= c
 hd : X.calm = true -> X.A.handled = none
 frames : X.A.frames = some X.stack
 stk : X.stack = X.outer \/ (X.stack = X.env :: X.outer /\ X.env.frame = some X.env.locals)
 exf : ∀ b ∈ X.ex, b ≠ X.env.locals /\ ∀ x c, X.env.cells.lookup x = some c -> c ≠ b
 bs : ∀ b o, X.base.get? b = some o -> X.s₀.heap.get? b = some o /\ X.H₀ b = none
 bsz : X.base.objs.size <= X.s₀.heap.objs.size
 noex : ∀ b o, X.base.get? b = some o -> b ∉ X.ex
 exfs : ∀ b ∈ X.ex, b ∉ X.fs
 funs : X.s₀.heap.FunFrames X.base X.outer
 frf : ∀ b ∈ X.fs, X.H₀ b = none
structure Inv (X : Cx) (pins : List (Addr × Obj)) (σ : List (Option V)) (H : Hp) (s : Shared) : Prop where
 ok : X.Ok
 os : s.os = X.s₀.os
 bare : AllBare s.gens
 base : Un X.fs X.ex X.H₀ H X.s₀.heap s.heap
 loc : ∃ m, s.heap.Ns X.env.locals m /\ ∀ (i : Nat) (x : Str) (v : V), X.N[i]? = some x -> σ[i]? = some (some v) -> Vis X.env.scope x -> ∃ u, RelV v u /\ Look X.env s.heap m x u
 cell : ∀ x c, X.env.cells.lookup x = some c -> ∃ v, s.heap.IsCell c v
 free : H X.env.locals = none
 freeC : ∀ x c, X.env.cells.lookup x = some c -> H c = none
 pin : ∀ p ∈ X.pn ++ pins, s.heap.get? p.1 = some p.2 /\ H p.1 = none /\ p.1 ≠ X.env.locals /\ p.1 ∉ X.fs /\ ∀ v, p.2.data ≠ .cell v
 hok : HOk X.prog X.w H s.heap
 len : σ.length = X.N.length
section
variable {X : Cx} {pins : List (Addr × Obj)} {σ : List (Option V)} {H H' : Hp} {s : Shared} {h' : Heap}
theorem Cx.Ok.nofr (ok : X.Ok) {b : Addr} {o : Obj} (e : X.base.get? b = some o) : b ∉ X.fs := fun hb => by
 have := (ok.funs.mem hb).1
 rw [e] at this; cases this
theorem Inv.bs (I : Inv X pins σ H s) : ∀ b o, X.base.get? b = some o -> s.heap.get? b = some o /\ H b = none := fun b o e =>
 ⟨I.base.keep b o (I.ok.bs b o e).1 (I.ok.bs b o e).2 (I.ok.nofr e) (I.ok.noex b o e), I.base.free b o (I.ok.bs b o e).1 (I.ok.bs b o e).2 (I.ok.noex b o e)⟩
theorem Inv.bk (I : Inv X pins σ H s) : ∀ b o, X.base.get? b = some o -> s.heap.get? b = some o := fun b o e => (I.bs b o e).1
theorem Inv.mod (I : Inv X pins σ H s) : Mod X.K X.mg X.base := I.ok.mod
theorem Inv.kIn (I : Inv X pins σ H s) : X.K.In s.heap := I.ok.mod.kin.keeps I.bk
theorem Inv.lt (I : Inv X pins σ H s) : X.env.locals < s.heap.objs.size := let ⟨_, hn, _⟩ := I.loc; hn.lt
theorem Inv.sz (I : Inv X pins σ H s) : X.s₀.heap.objs.size <= s.heap.objs.size := Nat.le_trans I.ok.above (Nat.le_of_lt I.lt)
theorem Inv.nofs (I : Inv X pins σ H s) {a : Addr} (h : s.heap.objs.size <= a) : a ∉ X.fs := fun hb => by
 obtain ⟨_, o, ho, _⟩ := I.ok.funs.mem hb
 exact absurd (Nat.lt_of_lt_of_le (Heap.lt_size ho) (Nat.le_trans I.sz h)) (Nat.lt_irrefl _)
theorem Inv.cne (I : Inv X pins σ H s) : ∀ x c, X.env.cells.lookup x = some c -> c ≠ X.env.locals := fun x c e z => by
 obtain ⟨v, o, ho, hd⟩ := I.cell x c e
 obtain ⟨m, ⟨o', es, ep, ho', hd', _⟩, _⟩ := I.loc
 rw [z, ho'] at ho; cases ho; rw [hd'] at hd; cases hd
theorem Inv.funs (I : Inv X pins σ H s) : s.heap.FunFrames X.base X.outer := by
 have all : ∀ (l : List Env), (∀ b ∈ frs l, b ∈ X.fs) -> X.s₀.heap.FunFrames X.base l -> s.heap.FunFrames X.base l := by
  intro l
  induction l with
  | nil => intro _ _; trivial
  | cons env r ih =>
   intro hs hl
   obtain ⟨hk, ⟨L, o, hf, hn, ho, hd⟩, hr⟩ := hl
   have hL : L ∈ X.fs := hs L (by unfold frs; rw [List.filterMap_cons, hf]; exact List.mem_cons_self)
   obtain ⟨sl, e⟩ := I.base.slot L o ho (I.ok.frf L hL) hL fun z => I.ok.exfs L z hL
   exact ⟨hk, ⟨L, _, hf, hn, e, hd⟩, ih (fun b hb => hs b (by unfold frs; rw [List.filterMap_cons, hf]; exact List.mem_cons_of_mem _ hb)) hr⟩
 exact all X.outer (fun _ hb => hb) I.ok.funs
theorem Inv.stack (I : Inv X pins σ H s) : s.heap.FunFrames X.base X.stack := by
 rcases I.ok.stk with e | ⟨e, hf⟩
 ·rw [e]; exact I.funs
 ·rw [e]
  obtain ⟨m, hn, _⟩ := I.loc
  refine .cons (by rw [I.ok.kind]; decide) hf hn ?_ I.funs
  exact Heap.get?_none_of_le (Nat.le_trans I.ok.bsz I.ok.above)
theorem Inv.stkSub (I : Inv X pins σ H s) : ∀ b ∈ frs X.stack, b ∈ X.env.locals :: X.fs := fun b hb => by
 rcases I.ok.stk with e | ⟨e, hf⟩
 ·rw [e] at hb; exact List.mem_cons_of_mem _ hb
 ·rw [e] at hb
  unfold frs at hb
  rw [List.filterMap_cons, hf] at hb
  exact hb
theorem Inv.stkFree (I : Inv X pins σ H s) : ∀ b ∈ frs X.stack, H b = none := fun b hb => by
 rcases List.mem_cons.mp (I.stkSub b hb) with e | hb
 ·rw [e]; exact I.free
 ·obtain ⟨_, o, ho, _⟩ := I.ok.funs.mem hb
  exact I.base.free b o ho (I.ok.frf b hb) fun z => I.ok.exfs b z hb
theorem Inv.step {g' : Array GenState} {t' : Nat} {d' : Drawn} {ch : List Addr} (I : Inv X pins σ H s)
  (hch : ∀ b ∈ ch, (b ∈ X.ex \/ X.s₀.heap.objs.size <= b) /\ b ≠ X.env.locals /\ (∀ x c, X.env.cells.lookup x = some c -> c ≠ b) /\ ∀ p ∈ X.pn ++ pins, p.1 ≠ b)
  (keep : ∀ b o, b ≠ X.env.locals -> b ∉ X.fs -> b ∉ ch -> s.heap.get? b = some o -> H b = none -> h'.get? b = some o)
  (slot : ∀ b o, b ≠ X.env.locals -> b ∈ X.fs -> b ∉ ch -> s.heap.get? b = some o -> H b = none -> ∃ sl, h'.get? b = some { o with slots := sl }) (free : ∀ b o, b ∉ ch -> s.heap.get? b = some o -> H b = none -> H' b = none)
  (there : ∀ b o, b ∉ ch -> s.heap.get? b = some o -> ∃ o', h'.get? b = some o')
  (tups : ∀ b xs, H b = some (.tup xs) -> H' b = some (.tup xs)) (frzs : ∀ b o u, H b = some (.frz o u) -> H' b = some (.frz o u)) (tbls : ∀ b ps, H b = some (.tbl ps) -> ∃ more, H' b = some (.tbl (ps ++ more)))
  (ns : ∀ m, s.heap.Ns X.env.locals m -> h'.Ns X.env.locals m) (hok : HOk X.prog X.w H' h') (hg : AllBare g') :
  Inv X pins σ H' { s with heap := h', gens := g', drawn := d', toks := t' } := by
 have neL : ∀ b o, X.s₀.heap.get? b = some o -> b ≠ X.env.locals := fun b o e => Nat.ne_of_lt (Nat.lt_of_lt_of_le (Heap.lt_size e) I.ok.above)
 have neC : ∀ b o, X.s₀.heap.get? b = some o -> b ∉ X.ex -> b ∉ ch := fun b o e hx hb => by
  rcases (hch b hb).1 with z | z
  ·exact hx z
  ·exact absurd (Nat.lt_of_lt_of_le (Heap.lt_size e) z) (Nat.lt_irrefl _)
 have cellK : ∀ x c, X.env.cells.lookup x = some c -> ∀ v, s.heap.IsCell c v -> h'.IsCell c v := fun x c e v ⟨o, ho, hd⟩ => by
  have nch : c ∉ ch := fun z => (hch c z).2.2.1 x c e rfl
  by_cases hc : c ∈ X.fs
  ·obtain ⟨sl, q⟩ := slot c o (I.cne x c e) hc nch ho (I.freeC x c e)
   exact ⟨_, q, hd⟩
  ·exact ⟨o, keep c o (I.cne x c e) hc nch ho (I.freeC x c e), hd⟩
 refine ⟨I.ok, I.os, hg, ⟨fun b o e n hb hx => ?_, fun b o e n hb hx => ?_, fun b o e n hx => ?_, fun b o e hx => ?_, fun b xs e => tups b xs (I.base.tups b xs e), fun b o xs e => frzs b o xs (I.base.frzs b o xs e), fun b ps e => ?_⟩, ?_, fun x c e => ?_, ?_, fun x c e => ?_, fun p hp => ?_, hok, I.len⟩
 ·exact keep b o (neL b o e) hb (neC b o e hx) (I.base.keep b o e n hb hx) (I.base.free b o e n hx)
 ·obtain ⟨sl, e1⟩ := I.base.slot b o e n hb hx
  obtain ⟨sl', e2⟩ := slot b _ (neL b o e) hb (neC b o e hx) e1 (I.base.free b o e n hx)
  exact ⟨sl', e2⟩
 ·obtain ⟨o', e1⟩ := I.base.there b o e hx
  exact free b o' (neC b o e hx) e1 (I.base.free b o e n hx)
 ·obtain ⟨o', e1⟩ := I.base.there b o e hx
  exact there b o' (neC b o e hx) e1
 ·obtain ⟨m1, e1⟩ := I.base.tbls b ps e
  obtain ⟨m2, e2⟩ := tbls b _ e1
  exact ⟨m1 ++ m2, by rw [e2, Array.append_assoc]⟩
 ·obtain ⟨m, hn, hl⟩ := I.loc
  refine ⟨m, ns m hn, fun i x v e1 e2 e3 => ?_⟩
  obtain ⟨u, r, l⟩ := hl i x v e1 e2 e3
  refine ⟨u, r, ?_⟩
  rcases l with l | ⟨k, c, e, z⟩
  ·exact .inl l
  ·exact .inr ⟨k, c, e, cellK x c e _ z⟩
 ·obtain ⟨v, z⟩ := I.cell x c e
  exact ⟨v, cellK x c e v z⟩
 ·obtain ⟨m, ⟨o, _, _, ho, _⟩, _⟩ := I.loc
  exact free _ o (fun z => (hch _ z).2.1 rfl) ho I.free
 ·obtain ⟨v, o, ho, hd⟩ := I.cell x c e
  exact free c o (fun z => (hch c z).2.2.1 x c e rfl) ho (I.freeC x c e)
 ·obtain ⟨e, n, ne, nf, d⟩ := I.pin p hp
  have nch : p.1 ∉ ch := fun z => (hch p.1 z).2.2.2 p hp rfl
  exact ⟨keep p.1 p.2 ne nf nch e n, free p.1 p.2 nch e n, ne, nf, d⟩
theorem Inv.un {t' : Nat} (I : Inv X pins σ H s) (u : Un X.fs [] H H' s.heap h') (hok : HOk X.prog X.w H' h') : Inv X pins σ H' { s with heap := h', toks := t' } := by
 obtain ⟨m, ⟨o, es, ep, ho, r⟩, _⟩ := id I.loc
 obtain ⟨sl, hL⟩ := u.any ho I.free (by simp)
 exact I.step (g' := s.gens) (d' := s.drawn) (ch := []) (fun _ z => nomatch z) (fun b o _ hb _ e n => u.keep b o e n hb (by simp)) (fun b o _ hb _ e n => u.slot b o e n hb (by simp)) (fun b o _ e n => u.free b o e n (by simp)) (fun b o _ e => u.there b o e (by simp)) u.tups u.frzs u.tbls (fun m' hm => by
  obtain ⟨o', es', ep', ho', r'⟩ := hm
  rw [ho] at ho'; cases ho'
  exact ⟨_, es', ep', hL, r'⟩) hok I.bare
theorem Inv.call {g' : Array GenState} {t' : Nat} {d' : Drawn} {ch : List Addr} (I : Inv X pins σ H s) (u : Un (frs X.stack) ch H H' s.heap h') (hok : HOk X.prog X.w H' h') (hg : AllBare g')
  (hch : ∀ b ∈ ch, (b ∈ X.ex \/ X.s₀.heap.objs.size <= b) /\ b ≠ X.env.locals /\ (∀ x c, X.env.cells.lookup x = some c -> c ≠ b) /\ ∀ p ∈ X.pn ++ pins, p.1 ≠ b) :
  Inv X pins σ H' { s with heap := h', gens := g', drawn := d', toks := t' } := by
 obtain ⟨m, ⟨o, es, ep, ho, r⟩, _⟩ := id I.loc
 obtain ⟨sl, hL⟩ := u.any ho I.free fun z => (hch _ z).2.1 rfl
 exact I.step (ch := ch) hch (fun b o hL hb hc e n => u.keep b o e n (fun z => (List.mem_cons.mp (I.stkSub b z)).elim hL hb) hc) (fun b o _ _ hc e n => u.any e n hc) (fun b o hc e n => u.free b o e n hc) (fun b o hc e => u.there b o e hc) u.tups u.frzs u.tbls (fun m' hm => by
  obtain ⟨o', es', ep', ho', r'⟩ := hm
  rw [ho] at ho'; cases ho'
  exact ⟨_, es', ep', hL, r'⟩) hok hg
theorem Inv.turned {t' : Nat} {it : Addr} (I : Inv X pins σ H s) (k : ∀ b o, b ≠ it -> s.heap.get? b = some o -> h'.get? b = some o) (hn : H it = none) (hL : it ≠ X.env.locals)
  (h1 : it ∈ X.ex \/ X.s₀.heap.objs.size <= it) (h2 : ∀ x c, X.env.cells.lookup x = some c -> c ≠ it) (h3 : ∀ p ∈ X.pn ++ pins, p.1 ≠ it) : Inv X pins σ H { s with heap := h', toks := t' } := by
 have nit : ∀ b u, H b = some u -> b ≠ it := fun b u e z => by rw [z, hn] at e; cases e
 refine I.step (g' := s.gens) (d' := s.drawn) (ch := [it]) (fun b hb => ?_) (fun b o _ _ hc e _ => k b o (fun z => hc (by simp [z])) e) (fun b o _ _ hc e _ => ⟨o.slots, k b o (fun z => hc (by simp [z])) e⟩) (fun _ _ _ _ n => n)
  (fun b o hc e => ⟨o, k b o (fun z => hc (by simp [z])) e⟩) (fun _ _ e => e) (fun _ _ _ e => e) (fun b ps e => ⟨#[], by rw [e]; simp⟩) (fun m hm => ?_) (fun b u e => ?_) I.bare
 ·have e : b = it := by simpa using hb
  subst e
  exact ⟨h1, hL, h2, h3⟩
 ·obtain ⟨o, es, ep, ho, r⟩ := hm
  exact ⟨o, es, ep, k _ o (Ne.symm hL) ho, r⟩
 ·refine (I.hok b u e).stay (fun c v hc q => k c v ?_ q) (fun _ q => q) fun _ _ q => q
  rcases hc with z | z
  ·rw [z]; exact nit b u e
  ·exact nit c _ z
theorem Inv.tok (I : Inv X pins σ H s) (t : Nat) : Inv X pins σ H { s with toks := t } := I.un (h' := s.heap) (t' := t) Un.refl I.hok
theorem Inv.kept {t' : Nat} (I : Inv X pins σ H s) (k : ∀ b u, s.heap.get? b = some u -> h'.get? b = some u) : Inv X pins σ H { s with heap := h', toks := t' } := I.un (Un.kept k) (I.hok.kept k)
theorem Inv.laid {a : Addr} {o : HO} {t' : Nat} (I : Inv X pins σ H s) (k : ∀ b u, s.heap.get? b = some u -> h'.get? b = some u) (hp : s.heap.objs.size <= a) (new : ObjOk X.prog X.w (upd H a o) h' a o) :
  Inv X pins σ (upd H a o) { s with heap := h', toks := t' } := I.un (Un.laid k hp (I.hok.fresh hp)) (I.hok.laid k hp new)
theorem Inv.write {x e : Addr} {o : HO} {t' : Nat} (I : Inv X pins σ H s) (mu : Mut (H x)) (he : e = x \/ H e = some (.own x)) (k : ∀ b u, b ≠ e -> s.heap.get? b = some u -> h'.get? b = some u) (heo : ∃ u, h'.get? e = some u)
  (new : ObjOk X.prog X.w (upd H x o) h' x o) : Inv X pins σ (upd H x o) { s with heap := h', toks := t' } := I.un (Un.write mu he k heo) (I.hok.write mu he k heo new)
theorem Inv.pins_of {pins' : List (Addr × Obj)} (I : Inv X pins σ H s) (h : ∀ p ∈ pins', s.heap.get? p.1 = some p.2 /\ H p.1 = none /\ p.1 ≠ X.env.locals /\ p.1 ∉ X.fs /\ ∀ v, p.2.data ≠ .cell v) : Inv X pins' σ H s :=
 ⟨I.ok, I.os, I.bare, I.base, I.loc, I.cell, I.free, I.freeC, fun p hp => (List.mem_append.mp hp).elim (fun z => I.pin p (List.mem_append_left _ z)) (h p), I.hok, I.len⟩
theorem a6Z {N : List Str} (hN : N.Nodup) {i j : Nat} {x : Str} (a : N[i]? = some x) (b : N[j]? = some x) : i = j := by
 obtain ⟨h1, e1⟩ := List.getElem?_eq_some_iff.mp a
 obtain ⟨h2, e2⟩ := List.getElem?_eq_some_iff.mp b
 exact (List.getElem_inj hN).mp (e1.trans e2.symm)
theorem a7V {M : Model} {A : Around} {E : Value -> Shared -> Prop} {i : Nat} {x : Str} {v : V} {u : Value} {Q : Unit -> Shared -> Prop} (I : Inv X pins σ H s) (hN : X.N.Nodup) (hi : X.N[i]? = some x) (hx : Loc X.env.scope x) (r : RelV v u)
  (h : ∀ s', Inv X pins (σ.set i (some v)) H s' -> (∃ a, Heap.SameBut a s.heap s'.heap /\ (a = X.env.locals \/ X.env.cells.lookup x = some a)) -> Q () s') (hf : X.fn x = true \/ X.env.scope.names.lookup x = some .local := by first | exact .inl rfl | exact .inr rfl | assumption) : wpAny M A (storeName X.env x u) Q E s := by
 obtain ⟨m, hn, hl⟩ := id I.loc
 have hcls : (X.env.scope.kind == .class || (X.env.scope.kind == .module && X.env.locals != X.env.globals)) = false := by rw [I.ok.kind]; rfl
 have hiσ : i < σ.length := by rw [I.len]; exact (List.getElem?_eq_some_iff.mp hi).1
 have cne := I.cne
 have tracked : ∀ {a : Addr} {h' : Heap}, (∃ o, s.heap.get? a = some o /\ H a = none) -> Heap.SameBut a s.heap h' -> HOk X.prog X.w H h' := fun {a h'} ha hs b ob e => by
  obtain ⟨_, _, hfree⟩ := ha
  refine (I.hok b ob e).stay (fun c w' hc q => (hs.2 c ?_).trans q) (fun _ q => q) fun _ _ q => q
  rintro rfl
  rcases hc with rfl | hc
  ·rw [hfree] at e; cases e
  ·rw [hfree] at hc; cases hc
 rcases hx with hk | hk
 ·refine wpAny_storeName_local hk hn (fun h' hn' hs => ?_) hcls
  obtain ⟨oL, _, _, hoL, _⟩ := id hn
  refine h _ ⟨I.ok, I.os, I.bare, ⟨fun b o e n hb hx => ?_, fun b o e n hb hx => ?_, I.base.free, fun b o e hx => ?_, I.base.tups, I.base.frzs, I.base.tbls⟩, ⟨_, hn', fun j y v' e1 e2 e3 => ?_⟩, fun y c e => ?_, I.free, I.freeC, fun p hp => ?_, tracked ⟨oL, hoL, I.free⟩ hs, by simpa using I.len⟩ ⟨_, hs, .inl rfl⟩
  ·exact (hs.2 b (Nat.ne_of_lt (Nat.lt_of_lt_of_le (Heap.lt_size e) I.ok.above))).trans (I.base.keep b o e n hb hx)
  ·obtain ⟨sl, e1⟩ := I.base.slot b o e n hb hx
   exact ⟨sl, (hs.2 b (Nat.ne_of_lt (Nat.lt_of_lt_of_le (Heap.lt_size e) I.ok.above))).trans e1⟩
  ·obtain ⟨o', e1⟩ := I.base.there b o e hx
   exact ⟨o', (hs.2 b (Nat.ne_of_lt (Nat.lt_of_lt_of_le (Heap.lt_size e) I.ok.above))).trans e1⟩
  ·by_cases hj : j = i
   ·subst hj
    rw [hi] at e1; cases e1
    rw [List.getElem?_set_self hiσ] at e2
    cases e2
    exact ⟨u, r, .inl ⟨hk, by simp⟩⟩
   ·rw [List.getElem?_set_ne (Ne.symm hj)] at e2
    obtain ⟨u', r', q⟩ := hl j y v' e1 e2 e3
    refine ⟨u', r', ?_⟩
    rcases q with ⟨k, e⟩ | ⟨k, c, e, z⟩
    ·refine .inl ⟨k, ?_⟩
     have : y ≠ x := fun e => hj (a6Z hN e1 (e ▸ hi))
     simp [this, e]
    ·exact .inr ⟨k, c, e, z.sameBut hs (cne y c e)⟩
  ·obtain ⟨w', z⟩ := I.cell y c e
   exact ⟨w', z.sameBut hs (cne y c e)⟩
  ·obtain ⟨e, n, ne, nf, d⟩ := I.pin p hp
   exact ⟨(hs.2 p.1 ne).trans e, n, ne, nf, d⟩
 ·have hfn : X.fn x = true := by
   rcases hf with z | z
   ·exact z
   ·rw [z] at hk; cases hk
  obtain ⟨c, hc⟩ := I.ok.has x (.inl hk)
  obtain ⟨w', z⟩ := I.cell x c hc
  refine wpAny_storeName_cell I.ok.kind hk hc z (fun h' hc' hs => ?_)
  obtain ⟨oc, hoc, hocd⟩ := id z
  refine h { s with heap := h' } ⟨I.ok, I.os, I.bare, ⟨fun b o e n hb hx => ?_, fun b o e n hb hx => ?_, I.base.free, fun b o e hx => ?_, I.base.tups, I.base.frzs, I.base.tbls⟩, ⟨m, hn.sameBut hs (Ne.symm (cne x c hc)), fun j y v' e1 e2 e3 => ?_⟩, fun y c' e => ?_, I.free, I.freeC, fun p hp => ?_, tracked ⟨oc, hoc, I.freeC x c hc⟩ hs, by simpa using I.len⟩ ⟨c, hs, .inr hc⟩
  ·exact (hs.2 b (Nat.ne_of_lt (Nat.lt_of_lt_of_le (Heap.lt_size e) (I.ok.cab x c hfn hc)))).trans (I.base.keep b o e n hb hx)
  ·obtain ⟨sl, e1⟩ := I.base.slot b o e n hb hx
   exact ⟨sl, (hs.2 b (Nat.ne_of_lt (Nat.lt_of_lt_of_le (Heap.lt_size e) (I.ok.cab x c hfn hc)))).trans e1⟩
  ·obtain ⟨o', e1⟩ := I.base.there b o e hx
   exact ⟨o', (hs.2 b (Nat.ne_of_lt (Nat.lt_of_lt_of_le (Heap.lt_size e) (I.ok.cab x c hfn hc)))).trans e1⟩
  ·by_cases hj : j = i
   ·subst hj
    rw [hi] at e1; cases e1
    rw [List.getElem?_set_self hiσ] at e2
    cases e2
    exact ⟨u, r, .inr ⟨.inl hk, c, hc, hc'⟩⟩
   ·rw [List.getElem?_set_ne (Ne.symm hj)] at e2
    obtain ⟨u', r', q⟩ := hl j y v' e1 e2 e3
    refine ⟨u', r', ?_⟩
    rcases q with q | ⟨k, c', e, z'⟩
    ·exact .inl q
    ·refine .inr ⟨k, c', e, z'.sameBut hs ?_⟩
     rintro rfl
     exact hj (a6Z hN e1 (I.ok.inj _ _ _ e hc ▸ hi))
  ·by_cases hcc : c' = c
   ·subst hcc; exact ⟨_, hc'⟩
   ·obtain ⟨w2, z2⟩ := I.cell y c' e
    exact ⟨w2, z2.sameBut hs hcc⟩
  ·obtain ⟨e, n, ne, nf, d⟩ := I.pin p hp
   refine ⟨(hs.2 p.1 ?_).trans e, n, ne, nf, d⟩
   intro q
   rw [q, hoc] at e
   have q' : oc = p.2 := Option.some.inj e
   exact d w' (by rw [<- q']; exact hocd)
theorem a7A {M : Model} {A : Around} {E : Value -> Shared -> Prop} {i : Nat} {x : Str} {v : V} {u : Value} {Q : Unit -> Shared -> Prop} (I : Inv X pins σ H s) (hN : X.N.Nodup) (hi : X.N[i]? = some x) (hx : Loc X.env.scope x) (r : RelV v u)
  (h : ∀ s', Inv X pins (σ.set i (some v)) H s' -> Q () s') (hf : X.fn x = true \/ X.env.scope.names.lookup x = some .local := by first | exact .inl rfl | exact .inr rfl | assumption) : wpAny M A (storeName X.env x u) Q E s :=
 a7V I hN hi hx r (fun s' I' _ => h s' I') hf
theorem Inv.call' {s' : Shared} {ch : List Addr} (I : Inv X pins σ H s) (ho : s'.os = s.os) (u : Un (frs X.stack) ch H H' s.heap s'.heap) (hok : HOk X.prog X.w H' s'.heap) (hg : AllBare s'.gens)
  (hch : ∀ b ∈ ch, (b ∈ X.ex \/ X.s₀.heap.objs.size <= b) /\ b ≠ X.env.locals /\ (∀ x c, X.env.cells.lookup x = some c -> c ≠ b) /\ ∀ p ∈ X.pn ++ pins, p.1 ≠ b) : Inv X pins σ H' s' := by
 obtain ⟨h', g', d', t', o'⟩ := s'
 have e : o' = s.os := ho
 subst e
 exact I.call (g' := g') (t' := t') (d' := d') u hok hg hch
end
abbrev XK := Value -> Option Addr -> Hp -> Prop
abbrev St := List (Option V)
abbrev VK := V -> Hp -> Prop
abbrev TE := St -> Hp -> VK -> Prop
abbrev TT := St -> Hp -> (Bool -> Hp -> Prop) -> Prop
abbrev TA := St -> Hp -> (List V -> Hp -> Prop) -> Prop
structure Ends where
 nx : St -> Hp -> Prop
 rt : VK
 bk : St -> Hp -> Prop := fun _ _ => False
 ct : St -> Hp -> Prop := fun _ _ => False
abbrev TS := Ends -> St -> Hp -> Prop
def EP (X : Cx) (pins : List (Addr × Obj)) (σ : St) (Q : VK) (u : Value) (s' : Shared) : Prop := ∃ v H', Inv X pins σ H' s' /\ RelV v u /\ Q v H'
def TP (X : Cx) (pins : List (Addr × Obj)) (σ : St) (Q : Bool -> Hp -> Prop) (b : Bool) (s' : Shared) : Prop := ∃ H', Inv X pins σ H' s' /\ Q b H'
def AP (X : Cx) (pins : List (Addr × Obj)) (σ : St) (Q : List V -> Hp -> Prop) (us : List Value) (s' : Shared) : Prop := ∃ vs H', Inv X pins σ H' s' /\ Vals vs us /\ Q vs H'
def SP (X : Cx) (pins : List (Addr × Obj)) (D : Ends) (f : Flow) (s' : Shared) : Prop :=
 match f with
 | .next => ∃ σ' H', Inv X pins σ' H' s' /\ D.nx σ' H'
 | .brk => ∃ σ' H', Inv X pins σ' H' s' /\ D.bk σ' H'
 | .cont => ∃ σ' H', Inv X pins σ' H' s' /\ D.ct σ' H'
 | .ret u => ∃ v σ' H', Inv X pins σ' H' s' /\ RelV v u /\ D.rt v H'
def PE (X : Cx) (e : Expr) (t : TE) : Prop :=
 ∀ (pins : List (Addr × Obj)) (s : Shared) (σ : St) (H : Hp) (Q : VK), Inv X pins σ H s -> t σ H Q -> wpAny (model X.prog X.w) X.A (eval e X.env) (EP X pins σ Q) X.xe s
def PT (X : Cx) (e : Expr) (t : TT) : Prop :=
 ∀ (pins : List (Addr × Obj)) (s : Shared) (σ : St) (H : Hp) (Q : Bool -> Hp -> Prop), Inv X pins σ H s -> t σ H Q -> wpAny (model X.prog X.w) X.A (isTrue e X.env (eval e X.env)) (TP X pins σ Q) X.xe s
def PW (X : Cx) (e : Expr) (t : TT) : Prop :=
 ∀ (whole : Sem Value) (pins : List (Addr × Obj)) (s : Shared) (σ : St) (H : Hp) (Q : Bool -> Hp -> Prop), Inv X pins σ H s -> t σ H Q -> wpAny (model X.prog X.w) X.A (isTrue e X.env whole) (TP X pins σ Q) X.xe s
theorem PW.pt {X : Cx} {e : Expr} {t : TT} (h : PW X e t) : PT X e t := h _
def PA (X : Cx) (es : List Expr) (t : TA) : Prop :=
 ∀ (pos : Pos) (pins : List (Addr × Obj)) (s : Shared) (σ : St) (H : Hp) (Q : List V -> Hp -> Prop), Inv X pins σ H s -> t σ H Q -> wpAny (model X.prog X.w) X.A (spliced (backTo pos (starEach es X.env))) (AP X pins σ Q) X.xe s
def PS (X : Cx) (st : Stmt) (t : TS) : Prop :=
 ∀ (pins : List (Addr × Obj)) (s : Shared) (σ : St) (H : Hp) (D : Ends), Inv X pins σ H s -> t D σ H -> wpAny (model X.prog X.w) X.A (exec st X.env) (SP X pins D) X.xe s
def PSs (X : Cx) (st : List Stmt) (t : TS) : Prop :=
 ∀ (pins : List (Addr × Obj)) (s : Shared) (σ : St) (H : Hp) (D : Ends), Inv X pins σ H s -> t D σ H -> wpAny (model X.prog X.w) X.A (execs st X.env) (SP X pins D) X.xe s
theorem thn {α : Type} {t : Sem α} {Q Q' : α -> Shared -> Prop} {M : Model} {A : Around} {E : Value -> Shared -> Prop} {s : Shared} (h : wpAny M A t Q E s) (hQ : ∀ a s, Q a s -> Q' a s) : wpAny M A t Q' E s := wpAny_mono h hQ fun _ _ x => x
end L2
namespace L2
open PySem PySem.Spec PyProof.Rows
section
variable {X : Cx}
def tVar (i : Nat) : TE := fun σ H Q => ∃ v, σ[i]? = some (some v) /\ Q v H
def tC (v : V) : TE := fun _ H Q => Q v H
theorem c1I {i : Nat} {x : Str} {pos : Pos} (hN : X.N[i]? = some x) (hv : Vis X.env.scope x) (hd : (x == ("__debug__" : Str)) = false := by decide) (hcd : (x == ("__classdict__" : Str)) = false := by decide) : PE X (.Name x pos) (tVar i) := by
 intro pins s σ H Q I h
 obtain ⟨v, e, h⟩ := h
 obtain ⟨m, hn, hl⟩ := I.loc
 obtain ⟨u, r, l⟩ := hl i x v hN e hv
 have fin : EP X pins σ Q u s := ⟨v, H, I, r, h⟩
 rcases l with ⟨hk, hm⟩ | ⟨hk, c, hc, hcell⟩
 ·exact wpAny_Name (wpAny_loadName_local I.ok.kind hk hn hm fin) hd
 ·rcases hk with hk | hk
  ·exact wpAny_Name (wpAny_loadName_cell I.ok.kind hk hc hcell fin) hd
  ·exact wpAny_Name (wpAny_loadName_free I.ok.kind hk hc hcell fin hcd) hd
theorem a0F {i j pos} : PE X (.Constant (.int i) j pos) (tC (.int i)) := fun _ _ _ H _ I h => wpAny_Constant_int ⟨.int i, H, I.tok _, ⟨_, rfl⟩, h⟩
theorem a4W {b j pos} : PE X (.Constant (.bool b) j pos) (tC (.bl b)) := fun _ _ _ H _ I h => Constant_bool ⟨.bl b, H, I, rfl, h⟩
theorem b0O {j pos} : PE X (.Constant .none j pos) (tC .non) := fun _ _ _ H _ I h => Constant_none ⟨.non, H, I, rfl, h⟩
theorem b7Z {x j pos} : PE X (.Constant (.str x) j pos) (tC (.str x)) := fun _ _ _ H _ I h => Calls.Constant_str ⟨.str x, H, I.tok _, ⟨_, rfl⟩, h⟩
def Gl (X : Cx) (x : Str) : Prop := X.env.kindOf x = some .globalImplicit
theorem a4B {E : Value -> Shared -> Prop} {pins : List (Addr × Obj)} {s : Shared} {σ : St} {H : Hp} {x : Str} {u : Value} {pos : Pos} {Q : Value -> Shared -> Prop} (I : Inv X pins σ H s) (hg : Gl X x) (hm : X.mg x = some u) (h : Q u s)
  (hd : (x == ("__debug__" : Str)) = false := by decide) : wpAny (model X.prog X.w) X.A (eval (.Name x pos) X.env) Q E s :=
 Calls.Name_function_global I.ok.kind hg (Calls.loadGlobal_global (by rw [I.ok.glob]; exact I.mod.glob.keeps I.bk) hm h) hd
theorem a4I {E : Value -> Shared -> Prop} {pins : List (Addr × Obj)} {s : Shared} {σ : St} {H : Hp} {x : Str} {u : Value} {pos : Pos} {Q : Value -> Shared -> Prop} (I : Inv X pins σ H s) (hg : Gl X x) (hm : X.mg x = none) (hv : bootBuiltins x = some u) (h : Q u s)
  (hn : x ≠ "__name__" := by decide) (hd : (x == ("__debug__" : Str)) = false := by decide) : wpAny (model X.prog X.w) X.A (eval (.Name x pos) X.env) Q E s := by
 obtain ⟨mb, h1, h2⟩ := I.mod.blt
 exact Calls.Name_function_global I.ok.kind hg (Calls.loadGlobal_builtin (by rw [I.ok.glob]; exact I.mod.glob.keeps I.bk) hm (by rw [I.ok.blt]; exact h1.keeps I.bk) ((h2 x hn).trans hv) h) hd
theorem a1C {x : Str} {v : V} {u : Value} {pos : Pos} (hg : Gl X x) (hm : X.mg x = some u) (r : RelV v u) (hd : (x == ("__debug__" : Str)) = false := by decide) : PE X (.Name x pos) (tC v) :=
 fun _ _ _ H _ I h => a4B I hg hm ⟨v, H, I, r, h⟩ hd
theorem a5H {x : Str} {v : V} {u : Value} {pos : Pos} (hg : Gl X x) (hm : X.mg x = none) (hv : bootBuiltins x = some u) (r : RelV v u) (hn : x ≠ "__name__" := by decide) (hd : (x == ("__debug__" : Str)) = false := by decide) : PE X (.Name x pos) (tC v) :=
 fun _ _ _ H _ I h => a4I I hg hm hv ⟨v, H, I, r, h⟩ hn hd
variable {a b : Expr} {ta tb : TE} {pos : Pos}
variable {tA tB' : TT} {rest : List Expr}
def tAnd (t u : TT) : TT := fun σ H Q => t σ H fun c H1 => if c = true then u σ H1 Q else Q false H1
def tOr (t u : TT) : TT := fun σ H Q => t σ H fun c H1 => if c = true then Q true H1 else u σ H1 Q
def tNot (t : TT) : TT := fun σ H Q => t σ H fun c H1 => Q (!c) H1
theorem a5I (ha : PT X a tA) : PW X (.BoolOp .And [a] pos) tA := by
 intro wh pins s σ H Q I h
 refine isTrue_and (thn (ha pins s σ H Q I h) fun c s1 e => ?_)
 cases c with
 | true => exact isTrue_and_nil e
 | false => exact e
theorem a6M (ha : PT X a tA) : PW X (.BoolOp .Or [a] pos) tA := by
 intro wh pins s σ H Q I h
 refine isTrue_or (thn (ha pins s σ H Q I h) fun c s1 e => ?_)
 cases c with
 | false => exact isTrue_or_nil e
 | true => exact e
theorem a7W (ha : PT X a tA) (hb : PW X (.BoolOp .And (b :: rest) pos) tB') : PW X (.BoolOp .And (a :: b :: rest) pos) (tAnd tA tB') := by
 intro wh pins s σ H Q I h
 refine isTrue_and (thn (ha pins s σ H _ I h) fun c s1 ⟨H1, I1, q1⟩ => ?_)
 cases c with
 | true => exact hb wh pins s1 σ H1 Q I1 q1
 | false => exact ⟨H1, I1, q1⟩
theorem a9L (ha : PT X a tA) (hb : PW X (.BoolOp .Or (b :: rest) pos) tB') : PW X (.BoolOp .Or (a :: b :: rest) pos) (tOr tA tB') := by
 intro wh pins s σ H Q I h
 refine isTrue_or (thn (ha pins s σ H _ I h) fun c s1 ⟨H1, I1, q1⟩ => ?_)
 cases c with
 | true => exact ⟨H1, I1, q1⟩
 | false => exact hb wh pins s1 σ H1 Q I1 q1
theorem a3E (ha : PT X a tA) : PT X (.UnaryOp .Not a pos) (tNot tA) := by
 intro pins s σ H Q I h
 exact isTrue_not (ha pins s σ H (fun c H1 => Q (!c) H1) I h)
def c3E (ta tb : TE) : TE := fun σ H Q => ta σ H fun x H1 => ∃ c, x = .bl c /\ if c = true then tb σ H1 Q else Q (.bl false) H1
def c3F (ta : TE) : TE := fun σ H Q => ta σ H fun x H1 => ∃ c, x = .bl c /\ Q (.bl (!c)) H1
theorem b0P {op} {t : TE} (h : PE X a t) : PE X (.BoolOp op [a] pos) t := fun pins s σ H Q I hw => BoolOp_one (h pins s σ H Q I hw)
theorem b0Q (ha : PE X a ta) (hb : PE X (.BoolOp .And (b :: rest) pos) tb) : PE X (.BoolOp .And (a :: b :: rest) pos) (c3E ta tb) := by
 intro pins s σ H Q I h
 refine BoolOp_and (thn (ha pins s σ H _ I h) fun v s1 ⟨x, H1, I1, r1, q1⟩ => ?_)
 obtain ⟨c, rfl, q1⟩ := q1
 cases r1
 refine wpAny_truthy_bool ?_
 cases c with
 | true => exact hb pins s1 σ H1 Q I1 q1
 | false => exact ⟨.bl false, H1, I1, rfl, q1⟩
theorem b2Y (ha : PE X a ta) : PE X (.UnaryOp .Not a pos) (c3F ta) := by
 intro pins s σ H Q I h
 refine UnaryOp_ (thn (ha pins s σ H _ I h) fun v s1 ⟨x, H1, I1, r1, q1⟩ => ?_)
 obtain ⟨c, rfl, q1⟩ := q1
 cases r1
 exact not_of (wpAny_truthy_bool ⟨.bl (!c), H1, I1, rfl, q1⟩)
def tIf (t : TT) (ta tb : TE) : TE := fun σ H Q => t σ H fun c H1 => if c = true then ta σ H1 Q else tb σ H1 Q
theorem b0R {c : Expr} (hc : PT X c tA) (ha : PE X a ta) (hb : PE X b tb) : PE X (.IfExp c a b pos) (tIf tA ta tb) := by
 intro pins s σ H Q I h
 refine wpAny_IfExp (thn (hc pins s σ H _ I h) fun d s1 ⟨H1, I1, q1⟩ => ?_)
 cases d with
 | true => exact ha pins s1 σ H1 Q I1 q1
 | false => exact hb pins s1 σ H1 Q I1 q1
end
end L2
namespace L2
open PySem PySem.Spec PyProof.Rows
def SqL (K : Φρ) (H : Hp) (a : Addr) (xs : List V) : Prop :=
 Rd H a (.lst xs) \/
  ∃ (o : Obj) (its : Array Value) (n : Nat), K.lookup a = some o /\ o.cls = .type "list" /\ o.dict = none /\ o.data = .seq its n /\ its.size <= sizeLine /\ Vals xs its.toList
def SqT (K : Φρ) (H : Hp) (a : Addr) (xs : List V) : Prop :=
 Rd H a (.tup xs) \/
  ∃ (o : Obj) (its : Array Value) (n : Nat), K.lookup a = some o /\ o.cls = .type "tuple" /\ o.data = .seq its n /\ its.size <= sizeLine /\ Vals xs its.toList
def absV : Value -> Option V
 | .none => some .non
 | .bool b => some (.bl b)
 | .int i _ => some (.int i)
 | .str x _ => some (.str x)
 | .bytes b _ => some (.byt b)
 | .float b _ => some (.flt b)
 | .ref a => some (.ref a)
 | .type n => some (.ty n)
 | _ => none
theorem RelV.abs {x : V} {u : Value} (r : RelV x u) : absV u = some x := by
 cases x with
 | non => cases r; rfl
 | bl _ => cases r; rfl
 | int _ => obtain ⟨t, rfl⟩ := r; rfl
 | str _ => obtain ⟨t, rfl⟩ := r; rfl
 | byt _ => obtain ⟨t, rfl⟩ := r; rfl
 | flt _ => obtain ⟨t, rfl⟩ := r; rfl
 | ref _ => cases r; rfl
 | ty _ => cases r; rfl
theorem RelV.inj {x y : V} {u : Value} (r : RelV x u) (q : RelV y u) : x = y := Option.some.inj (r.abs.symm.trans q.abs)
theorem Vals.inj : ∀ {xs ys : List V} {us : List Value}, Vals xs us -> Vals ys us -> xs = ys
 | _, _, _, .nil, .nil => rfl
 | _, _, _, .cons r t, .cons r' t' => by rw [r.inj r', Vals.inj t t']
section
variable {X : Cx} {pins : List (Addr × Obj)} {σ : St} {H : Hp} {s : Shared} {a : Addr} {xs ys : List V}
theorem SqL.of {K : Φρ} (h : H a = some (.lst xs)) : SqL K H a xs := .inl (.inl h)
theorem SqT.of {K : Φρ} (h : H a = some (.tup xs)) : SqT K H a xs := .inl (.inl h)
theorem Inv.list (I : Inv X pins σ H s) (h : SqL X.K H a xs) : ∃ its : List Value, Vals xs its /\ PlainL s.heap a its.toArray /\ xs.length <= sizeLine := by
 rcases h with h | ⟨o, its, n, hk, hc, hd, hs, hz, r⟩
 ·obtain ⟨z, its, n, r, e⟩ := h.ok I.hok
  exact ⟨its, r, ⟨_, n, e, rfl, rfl, rfl⟩, z⟩
 ·refine ⟨its.toList, r, ⟨o, n, I.kIn a o hk, hc, hd, by simpa using hs⟩, ?_⟩
  have e := r.length
  simp only [Array.length_toList] at e
  omega
theorem Inv.tuple (I : Inv X pins σ H s) (h : SqT X.K H a xs) : ∃ its : List Value, Vals xs its /\ IsTup s.heap a its.toArray /\ xs.length <= sizeLine := by
 rcases h with h | ⟨o, its, n, hk, hc, hs, hz, r⟩
 ·obtain ⟨z, its, r, p⟩ := h.ok I.hok
  exact ⟨its, r, p, z⟩
 ·refine ⟨its.toList, r, ⟨o, I.kIn a o hk, hc, n, by simpa using hs⟩, ?_⟩
  have e := r.length
  simp only [Array.length_toList] at e
  omega
theorem Inv.list_inj (I : Inv X pins σ H s) (h : SqL X.K H a xs) (h' : SqL X.K H a ys) : xs = ys := by
 obtain ⟨its, r, ⟨o, n, e, _, _, d⟩, _⟩ := I.list h
 obtain ⟨its', r', ⟨o', n', e', _, _, d'⟩, _⟩ := I.list h'
 rw [e] at e'; cases e'
 rw [d] at d'
 injection d' with d1 _
 have : its = its' := by simpa using congrArg Array.toList d1
 subst this
 exact r.inj r'
end
abbrev Cx.wish (X : Cx) (E : Value -> Shared -> Prop) : Cx := { X with xe := E }
abbrev Cx.nox (X : Cx) : Cx := X.wish fun _ _ => False
theorem Cx.Ok.wish {X : Cx} (ok : X.Ok) (E : Value -> Shared -> Prop) : (X.wish E).Ok :=
 ⟨ok.mod, ok.kind, ok.glob, ok.blt, ok.above, ok.inj, ok.has, ok.cab, ok.hd, ok.frames, ok.stk, ok.exf, ok.bs, ok.bsz, ok.noex, ok.exfs, ok.funs, ok.frf⟩
theorem Cx.Ok.unwish {X : Cx} {E : Value -> Shared -> Prop} (ok : (X.wish E).Ok) : X.Ok :=
 ⟨ok.mod, ok.kind, ok.glob, ok.blt, ok.above, ok.inj, ok.has, ok.cab, ok.hd, ok.frames, ok.stk, ok.exf, ok.bs, ok.bsz, ok.noex, ok.exfs, ok.funs, ok.frf⟩
section
variable {X : Cx} {pins : List (Addr × Obj)} {σ : St} {H : Hp} {s : Shared} {E : Value -> Shared -> Prop}
theorem Inv.wish (I : Inv X pins σ H s) (E : Value -> Shared -> Prop) : Inv (X.wish E) pins σ H s := ⟨I.ok.wish E, I.os, I.bare, I.base, I.loc, I.cell, I.free, I.freeC, I.pin, I.hok, I.len⟩
theorem Inv.unwish (I : Inv (X.wish E) pins σ H s) : Inv X pins σ H s := ⟨I.ok.unwish, I.os, I.bare, I.base, I.loc, I.cell, I.free, I.freeC, I.pin, I.hok, I.len⟩
theorem SP.unwish {D : Ends} {f : Flow} {s' : Shared} (h : SP (X.wish E) pins D f s') : SP X pins D f s' := by
 cases f with
 | next => obtain ⟨σ', H', I, q⟩ := h; exact ⟨σ', H', I.unwish, q⟩
 | brk => obtain ⟨σ', H', I, q⟩ := h; exact ⟨σ', H', I.unwish, q⟩
 | cont => obtain ⟨σ', H', I, q⟩ := h; exact ⟨σ', H', I.unwish, q⟩
 | ret u => obtain ⟨v, σ', H', I, r, q⟩ := h; exact ⟨v, σ', H', I.unwish, r, q⟩
theorem PSs.nox {st : List Stmt} {t : TS} (h : PSs X.nox st t) : PSs X st t := fun pins s σ H D I hw =>
 wpAny_mono (h pins s σ H D (I.wish _) hw) (fun _ _ q => q.unwish) fun _ _ z => False.elim z
end
section
variable {X : Cx} {st : Stmt} {rest : List Stmt} {t u : TS} {e : Expr} {te : TE} {pos : Pos}
def b6D : TS := fun D σ H => D.nx σ H
def tSeq (t u : TS) : TS := fun D σ H => t { D with nx := u D } σ H
theorem a0M : PSs X [] b6D := fun _ _ σ H _ I h => wpAny_execs_nil ⟨σ, H, I, h⟩
theorem a0C (h1 : PS X st t) (h2 : PSs X rest u) : PSs X (st :: rest) (tSeq t u) := by
 intro pins s σ H D I h
 refine wpAny_execs_cons (thn (h1 pins s σ H { D with nx := u D } I h) fun f s1 q => ?_)
 cases f with
 | next =>
  obtain ⟨σ', H', I', q⟩ := q
  exact h2 pins s1 σ' H' D I' q
 | ret v => exact q
 | brk => exact q
 | cont => exact q
theorem a0E (h1 : PS X st t) : PSs X [st] t := by
 intro pins s σ H D I h
 refine wpAny_execs_cons (thn (h1 pins s σ H D I h) fun f s1 q => ?_)
 cases f with
 | next => exact wpAny_execs_nil q
 | ret v => exact q
 | brk => exact q
 | cont => exact q
theorem Inv.quiet {pins : List (Addr × Obj)} {σ : St} {H : Hp} {s : Shared} (I : Inv X pins σ H s) : interactive X.env = false := by simp [interactive, I.ok.kind]
def c3G (te : TE) : TS := fun D σ H => te σ H fun _ H1 => D.nx σ H1
theorem a2H (he : PE X e te) (hs : swapsWith e none pos.line X.env = pure false := by rfl) : PS X (.Expr e pos) (c3G te) := by
 intro pins s σ H D I h
 exact wpAny_Expr_any (thn (he pins s σ H _ I h) fun v s1 ⟨x, H1, I1, r1, q1⟩ => ⟨σ, H1, I1, q1⟩) I.quiet hs
def tRet (te : TE) : TS := fun D σ H => te σ H D.rt
theorem a0J (he : PE X e te) : PS X (.Return (some e) pos) (tRet te) := by
 intro pins s σ H D I h
 exact wpAny_Return_some (thn (he pins s σ H _ I h) fun v s1 ⟨x, H1, I1, r1, q1⟩ => ⟨x, σ, H1, I1, r1, q1⟩)
def tIfS (c : TT) (t u : TS) : TS := fun D σ H => c σ H fun b H1 => if b = true then t D σ H1 else u D σ H1
theorem a1N {c : Expr} {a b : List Stmt} {tc : TT} (hc : PT X c tc) (ha : PSs X a t) (hb : PSs X b u) : PS X (.If c a b pos) (tIfS tc t u) := by
 intro pins s σ H D I h
 refine wpAny_If (thn (hc pins s σ H _ I h) fun d s1 ⟨H1, I1, q1⟩ => ?_)
 cases d with
 | true => exact ha pins s1 σ H1 D I1 q1
 | false => exact hb pins s1 σ H1 D I1 q1
def b8A : TS := fun _ _ _ => False
theorem a4Z : PS X st b8A := fun _ _ _ _ _ _ h => h.elim
theorem a1R {sts : List Stmt} : PSs X sts b8A := fun _ _ _ _ _ _ h => h.elim
end
abbrev TG := V -> St -> Hp -> (St -> Hp -> Prop) -> Prop
abbrev TGs := List V -> St -> Hp -> (St -> Hp -> Prop) -> Prop
def PG (X : Cx) (target : Expr) (t : TG) : Prop :=
 ∀ (pins : List (Addr × Obj)) (s : Shared) (σ : St) (H : Hp) (v : V) (u : Value) (Q : St -> Hp -> Prop), Inv X pins σ H s -> RelV v u -> t v σ H Q ->
  wpAny (model X.prog X.w) X.A (assign target X.env u) (fun _ s' => ∃ σ' H', Inv X pins σ' H' s' /\ Q σ' H') X.xe s
def PGs (X : Cx) (ts : List Expr) (t : TGs) : Prop :=
 ∀ (pins : List (Addr × Obj)) (s : Shared) (σ : St) (H : Hp) (vs : List V) (us : List Value) (Q : St -> Hp -> Prop), Inv X pins σ H s -> Vals vs us -> t vs σ H Q ->
  wpAny (model X.prog X.w) X.A (assignInOrder ((assignEach ts X.env).map (·.2)) us) (fun _ s' => ∃ σ' H', Inv X pins σ' H' s' /\ Q σ' H') X.xe s
abbrev TSet := V -> V -> V -> Hp -> (Hp -> Prop) -> Prop
def PSet (X : Cx) (t : TSet) : Prop :=
 ∀ (pins : List (Addr × Obj)) (s : Shared) (σ : St) (H : Hp) (o i v : V) (ov iv u : Value) (Q : Hp -> Prop), Inv X pins σ H s -> RelV o ov -> RelV i iv -> RelV v u -> t o i v H Q ->
  wpAny (model X.prog X.w) X.A (setItem ov iv u) (fun _ s' => ∃ H', Inv X pins σ H' s' /\ Q H') X.xe s
section
variable {X : Cx} {pos : Pos}
def b6E (i : Nat) : TG := fun v σ H Q => Q (σ.set i (some v)) H
theorem a0N {i : Nat} {x : Str} (hN : X.N.Nodup) (hi : X.N[i]? = some x) (hx : Loc X.env.scope x) (hf : X.fn x = true \/ X.env.scope.names.lookup x = some .local := by first | exact .inl rfl | exact .inr rfl | assumption) : PG X (.Name x pos) (b6E i) := by
 intro pins s σ H v u Q I r h
 exact wpAny_assign_Name (a7A I hN hi hx r (fun s' I' => ⟨_, H, I', h⟩) hf)
def gNil : TGs := fun vs σ H Q => vs = [] /\ Q σ H
def c3H (t : TG) (u : TGs) : TGs := fun vs σ H Q => ∃ v r, vs = v :: r /\ t v σ H fun σ' H' => u r σ' H' Q
theorem a9M : PGs X [] gNil := by
 intro pins s σ H vs us Q I r h
 obtain ⟨e, h⟩ := h
 subst e
 cases r
 exact assignInOrder_nil ⟨σ, H, I, h⟩
theorem a3B {e : Expr} {es : List Expr} {t : TG} {u : TGs} (h1 : PG X e t) (h2 : PGs X es u)
  (hs : (assignEach (e :: es) X.env).map (·.2) = assign e X.env :: (assignEach es X.env).map (·.2) := by rfl) : PGs X (e :: es) (c3H t u) := by
 intro pins s σ H vs us Q I r h
 obtain ⟨v, vr, e1, h⟩ := h
 subst e1
 cases r with
 | cons r rr =>
  rw [hs]
  refine assignInOrder_cons (thn (h1 pins s σ H _ _ _ I r h) fun _ s1 ⟨σ1, H1, I1, q1⟩ => ?_)
  exact h2 pins s1 σ1 H1 _ _ Q I1 rr q1
def gTup (K : Φρ) (n : Nat) (t : TGs) : TG := fun v σ H Q => ∃ a xs, v = .ref a /\ SqT K H a xs /\ xs.length = n /\ t xs σ H Q
theorem c1J {es : List Expr} {k : Nat} {t : TGs} {n : Nat} (hc : X.calm = true) (h : PGs X es t)
  (hn : (assignEach es X.env).length = n := by rfl) (hst : (assignEach es X.env).findIdx? (·.1) = none := by rfl) : PG X (.Tuple es k pos) (gTup X.K n t) := by
 intro pins s σ H v u Q I r hw
 obtain ⟨a, xs, e1, hq, hl, hw⟩ := hw
 subst e1
 cases r
 obtain ⟨its, rv, ht, hz⟩ := I.tuple hq
 refine assign_Tuple_tuple (I.ok.hd hc) ht (by simp [hn, <- hl, rv.length]) hst fun h' hx => ?_
 have I1 : Inv X pins σ H { s with heap := h' } := I.kept (t' := s.toks) fun b o e => hx b o (Nat.ne_of_lt (Heap.lt_size e)) e
 exact h pins _ σ H xs _ Q I1 (by simpa using rv) hw
def gSub (to ti : TE) (t : TSet) : TG := fun v σ H Q => to σ H fun o H1 => ti σ H1 fun i H2 => t o i v H2 fun H3 => Q σ H3
theorem b2Z {o i : Expr} {to ti : TE} {t : TSet} (ho : PE X o to) (hi : PE X i ti) (hs : PSet X t)
  (ha : ∀ v, assign (.Subscript o i pos) X.env v = (do
   let ov <- holding [v] (eval o X.env)
   let iv <- holding [v, ov] (eval i X.env)
   standAt pos
   holding [v, ov, iv] (setItem ov iv v)
   release [v, ov, iv] []) := by intro _; rfl) : PG X (.Subscript o i pos) (gSub to ti t) := by
 intro pins s σ H v u Q I r h
 rw [ha]
 refine wpAny_bind (wpAny_holding (thn (ho pins s σ H _ I h) fun ov s1 ⟨x, H1, I1, r1, q1⟩ => ?_))
 refine wpAny_bind (wpAny_holding (thn (hi pins s1 σ H1 _ I1 q1) fun iv s2 ⟨y, H2, I2, r2, q2⟩ => ?_))
 refine wpAny_bind (wpAny_standAt (wpAny_bind (wpAny_holding (thn (hs pins s2 σ H2 x y v ov iv u _ I2 r1 r2 r q2) fun _ s3 ⟨H3, I3, q3⟩ => ?_))))
 exact wpAny_release ⟨σ, H3, I3, q3⟩
def tAsg (te : TE) (g : TG) : TS := fun D σ H => te σ H fun x H1 => g x σ H1 D.nx
theorem b3A {tg e : Expr} {te : TE} {g : TG} (he : PE X e te) (hg : PG X tg g) (hs : swapsWithSole [tg] e pos.line X.env = pure false := by rfl) (hw : swappedStores [tg] e X.env = pure none := by rfl)
  (h1 : (assignEach [tg] X.env).map (·.2) = [assign tg X.env] := by rfl) : PS X (.Assign [tg] e pos) (tAsg te g) := by
 intro pins s σ H D I h
 refine wpAny_Assign_stores (thn (he pins s σ H _ I h) fun v s1 ⟨x, H1, I1, r1, q1⟩ => ?_) hs hw
 rw [h1]
 exact thn (hg pins s1 σ H1 x v _ I1 r1 q1) fun _ s2 q => q
theorem a0O {i : Nat} {x : Str} {e : Expr} {te : TE} {pos' : Pos} (hN : X.N.Nodup) (hi : X.N[i]? = some x) (hx : Loc X.env.scope x) (he : PE X e te) (hs : swapsWith e (some (.Name x pos')) pos.line X.env = pure false := by rfl) (hf : X.fn x = true \/ X.env.scope.names.lookup x = some .local := by first | exact .inl rfl | exact .inr rfl | assumption) :
  PS X (.Assign [.Name x pos'] e pos) (tAsg te (b6E i)) := by
 intro pins s σ H D I h
 refine wpAny_Assign_Name (thn (he pins s σ H _ I h) fun v s1 ⟨y, H1, I1, r1, q1⟩ => ?_) hs
 exact a7A I1 hN hi hx r1 (fun s2 I2 => ⟨_, H1, I2, q1⟩) hf
end
section
variable {X : Cx} {pos : Pos}
end
structure It where
 go : Nat -> Hp -> Prop
 yld : Nat -> Hp -> V -> Hp -> Prop
 stop : Nat -> Hp -> Prop
def FpOk (X : Cx) (pins : List (Addr × Obj)) (H : Hp) (b : Addr) : Prop :=
 H b = none /\ b ≠ X.env.locals /\ b ∉ X.fs /\ (b ∈ X.ex \/ X.s₀.heap.objs.size <= b) /\ (∀ x c, X.env.cells.lookup x = some c -> c ≠ b) /\ ∀ p ∈ X.pn ++ pins, p.1 ≠ b
theorem Inv.fpOk {X : Cx} {pins : List (Addr × Obj)} {σ : St} {H H' : Hp} {s : Shared} {b : Addr} (I : Inv X pins σ H s) (hb : s.heap.objs.size <= b) (hn : H' b = none) : FpOk X pins H' b := by
 refine ⟨hn, Nat.ne_of_gt (Nat.lt_of_lt_of_le I.lt hb), I.nofs hb, .inr (Nat.le_trans I.sz hb), fun x c e z => ?_, fun p hp z => ?_⟩
 ·obtain ⟨v, q⟩ := I.cell x c e
  exact absurd (Nat.lt_of_lt_of_le q.lt (by rw [z]; exact hb)) (Nat.lt_irrefl _)
 ·exact absurd (Nat.lt_of_lt_of_le (Heap.lt_size (I.pin p hp).1) (by rw [z]; exact hb)) (Nat.lt_irrefl _)
structure Turn (P : Program) (w : World) (K : Φρ) (tg : Expr) (J : It) (fp : List Addr) (it : Addr) (tn : Nat -> Heap -> Prop) : Prop where
 mem : it ∈ fp
 obj : ∀ i h, tn i h -> ∀ b ∈ fp, ∃ o, h.get? b = some o /\ ∀ v, o.data ≠ .cell v
 keep : ∀ i h h', tn i h -> (∀ b ∈ fp, ∀ o, h.get? b = some o -> h'.get? b = some o) -> tn i h'
 item : ∀ (X : Cx), X.prog = P -> X.w = w -> X.K = K -> X.calm = true -> ∀ (i : Nat) (pins : List (Addr × Obj)) (s : Shared) (σ : St) (H : Hp) (E : Value -> Shared -> Prop), Inv X pins σ H s -> (∀ b ∈ fp, FpOk X pins H b) -> tn i s.heap -> J.go i H ->
  wpAny (model P w) X.A (pyNext (.ref it)) (fun r s1 => ∃ u, r = some u /\
   wpAny (model P w) X.A (letOwnedTupleGo tg (.ref it) u) (fun _ s2 => ∃ x H', Inv X pins σ H' s2 /\ RelV x u /\ J.yld i H x H' /\ tn (i + 1) s2.heap /\ ∀ b ∈ fp, H' b = none) E s1) E s
 done : ∀ (X : Cx), X.prog = P -> X.w = w -> X.K = K -> X.calm = true -> ∀ (i : Nat) (pins : List (Addr × Obj)) (s : Shared) (σ : St) (H : Hp) (E : Value -> Shared -> Prop), Inv X pins σ H s -> (∀ b ∈ fp, FpOk X pins H b) -> tn i s.heap -> J.stop i H ->
  wpAny (model P w) X.A (pyNext (.ref it)) (fun r s1 => r = none /\ Inv X pins σ H s1) E s
 self : ∀ (A : Around) (i : Nat) (s : Shared) (Q : Value -> Shared -> Prop) (E : Value -> Shared -> Prop), tn i s.heap -> Q (.ref it) s -> wpAny (model P w) A (pyIter (.ref it)) Q E s
abbrev TI := St -> Hp -> (It -> Hp -> Prop) -> Prop
def PIE (X : Cx) (pins : List (Addr × Obj)) (σ : St) (tg : Expr) (R : It -> Hp -> Prop) (itv : Value) (s2 : Shared) : Prop :=
 ∃ (it : Addr) (fp : List Addr) (tn : Nat -> Heap -> Prop) (J : It) (H' : Hp), itv = .ref it /\ Inv X pins σ H' s2 /\ Turn X.prog X.w X.K tg J fp it tn /\ tn 0 s2.heap /\ (∀ b ∈ fp, FpOk X pins H' b) /\ R J H'
def PI (X : Cx) (tg iter : Expr) (wi : TI) : Prop :=
 ∀ (pins : List (Addr × Obj)) (s : Shared) (σ : St) (H : Hp) (R : It -> Hp -> Prop), Inv X pins σ H s -> wi σ H R ->
  wpAny (model X.prog X.w) X.A (eval iter X.env) (fun v s1 => wpAny (model X.prog X.w) X.A (pyIter v) (PIE X pins σ tg R) X.xe s1) X.xe s
theorem c1K {M : Model} {A : Around} {E : Value -> Shared -> Prop} {s : Shared} {tg : Expr} {it : Addr} {u : Value} {o : Obj} {n : String} {vs : Array Value} {Q : Unit -> Shared -> Prop} (ho : s.heap.get? it = some o) (hc : o.cls = .type n) (hd : o.data = .fields vs)
    (hn : ["enumerate", "zip", "dict_itemiterator", "dict_reverseitemiterator", "odict_iterator", "itertools.zip_longest", "itertools.pairwise"].contains n = false) (hQ : Q () s) : wpAny M A (letOwnedTupleGo tg (.ref it) u) Q E s := by
  unfold letOwnedTupleGo
  cases tg <;> first
    | exact wpAny_pure hQ
    | (cases u <;> first
        | exact wpAny_pure hQ
        | (refine wpAny_bind (wpAny_load ho ?_)
           rw [hc, hd]
           show wpAny M A (if (["enumerate", "zip", "dict_itemiterator", "dict_reverseitemiterator", "odict_iterator", "itertools.zip_longest", "itertools.pairwise"].contains n && vs[0]? == some (rawInt _)) = true then _ else _) Q E s
           rw [if_neg (by intro h; rw [hn, Bool.false_and] at h; cases h)]
           exact wpAny_pure hQ))
def Itl (K : Φρ) (a : Addr) : It :=
 ⟨fun i H => ∃ xs x, SqL K H a xs /\ xs[i]? = some x, fun i H x H' => H' = H /\ ∀ xs, SqL K H a xs -> xs[i]? = some x, fun i H => ∃ xs, SqL K H a xs /\ xs.length <= i⟩
def Itr (lo : Int) (n : Nat) : It := ⟨fun i _ => i < n, fun i H x H' => H' = H /\ x = .int (lo + i), fun i _ => n <= i⟩
theorem b3B {P : Program} {w : World} {K : Φρ} {tg : Expr} (a it : Addr) : Turn P w K tg (Itl K a) [it] it (fun i h => h.IsListIter it a i) where
 mem := by simp
 obj := fun i h st b hb => by
  have e : b = it := by simpa using hb
  subst e
  obtain ⟨o, e, c, d⟩ := st
  exact ⟨o, e, fun v z => by rw [d] at z; cases z⟩
 keep := fun i h h' st k => st.at fun o e => k it (by simp) o e
 item := by
  intro X hP hw hK hc i pins s σ H E I hf st hg
  subst hP hw hK
  obtain ⟨xs, x, hq, hx⟩ := hg
  obtain ⟨its, rv, p, hz⟩ := I.list hq
  obtain ⟨u, hu, ru⟩ := rv.get hx
  obtain ⟨f0, f1, f2, f3, f4, f5⟩ := hf it (by simp)
  refine wpAny_pyNext_list_item st p.isList (x := u) (by simpa using hu) fun h' st' sb => ?_
  have I1 : Inv X pins σ H { s with heap := h' } := I.turned (t' := s.toks) (fun b o hb e => (sb.2 b hb).trans e) f0 f1 f3 f4 f5
  obtain ⟨o, e, c, d⟩ := id st'
  exact ⟨u, rfl, c1K (s := { s with heap := h' }) e c d (by decide) ⟨x, H, I1, ru, ⟨rfl, fun ys hy => by rw [I.list_inj hy hq]; exact hx⟩, st', fun b hb => (hf b hb).1⟩⟩
 done := by
  intro X hP hw hK hc i pins s σ H E I hf st hg
  subst hP hw hK
  obtain ⟨xs, hq, hx⟩ := hg
  obtain ⟨its, rv, p, hz⟩ := I.list hq
  obtain ⟨f0, f1, f2, f3, f4, f5⟩ := hf it (by simp)
  have hl := rv.length
  exact wpAny_pyNext_list_end (I.ok.hd hc) st p.isList (by simp; omega) fun h' eb => ⟨rfl, I.turned (t' := s.toks) (fun b o hb e => eb b o hb e) f0 f1 f3 f4 f5⟩
 self := fun _ _ _ _ _ st h => wpAny_pyIter_listiter st h
theorem b2B {P : Program} {w : World} {K : Φρ} {tg : Expr} (it : Addr) (lo : Int) (n : Nat) : Turn P w K tg (Itr lo n) [it] it (fun i h => IsRangeIter h it (lo + (i : Nat) * 1) ((n : Int) - (i : Nat)) 1) where
 mem := by simp
 obj := fun i h st b hb => by
  have e : b = it := by simpa using hb
  subst e
  exact ⟨_, st, fun v z => by
   have z' : Data.fields _ = Data.cell v := z
   cases z'⟩
 keep := fun i h h' st k => k it (by simp) _ st
 item := by
  intro X hP hw hK hc i pins s σ H E I hf st hg
  subst hP hw hK
  obtain ⟨f0, f1, f2, f3, f4, f5⟩ := hf it (by simp)
  have W := Walks.range (prog := X.prog) (w := X.w) (I.ok.hd hc) it lo 1 n
  refine W.item i s _ _ hg st fun v h' tk hv st' kk => ?_
  obtain ⟨t, rfl⟩ := hv
  have I1 : Inv X pins σ H { s with heap := h', toks := tk } := I.turned (fun b o hb e => kk b o (by simpa using hb) e) f0 f1 f3 f4 f5
  refine ⟨_, rfl, c1K (s := { s with heap := h', toks := tk }) (n := "range_iterator") st' rfl rfl (by decide) ⟨.int (lo + i), H, I1, ⟨t, ?_⟩, ⟨rfl, rfl⟩, st', fun b hb => (hf b hb).1⟩⟩
  rw [Int.mul_one]
 done := by
  intro X hP hw hK hc i pins s σ H E I hf st hg
  subst hP hw hK
  obtain ⟨f0, f1, f2, f3, f4, f5⟩ := hf it (by simp)
  exact wpAny_pyNext_range_end (I.ok.hd hc) st (by have : n <= i := hg; omega) fun h' eb => ⟨rfl, I.turned (t' := s.toks) (fun b o hb e => eb b o hb e) f0 f1 f3 f4 f5⟩
 self := fun _ _ _ _ _ st h => wpAny_pyIter_rangeiter st h
end L2
namespace L2
open PySem PySem.Spec PyProof.Rows
section
variable {X : Cx} {tg : Expr}
def c1L (K : Φρ) (tl : TE) : TI := fun σ H R => tl σ H fun x H1 => ∃ a, x = .ref a /\ (∃ xs, SqL K H1 a xs) /\ R (Itl K a) H1
theorem b8R {l : Expr} {tl : TE} (hl : PE X l tl) : PI X tg l (c1L X.K tl) := by
 intro pins s σ H R I h
 refine thn (hl pins s σ H _ I h) fun v s1 ⟨x, H1, I1, r1, q1⟩ => ?_
 obtain ⟨a, e, ⟨xs, hq⟩, q⟩ := q1
 subst e
 cases r1
 obtain ⟨its, rv, p, hz⟩ := I1.list hq
 refine wpAny_pyIter_list p.isList ?_
 refine ⟨s1.heap.objs.size, [s1.heap.objs.size], _, _, H1, rfl, I1.kept (t' := s1.toks) fun b o e => Heap.get?_push_of_some _ e, b3B a _, ⟨_, Heap.get?_push_size _ rfl, rfl, rfl⟩, fun b hb => ?_, q⟩
 have e : b = s1.heap.objs.size := by simpa using hb
 subst e
 exact I1.fpOk (Nat.le_refl _) (I1.hok.fresh (Nat.le_refl _))
theorem b0S {pins : List (Addr × Obj)} {σ : St} {H : Hp} {s : Shared} {R : It -> Hp -> Prop} {E : Value -> Shared -> Prop} {lo hi : Int} {t u v : Tok} {tk : Nat} (I : Inv X pins σ H s) (h1 : -(2 ^ 62) <= lo) (h2 : lo < 2 ^ 62) (h3 : -(2 ^ 62) <= hi) (h4 : hi < 2 ^ 62)
  (q : R (Itr lo (hi - lo).toNat) H) : wpAny (model X.prog X.w) X.A (pyIter (.ref s.heap.objs.size)) (PIE X pins σ tg R) E { s with heap := s.heap.push { cls := .type "range", data := .fields #[.int lo t, .int hi u, .int 1 v] }, toks := tk } := by
 refine wpAny_pyIter_range (IsRange.new ..) (small_one h1 h2 h3 h4) ?_
 have I1 : Inv X pins σ H { s with heap := s.heap.push { cls := .type "range", data := .fields #[.int lo t, .int hi u, .int 1 v] }, toks := tk } := I.kept fun b o e => Heap.get?_push_of_some _ e
 refine ⟨(s.heap.push { cls := .type "range", data := .fields #[.int lo t, .int hi u, .int 1 v] }).objs.size, [(s.heap.push { cls := .type "range", data := .fields #[.int lo t, .int hi u, .int 1 v] }).objs.size], _, _, H, rfl,
  I1.kept (t' := tk) fun b o e => Heap.get?_push_of_some _ e, b2B _ lo (hi - lo).toNat, ?_, fun b hb => ?_, q⟩
 ·have e1 : lo + ((0 : Nat) : Int) * 1 = lo := by simp
  have e2 : (((hi - lo).toNat : Nat) : Int) - ((0 : Nat) : Int) = Builtin.Range.rangeSize lo hi 1 := by rw [rangeSize_one]; split <;> omega
  show IsRangeIter _ _ (lo + ((0 : Nat) : Int) * 1) ((((hi - lo).toNat : Nat) : Int) - ((0 : Nat) : Int)) 1
  rw [e1, e2]
  exact Heap.get?_push_size _ rfl
 ·have e : b = (s.heap.push { cls := .type "range", data := .fields #[.int lo t, .int hi u, .int 1 v] }).objs.size := by simpa using hb
  subst e
  exact I1.fpOk (Nat.le_refl _) (I1.hok.fresh (Nat.le_refl _))
def c3I (ta : TA) : TI := fun σ H R => ta σ H fun vs H1 => ∃ j : Int, vs = [.int j] /\ -(2 ^ 62) <= j /\ j < 2 ^ 62 /\ R (Itr 0 j.toNat) H1
def c3J (ta : TA) : TI := fun σ H R => ta σ H fun vs H1 => ∃ i j : Int, vs = [.int i, .int j] /\ (-(2 ^ 62) <= i /\ i < 2 ^ 62 /\ -(2 ^ 62) <= j /\ j < 2 ^ 62) /\ R (Itr i (j - i).toNat) H1
theorem a1Y {a : Expr} {ta : TA} {p pos : Pos} (hg : Gl X "range") (hm : X.mg "range" = none) (ha : PA X [a] ta) (hs : starEach [a] X.env = [(false, eval a X.env)] := by rfl) : PI X tg (.Call (.Name "range" p) [a] [] pos) (c3I ta) := by
 intro pins s σ H R I h
 refine Call_ (a4I I hg hm boot_range (PyProof.Rows.callWith_type1 (thn (ha pos pins s σ H _ I h) fun us s1 ⟨vs, H1, I1, r1, q1⟩ => ?_) hs rfl))
 obtain ⟨j, e, q1, q2, q⟩ := q1
 subst e
 cases r1 with
 | cons r rr =>
  cases rr
  obtain ⟨t, rfl⟩ := r
  exact call_range_1 (b0S I1 (by omega) (by omega) q1 q2 (by simpa using q))
theorem a7X {a b : Expr} {ta : TA} {p pos : Pos} (hg : Gl X "range") (hm : X.mg "range" = none) (ha : PA X [a, b] ta) (hs : starEach [a, b] X.env = [(false, eval a X.env), (false, eval b X.env)] := by rfl) (hs2 : starEach [b] X.env = [(false, eval b X.env)] := by rfl) :
  PI X tg (.Call (.Name "range" p) [a, b] [] pos) (c3J ta) := by
 intro pins s σ H R I h
 refine Call_ (a4I I hg hm boot_range (PyProof.Rows.callWith_type1 (thn (ha pos pins s σ H _ I h) fun us s1 ⟨vs, H1, I1, r1, q1⟩ => ?_) (by rw [hs, hs2]) (by rw [hs2]; rfl)))
 obtain ⟨i, j, e, ⟨q1, q2, q3, q4⟩, q⟩ := q1
 subst e
 cases r1 with
 | cons r rr =>
  cases rr with
  | cons r' rr =>
   cases rr
   obtain ⟨t, rfl⟩ := r
   obtain ⟨t', rfl⟩ := r'
   exact call_range_2 (b0S I1 q1 q2 q3 q4 q)
def tFor (wi : TI) (g : TG) (tb : TS) : TS := fun D σ H => wi σ H fun J H1 => ∃ W : Nat -> Nat -> St -> Hp -> Prop, (∃ m, W 0 m σ H1) /\ ∀ i m σ H, W i m σ H ->
 (J.stop i H /\ D.nx σ H) \/ (J.go i H /\ ∃ N : St -> Hp -> Prop, (∀ σ' H', N σ' H' -> ∃ m', m' < m /\ W (i + 1) m' σ' H') /\ ∀ x H', J.yld i H x H' -> g x σ H' fun σ2 H2 => tb { D with nx := N, ct := N, bk := D.nx } σ2 H2)
def a5J (fp : List Addr) (h : Heap) : List (Addr × Obj) := fp.filterMap fun b => (h.get? b).map fun o => (b, o)
theorem a3C {fp : List Addr} {h : Heap} {b : Addr} {o : Obj} (hb : b ∈ fp) (e : h.get? b = some o) : (b, o) ∈ a5J fp h := List.mem_filterMap.mpr ⟨b, hb, by rw [e]; rfl⟩
theorem b3C {fp : List Addr} {h : Heap} {p : Addr × Obj} (hp : p ∈ a5J fp h) : p.1 ∈ fp /\ h.get? p.1 = some p.2 := by
 obtain ⟨b, hb, e⟩ := List.mem_filterMap.mp hp
 cases q : h.get? b with
 | none => rw [q] at e; cases e
 | some o =>
  rw [q] at e
  have e' : (b, o) = p := Option.some.inj e
  subst e'
  exact ⟨hb, q⟩
theorem Inv.pinned {pins : List (Addr × Obj)} {σ : St} {H : Hp} {s : Shared} {fp : List Addr} (I : Inv X pins σ H s) (hf : ∀ b ∈ fp, FpOk X pins H b) (ho : ∀ b ∈ fp, ∃ o, s.heap.get? b = some o /\ ∀ v, o.data ≠ .cell v) : Inv X (pins ++ a5J fp s.heap) σ H s :=
 I.pins_of fun p hp => (List.mem_append.mp hp).elim (fun z => I.pin p (List.mem_append_right _ z)) fun z => by
  obtain ⟨hb, e⟩ := b3C z
  obtain ⟨f0, f1, f2, _⟩ := hf p.1 hb
  obtain ⟨o, e', d⟩ := ho p.1 hb
  rw [e] at e'; cases e'
  exact ⟨e, f0, f1, f2, d⟩
theorem Inv.unpinned {pins pl : List (Addr × Obj)} {σ : St} {H : Hp} {s : Shared} (I : Inv X (pins ++ pl) σ H s) : Inv X pins σ H s := I.pins_of fun p hp => I.pin p (List.mem_append_right _ (List.mem_append_left _ hp))
theorem a2S {iter : Expr} {body : List Stmt} {wi : TI} {g : TG} {tb : TS} {pos : Pos} (hp : PassesOwn (model X.prog X.w) X.A X.env X.xe) (hc : X.calm = true) (hi : PI X tg iter wi) (hg : PG X tg g) (hb : PSs X body tb)
  (hs : ∀ x, foldedSetIterable iter X.env x = pure x := by intro _; rfl) : PS X (.For tg iter body [] pos) (tFor wi g tb) := by
 intro pins s σ H D I h
 refine wpAny_For (thn (hi pins s σ H _ I h) fun v s1 h1 => thn h1 fun itv s2 h2 => ?_) hs
 obtain ⟨it, fp, tn, J, H2, e, I2, T, st2, f2, W, ⟨m0, w0⟩, turn⟩ := h2
 subst e
 have stat : ∀ {H' : Hp}, (∀ b ∈ fp, H' b = none) -> ∀ b ∈ fp, FpOk X pins H' b := fun hn b hb => ⟨hn b hb, (f2 b hb).2⟩
 refine codeAny_forLoop_any (fun n s' => ∃ i σ' H', Inv X pins σ' H' s' /\ tn i s'.heap /\ (∀ b ∈ fp, H' b = none) /\ W i n σ' H') ?_ m0 ⟨0, σ, H2, I2, st2, fun b hb => (f2 b hb).1, w0⟩
 rintro n s3 ⟨i, σ3, H3, I3, st3, fr3, w3⟩
 rcases turn i n σ3 H3 w3 with ⟨stop, qn⟩ | ⟨go, N, hN, step⟩
 ·refine wpAny_passesOwn hp (thn (T.done X rfl rfl rfl hc i pins s3 σ3 H3 X.xe I3 (stat fr3) st3 stop) fun r s4 ⟨hr, I4⟩ => ?_)
  subst hr
  exact wpAny_execs_nil ⟨σ3, H3, I4, qn⟩
 ·refine wpAny_passesOwn hp (thn (T.item X rfl rfl rfl hc i pins s3 σ3 H3 X.xe I3 (stat fr3) st3 go) fun r s4 ⟨u, hr, h4⟩ => ?_)
  subst hr
  refine wpAny_passesOwn hp (thn h4 fun _ s5 ⟨x, H5, I5, r5, y5, st5, fr5⟩ => ?_)
  have I5' := I5.pinned (stat fr5) (T.obj _ _ st5)
  refine wpAny_passesOwn hp (thn (hg _ s5 σ3 H5 x u _ I5' r5 (step x H5 y5)) fun _ s6 ⟨σ6, H6, I6, q6⟩ => ?_)
  refine wpAny_passesOwn hp (thn (hb _ s6 σ6 H6 _ I6 q6) fun f s7 q7 => ?_)
  have again : ∀ {σ7 : St} {H7 : Hp}, Inv X (pins ++ a5J fp s5.heap) σ7 H7 s7 -> N σ7 H7 -> ∃ m, m < n /\ ∃ i σ' H', Inv X pins σ' H' s7 /\ tn i s7.heap /\ (∀ b ∈ fp, H' b = none) /\ W i m σ' H' := fun {σ7 H7} I7 n7 => by
   obtain ⟨m', hm, w7⟩ := hN σ7 H7 n7
   refine ⟨m', hm, i + 1, σ7, H7, I7.unpinned, T.keep _ _ _ st5 fun b hb o e => (I7.pin (b, o) (List.mem_append_right _ (List.mem_append_right _ (a3C hb e)))).1, fun b hb => ?_, w7⟩
   obtain ⟨o, e, d⟩ := T.obj _ _ st5 b hb
   exact (I7.pin (b, o) (List.mem_append_right _ (List.mem_append_right _ (a3C hb e)))).2.1
  cases f with
  | next => obtain ⟨σ7, H7, I7, n7⟩ := q7; exact again I7 n7
  | cont => obtain ⟨σ7, H7, I7, n7⟩ := q7; exact again I7 n7
  | brk => obtain ⟨σ7, H7, I7, q7⟩ := q7; exact ⟨σ7, H7, I7.unpinned, q7⟩
  | ret v => obtain ⟨x7, σ7, H7, I7, r7, q7⟩ := q7; exact ⟨x7, σ7, H7, I7.unpinned, r7, q7⟩
end
theorem a5A {K : Φρ} {a : Addr} {xs : List V} {g : TG} {tb : TS} {D : Ends} {σ : St} {H : Hp} (Pv : Nat -> St -> Hp -> Prop) (h0 : Pv 0 σ H) (hl : ∀ i σ H, i <= xs.length -> Pv i σ H -> SqL K H a xs)
  (hs : ∀ i x σ H, xs[i]? = some x -> Pv i σ H -> g x σ H fun σ2 H2 => tb { D with nx := Pv (i + 1), ct := Pv (i + 1), bk := D.nx } σ2 H2) (hd : ∀ σ H, Pv xs.length σ H -> D.nx σ H) :
  ∃ W : Nat -> Nat -> St -> Hp -> Prop, (∃ m, W 0 m σ H) /\ ∀ i m σ H, W i m σ H ->
   ((Itl K a).stop i H /\ D.nx σ H) \/ ((Itl K a).go i H /\ ∃ N : St -> Hp -> Prop, (∀ σ' H', N σ' H' -> ∃ m', m' < m /\ W (i + 1) m' σ' H') /\ ∀ x H', (Itl K a).yld i H x H' -> g x σ H' fun σ2 H2 => tb { D with nx := N, ct := N, bk := D.nx } σ2 H2) := by
 refine ⟨fun i m σ H => m = xs.length - i /\ i <= xs.length /\ Pv i σ H, ⟨xs.length, by simp, Nat.zero_le _, h0⟩, ?_⟩
 rintro i m σ H ⟨rfl, hi, p⟩
 have q := hl i σ H hi p
 by_cases hlt : i < xs.length
 ·refine .inr ⟨⟨xs, xs[i], q, by simp [hlt]⟩, Pv (i + 1), fun σ' H' p' => ⟨xs.length - (i + 1), by omega, rfl, hlt, p'⟩, fun x H' y => ?_⟩
  obtain ⟨e, y⟩ := y
  subst e
  exact hs i x σ _ (y xs q) p
 ·have e : i = xs.length := by omega
  subst e
  exact .inl ⟨⟨xs, q, Nat.le_refl _⟩, hd σ H p⟩
theorem a2J {lo : Int} {n : Nat} {g : TG} {tb : TS} {D : Ends} {σ : St} {H : Hp} (Pv : Nat -> St -> Hp -> Prop) (h0 : Pv 0 σ H)
  (hs : ∀ i σ H, i < n -> Pv i σ H -> g (.int (lo + i)) σ H fun σ2 H2 => tb { D with nx := Pv (i + 1), ct := Pv (i + 1), bk := D.nx } σ2 H2) (hd : ∀ σ H, Pv n σ H -> D.nx σ H) :
  ∃ W : Nat -> Nat -> St -> Hp -> Prop, (∃ m, W 0 m σ H) /\ ∀ i m σ H, W i m σ H ->
   ((Itr lo n).stop i H /\ D.nx σ H) \/ ((Itr lo n).go i H /\ ∃ N : St -> Hp -> Prop, (∀ σ' H', N σ' H' -> ∃ m', m' < m /\ W (i + 1) m' σ' H') /\ ∀ x H', (Itr lo n).yld i H x H' -> g x σ H' fun σ2 H2 => tb { D with nx := N, ct := N, bk := D.nx } σ2 H2) := by
 refine ⟨fun i m σ H => m = n - i /\ i <= n /\ Pv i σ H, ⟨n, by simp, Nat.zero_le _, h0⟩, ?_⟩
 rintro i m σ H ⟨rfl, hi, p⟩
 by_cases hlt : i < n
 ·refine .inr ⟨hlt, Pv (i + 1), fun σ' H' p' => ⟨n - (i + 1), by omega, rfl, hlt, p'⟩, fun x H' y => ?_⟩
  obtain ⟨e, y⟩ := y
  subst e y
  exact hs i σ _ hlt p
 ·have e : i = n := by omega
  subst e
  exact .inl ⟨Nat.le_refl _, hd σ H p⟩
end L2
namespace L2
open PySem PySem.Spec PyProof.Rows
abbrev R2 := V -> V -> Hp -> VK -> Prop
def OpR (X : Cx) (f : Value -> Value -> Sem Value) (r : R2) : Prop :=
 ∀ (pins : List (Addr × Obj)) (s : Shared) (σ : St) (H : Hp) (x y : V) (v u : Value) (Q : VK), Inv X pins σ H s -> RelV x v -> RelV y u -> r x y H Q ->
  wpAny (model X.prog X.w) X.A (f v u) (EP X pins σ Q) X.xe s
def UnR (X : Cx) (f : Value -> Sem Value) (r : V -> Hp -> VK -> Prop) : Prop :=
 ∀ (pins : List (Addr × Obj)) (s : Shared) (σ : St) (H : Hp) (x : V) (v : Value) (Q : VK), Inv X pins σ H s -> RelV x v -> r x H Q ->
  wpAny (model X.prog X.w) X.A (f v) (EP X pins σ Q) X.xe s
def CallR (X : Cx) (f : Value) (r : List V -> Hp -> VK -> Prop) : Prop :=
 ∀ (pins : List (Addr × Obj)) (s : Shared) (σ : St) (H : Hp) (xs : List V) (us : List Value) (Q : VK), Inv X pins σ H s -> Vals xs us -> r xs H Q ->
  wpAny (model X.prog X.w) X.A (call f us) (EP X pins σ Q) X.xe s
def TruR (X : Cx) (r : V -> Hp -> (Bool -> Hp -> Prop) -> Prop) : Prop :=
 ∀ (pins : List (Addr × Obj)) (s : Shared) (σ : St) (H : Hp) (x : V) (v : Value) (Q : Bool -> Hp -> Prop), Inv X pins σ H s -> RelV x v -> r x H Q ->
  wpAny (model X.prog X.w) X.A (truthy v) (TP X pins σ Q) X.xe s
def tOp (r : R2) (ta tb : TE) : TE := fun σ H Q => ta σ H fun x H1 => tb σ H1 fun y H2 => r x y H2 Q
def tUn (r : V -> Hp -> VK -> Prop) (ta : TE) : TE := fun σ H Q => ta σ H fun x H1 => r x H1 Q
def rI (C : Int -> Int -> Prop) (g : Int -> Int -> V) : R2 := fun x y H Q => ∃ i j, x = .int i /\ y = .int j /\ C i j /\ Q (g i j) H
def rI0 (g : Int -> Int -> V) : R2 := fun x y H Q => ∃ i j, x = .int i /\ y = .int j /\ Q (g i j) H
def rU (g : Int -> V) : V -> Hp -> VK -> Prop := fun x H Q => ∃ i, x = .int i /\ Q (g i) H
section
variable {X : Cx} {a b c : Expr} {ta tb tc : TE} {pos : Pos}
theorem binT (ha : PE X a ta) (hb : PE X b tb) {pins : List (Addr × Obj)} {s : Shared} {σ : St} {H : Hp} {R : V -> V -> Hp -> Prop} (I : Inv X pins σ H s)
  (h : ta σ H fun x H1 => tb σ H1 fun y H2 => R x y H2) {Q : Value -> Shared -> Prop} {f : Value -> Value -> Sem Value}
  (hf : ∀ v u s2 x y H2, Inv X pins σ H2 s2 -> RelV x v -> RelV y u -> R x y H2 -> wpAny (model X.prog X.w) X.A (f v u) Q X.xe s2) :
  wpAny (model X.prog X.w) X.A (eval a X.env) (fun v s₁ => wpAny (model X.prog X.w) X.A (eval b X.env) (fun u s₂ => wpAny (model X.prog X.w) X.A (f v u) Q X.xe s₂) X.xe s₁) X.xe s := by
 refine thn (ha pins s σ H _ I h) fun v s1 ⟨x, H1, I1, r1, q1⟩ => ?_
 refine thn (hb pins s1 σ H1 _ I1 q1) fun u s2 ⟨y, H2, I2, r2, q2⟩ => ?_
 exact hf v u s2 x y H2 I2 r1 r2 q2
theorem a0H {op : Operator} {r : R2} (ho : OpR X (binaryOp op) r) (ha : PE X a ta) (hb : PE X b tb) : PE X (.BinOp a op b pos) (tOp r ta tb) := by
 intro pins s σ H Q I h
 exact wpAny_BinOp (binT ha hb I h fun v u s2 x y H2 I2 rx ry q => ho pins s2 σ H2 x y v u Q I2 rx ry q)
theorem b2C {op : UnaryOp} {r : V -> Hp -> VK -> Prop} (ho : UnR X (unaryOp op) r) (ha : PE X a ta) : PE X (.UnaryOp op a pos) (tUn r ta) := by
 intro pins s σ H Q I h
 exact UnaryOp_ (thn (ha pins s σ H _ I h) fun v s1 ⟨x, H1, I1, r1, q1⟩ => ho pins s1 σ H1 x v Q I1 r1 q1)
theorem opI {f : Value -> Value -> Sem Value} {C : Int -> Int -> Prop} {g : Int -> Int -> Int}
  (rule : ∀ (i j : Int) (t u : Tok) (s : Shared) (Q : Value -> Shared -> Prop) (E : Value -> Shared -> Prop), C i j -> Q (.int (g i j) s.toks) { s with toks := s.toks + 1 } -> wpAny (model X.prog X.w) X.A (f (.int i t) (.int j u)) Q E s) :
  OpR X f (rI C fun i j => .int (g i j)) := by
 intro pins s σ H x y v u Q I rx ry h
 obtain ⟨i, j, rfl, rfl, hc, q⟩ := h
 obtain ⟨t, rfl⟩ := rx
 obtain ⟨t', rfl⟩ := ry
 exact rule i j t t' s _ _ hc ⟨.int (g i j), H, I.tok _, ⟨_, rfl⟩, q⟩
theorem opI0 {f : Value -> Value -> Sem Value} {g : Int -> Int -> Int}
  (rule : ∀ (i j : Int) (t u : Tok) (s : Shared) (Q : Value -> Shared -> Prop) (E : Value -> Shared -> Prop), Q (.int (g i j) s.toks) { s with toks := s.toks + 1 } -> wpAny (model X.prog X.w) X.A (f (.int i t) (.int j u)) Q E s) :
  OpR X f (rI0 fun i j => .int (g i j)) := by
 intro pins s σ H x y v u Q I rx ry h
 obtain ⟨i, j, rfl, rfl, q⟩ := h
 obtain ⟨t, rfl⟩ := rx
 obtain ⟨t', rfl⟩ := ry
 exact rule i j t t' s _ _ ⟨.int (g i j), H, I.tok _, ⟨_, rfl⟩, q⟩
theorem opB0 {f : Value -> Value -> Sem Value} {g : Int -> Int -> Bool}
  (rule : ∀ (i j : Int) (t u : Tok) (s : Shared) (Q : Value -> Shared -> Prop) (E : Value -> Shared -> Prop), Q (.bool (g i j)) s -> wpAny (model X.prog X.w) X.A (f (.int i t) (.int j u)) Q E s) :
  OpR X f (rI0 fun i j => .bl (g i j)) := by
 intro pins s σ H x y v u Q I rx ry h
 obtain ⟨i, j, rfl, rfl, q⟩ := h
 obtain ⟨t, rfl⟩ := rx
 obtain ⟨t', rfl⟩ := ry
 exact rule i j t t' s _ _ ⟨.bl (g i j), H, I, rfl, q⟩
def CDiv (i j : Int) : Prop := 0 < j /\ j < 1073741824
def CPow (i j : Int) : Prop := 0 <= j /\ j <= 1000000 /\ i.natAbs < 2 ^ 64
def CMul (i j : Int) : Prop := (-(2 ^ 64) < i /\ i < 2 ^ 64) \/ (-(2 ^ 64) < j /\ j < 2 ^ 64)
theorem CMul.ok {i j : Int} (h : CMul i j) : IntMulOk i j := by
 rcases h with ⟨h1, h2⟩ | ⟨h1, h2⟩
 ·exact .of_left (intBits_le_64 h1 h2)
 ·exact .of_right (intBits_le_64 h1 h2)
theorem a1Z : OpR X (binaryOp .Add) (rI0 fun i j => .int (i + j)) := opI0 fun _ _ _ _ _ _ _ q => add_int q
theorem a2T : OpR X (binaryOp .Sub) (rI0 fun i j => .int (i - j)) := opI0 fun _ _ _ _ _ _ _ q => sub_int q
theorem a3M : OpR X (binaryOp .Mult) (rI CMul fun i j => .int (i * j)) := opI fun _ _ _ _ _ _ _ hc q => mul_int q hc.ok
theorem b8S : OpR X (binaryOp .FloorDiv) (rI CDiv fun i j => .int (i / j)) := opI fun i j _ _ _ _ _ hc q => by
 have h1 : (0 : Int) < j := hc.1
 have h2 : j < 1073741824 := hc.2
 exact floordiv_int (by omega) (by rw [Int.fdiv_eq_ediv_of_nonneg i (by omega)]; exact q) (.inl (PyProof.noPylong_small (by omega)))
theorem a1M : OpR X (binaryOp .Mod) (rI (fun _ j => 0 < j) fun i j => .int (i % j)) := opI fun i j _ _ _ _ _ hc q => by
 have h1 : (0 : Int) < j := hc
 exact mod_int' (by omega) (by rw [Int.fmod_eq_emod_of_nonneg i (by omega)]; exact q)
theorem a7Y : OpR X (binaryOp .LShift) (rI CPow fun i j => .int (i * 2 ^ j.toNat)) := opI fun _ _ _ _ _ _ _ hc q => lshift_int_small hc.1 hc.2.1 hc.2.2 q
theorem b8B : OpR X (binaryOp .BitAnd) (rI0 fun i j => .int (Builtin.bitAnd i j)) := opI0 fun _ _ _ _ _ _ _ q => and_int q
theorem b8T : OpR X (binaryOp .BitOr) (rI0 fun i j => .int (Builtin.bitOr i j)) := opI0 fun _ _ _ _ _ _ _ q => or_int q
theorem unI {f : Value -> Sem Value} {g : Int -> Int}
  (rule : ∀ (i : Int) (t : Tok) (s : Shared) (Q : Value -> Shared -> Prop) (E : Value -> Shared -> Prop), Q (.int (g i) s.toks) { s with toks := s.toks + 1 } -> wpAny (model X.prog X.w) X.A (f (.int i t)) Q E s) :
  UnR X f (rU fun i => .int (g i)) := by
 intro pins s σ H x v Q I rx h
 obtain ⟨i, rfl, q⟩ := h
 obtain ⟨t, rfl⟩ := rx
 exact rule i t s _ _ ⟨.int (g i), H, I.tok _, ⟨_, rfl⟩, q⟩
theorem a6N : UnR X (unaryOp .USub) (rU fun i => .int (-i)) := unI fun _ _ _ _ _ q => neg_int q
end
def scal : V -> V -> Bool
 | .non, .non => true | .non, .int _ => true | .int _, .non => true | .non, .bl _ => true | .bl _, .non => true | .non, .str _ => true | .str _, .non => true
 | .int _, .int _ => true | .bl _, .bl _ => true | .str _, .str _ => true | .byt _, .byt _ => true
 | .int _, .str _ => true | .str _, .int _ => true | .bl _, .str _ => true | .str _, .bl _ => true
 | _, _ => false
def rEq : R2 := fun x y H Q => scal x y = true /\ Q (.bl (decide (x = y))) H
def rNe : R2 := fun x y H Q => scal x y = true /\ Q (.bl (!decide (x = y))) H
theorem b3D {i j : Int} : decide (V.int i = V.int j) = (i == j) := by
 rw [Bool.eq_iff_iff]
 simp
theorem b8C {i j : Bool} : decide (V.bl i = V.bl j) = (i == j) := by
 rw [Bool.eq_iff_iff]
 simp
theorem b3E {i j : Str} : decide (V.str i = V.str j) = (i == j) := by
 rw [Bool.eq_iff_iff]
 simp
theorem b3F {i j : Array UInt8} : decide (V.byt i = V.byt j) = (i.toList == j.toList) := by
 rw [Bool.eq_iff_iff]
 cases i
 cases j
 simp
section
variable {X : Cx} {a b c : Expr} {ta tb tc : TE} {pos : Pos}
theorem a0R {pins : List (Addr × Obj)} {σ : St} {H : Hp} {s : Shared} {Q : VK} {k k' : Bool} (I : Inv X pins σ H s) (q : Q (.bl k) H) (e : k = k') : EP X pins σ Q (.bool k') s := by
 subst e
 exact ⟨.bl k, H, I, rfl, q⟩
theorem a2U : OpR X (compareOp .Eq) rEq := by
 intro pins s σ H x y v u Q I rx ry h
 obtain ⟨hs, q⟩ := h
 cases x with
 | non =>
  cases rx
  cases y with
  | non => cases ry; exact PySem.EqNone.eq_none_none (a0R I q (by simp))
  | bl j => cases ry; exact PySem.EqNone.eq_none_bool (a0R I q (by simp))
  | int j => obtain ⟨t', rfl⟩ := ry; exact PySem.EqNone.eq_none_int (a0R I q (by simp))
  | str j => obtain ⟨t', rfl⟩ := ry; exact PySem.EqNone.eq_none_str (a0R I q (by simp))
  | _ => exact absurd (show false = true from hs) Bool.false_ne_true
 | bl i =>
  cases rx
  cases y with
  | non => cases ry; exact PySem.EqNone.eq_bool_none (a0R I q (by simp))
  | bl j => cases ry; exact eq_bool (a0R I q b8C)
  | str j => obtain ⟨t', rfl⟩ := ry; exact PySem.EqMixed.eq_bool_str (a0R I q (by simp))
  | _ => exact absurd (show false = true from hs) Bool.false_ne_true
 | int i =>
  obtain ⟨t, rfl⟩ := rx
  cases y with
  | non => cases ry; exact PySem.EqNone.eq_int_none (a0R I q (by simp))
  | int j => obtain ⟨t', rfl⟩ := ry; exact eq_int (a0R I q b3D)
  | str j => obtain ⟨t', rfl⟩ := ry; exact PySem.EqMixed.eq_int_str (a0R I q (by simp))
  | _ => exact absurd (show false = true from hs) Bool.false_ne_true
 | str i =>
  obtain ⟨t, rfl⟩ := rx
  cases y with
  | non => cases ry; exact PySem.EqNone.eq_str_none (a0R I q (by simp))
  | bl j => cases ry; exact PySem.EqMixed.eq_str_bool (a0R I q (by simp))
  | int j => obtain ⟨t', rfl⟩ := ry; exact PySem.EqMixed.eq_str_int (a0R I q (by simp))
  | str j => obtain ⟨t', rfl⟩ := ry; exact eq_str (a0R I q b3E)
  | _ => exact absurd (show false = true from hs) Bool.false_ne_true
 | byt i =>
  obtain ⟨t, rfl⟩ := rx
  cases y with
  | byt j => obtain ⟨t', rfl⟩ := ry; exact PySem.W.eq_bytes (a0R I q b3F)
  | _ => exact absurd (show false = true from hs) Bool.false_ne_true
 | _ => cases y <;> exact absurd (show false = true from hs) Bool.false_ne_true
theorem c1M : OpR X (compareOp .NotEq) rNe := by
 intro pins s σ H x y v u Q I rx ry h
 obtain ⟨hs, q⟩ := h
 cases x with
 | non =>
  cases rx
  cases y with
  | non => cases ry; exact PySem.EqNone.ne_none_none (a0R I q (by simp))
  | bl j => cases ry; exact PySem.EqNone.ne_none_bool (a0R I q (by simp))
  | int j => obtain ⟨t', rfl⟩ := ry; exact PySem.EqNone.ne_none_int (a0R I q (by simp))
  | str j => obtain ⟨t', rfl⟩ := ry; exact PySem.EqNone.ne_none_str (a0R I q (by simp))
  | _ => exact absurd (show false = true from hs) Bool.false_ne_true
 | bl i =>
  cases rx
  cases y with
  | non => cases ry; exact PySem.EqNone.ne_bool_none (a0R I q (by simp))
  | bl j => cases ry; exact ne_bool (a0R I q (congrArg not b8C))
  | str j => obtain ⟨t', rfl⟩ := ry; exact PySem.EqMixed.ne_bool_str (a0R I q (by simp))
  | _ => exact absurd (show false = true from hs) Bool.false_ne_true
 | int i =>
  obtain ⟨t, rfl⟩ := rx
  cases y with
  | non => cases ry; exact PySem.EqNone.ne_int_none (a0R I q (by simp))
  | int j => obtain ⟨t', rfl⟩ := ry; exact ne_int (a0R I q (congrArg not b3D))
  | str j => obtain ⟨t', rfl⟩ := ry; exact PySem.EqMixed.ne_int_str (a0R I q (by simp))
  | _ => exact absurd (show false = true from hs) Bool.false_ne_true
 | str i =>
  obtain ⟨t, rfl⟩ := rx
  cases y with
  | non => cases ry; exact PySem.EqNone.ne_str_none (a0R I q (by simp))
  | bl j => cases ry; exact PySem.EqMixed.ne_str_bool (a0R I q (by simp))
  | int j => obtain ⟨t', rfl⟩ := ry; exact PySem.EqMixed.ne_str_int (a0R I q (by simp))
  | str j => obtain ⟨t', rfl⟩ := ry; exact ne_str (a0R I q (congrArg not b3E))
  | _ => exact absurd (show false = true from hs) Bool.false_ne_true
 | byt i =>
  obtain ⟨t, rfl⟩ := rx
  cases y with
  | byt j => obtain ⟨t', rfl⟩ := ry; exact PySem.W.ne_bytes (a0R I q (congrArg not b3F))
  | _ => exact absurd (show false = true from hs) Bool.false_ne_true
 | _ => cases y <;> exact absurd (show false = true from hs) Bool.false_ne_true
theorem b8U : OpR X (compareOp .Lt) (rI0 fun i j => .bl (decide (i < j))) := opB0 fun _ _ _ _ _ _ _ q => lt_int q
theorem c3K : OpR X (compareOp .LtE) (rI0 fun i j => .bl (decide (i <= j))) := opB0 fun _ _ _ _ _ _ _ q => le_int q
theorem b6F : OpR X (compareOp .Gt) (rI0 fun i j => .bl (decide (j < i))) := opB0 fun _ _ _ _ _ _ _ q => gt_int q
theorem a0Q (b : Expr) {op : CmpOp} (h : op ≠ .In := by decide) (h2 : op ≠ .NotIn := by decide) : behindInMarks op b = false := by
 have e1 : (op == CmpOp.In) = false := by cases op <;> first | rfl | exact absurd rfl h
 have e2 : (op == CmpOp.NotIn) = false := by cases op <;> first | rfl | exact absurd rfl h2
 cases b <;> simp [behindInMarks, e1, e2]
theorem a4C {op : CmpOp} {r : R2} (ho : OpR X (compareOp op) r) (ha : PE X a ta) (hb : PE X b tb) (hm : behindInMarks op b = false) : PE X (.Compare a [op] [b] pos) (tOp r ta tb) := by
 intro pins s σ H Q I h
 exact wpAny_Compare1 (binT ha hb I h fun v u s2 x y H2 I2 rx ry q => ho pins s2 σ H2 x y v u Q I2 rx ry q) hm
def c3L (t : TE) : TT := fun σ H Q => t σ H fun x H' => ∃ k, x = .bl k /\ Q k H'
theorem a0L {op : CmpOp} {r : R2} (ho : OpR X (compareOp op) r) (ha : PE X a ta) (hb : PE X b tb) (hm : behindInMarks op b = false) : PT X (.Compare a [op] [b] pos) (c3L (tOp r ta tb)) := by
 intro pins s σ H Q I h
 refine wpAny_isTrue_Compare1 (thn (ha pins s σ H _ I h) fun v s1 ⟨x, H1, I1, r1, q1⟩ => thn (hb pins s1 σ H1 _ I1 q1) fun u s2 ⟨y, H2, I2, r2, q2⟩ =>
  thn (ho pins s2 σ H2 x y v u _ I2 r1 r2 q2) fun c s3 ⟨z, H3, I3, r3, k, e, q3⟩ => ?_) hm
 subst e
 cases r3
 exact wpAny_truthy_bool ⟨H3, I3, q3⟩
def c1N (r r' : R2) (ta tb tc : TE) : TE := fun σ H Q => ta σ H fun x H1 => tb σ H1 fun y H2 => r x y H2 fun z H3 => ∃ k, z = .bl k /\
 (if k = true then tc σ H3 fun w' H4 => r' y w' H4 Q else Q (.bl false) H3)
theorem b6G {op op' : CmpOp} {r r' : R2} (ho : OpR X (compareOp op) r) (ho' : OpR X (compareOp op') r') (ha : PE X a ta) (hb : PE X b tb) (hc : PE X c tc)
  (hm : lastMarks [op, op'] [b, c] = false := by with_unfolding_all rfl) : PE X (.Compare a [op, op'] [b, c] pos) (c1N r r' ta tb tc) := by
 intro pins s σ H Q I h
 refine Compare_chain (thn (ha pins s σ H _ I h) fun v s1 ⟨x, H1, I1, r1, q1⟩ => chain_link (thn (hb pins s1 σ H1 _ I1 q1) fun u s2 ⟨y, H2, I2, r2, q2⟩ =>
  thn (ho pins s2 σ H2 x y v u _ I2 r1 r2 q2) fun d s3 ⟨z, H3, I3, r3, k, e, q3⟩ => ?_)) hm
 subst e
 cases r3
 refine wpAny_truthy_bool ?_
 cases k with
 | false => exact ite_ff ⟨.bl false, H3, I3, rfl, q3⟩
 | true => exact ite_tt (chain_last (thn (hc pins s3 σ H3 _ I3 q3) fun w' s4 ⟨z', H4, I4, r4, q4⟩ => ho' pins s4 σ H4 y z' u w' Q I4 r2 r4 q4))
def TruV (K : Φρ) (x : V) (H : Hp) (k : Bool) : Prop :=
 match x with
 | .non => k = false
 | .bl b => k = b
 | .int i => k = (i != 0)
 | .str y => y.length <= sizeLine /\ k = ((y.length : Int) != 0)
 | .byt y => y.size <= sizeLine /\ k = ((y.size : Int) != 0)
 | .ref p => (∃ xs, SqL K H p xs /\ k = !xs.isEmpty) \/ (∃ xs, SqT K H p xs /\ k = !xs.isEmpty) \/ ∃ kvs, H p = some (.dK kvs) /\ k = !kvs.isEmpty
 | _ => False
theorem b2D {κ : Type} {kvs : List (κ × V)} {vs : List (κ × Value)} (r : KV kvs vs) : (!vs.isEmpty) = !kvs.isEmpty := by
 cases r <;> rfl
theorem a6O {xs : List V} {its : List Value} (r : Vals xs its) : (!its.toArray.isEmpty) = !xs.isEmpty := by
 cases r <;> simp
theorem a7Z : (sizeLine : Nat) < 2 ^ 63 := by rw [sizeLine_eq]; decide
theorem b8D : TruR X (fun x H Q => ∃ k, TruV X.K x H k /\ Q k H) := by
 intro pins s σ H x v Q I rx h
 obtain ⟨k, e, q⟩ := h
 have hl := a7Z
 have hs : sizeLine = 16777216 := sizeLine_eq
 cases x with
 | non =>
  cases rx
  have e' : k = false := e
  subst e'
  exact truthy_none ⟨H, I, q⟩
 | bl b =>
  cases rx
  have e' : k = b := e
  subst e'
  exact wpAny_truthy_bool ⟨H, I, q⟩
 | int i =>
  obtain ⟨t, rfl⟩ := rx
  have e' : k = (i != 0) := e
  subst e'
  exact PySem.P.truthy_int ⟨H, I, q⟩
 | str y =>
  obtain ⟨t, rfl⟩ := rx
  obtain ⟨hy, e'⟩ : y.length <= sizeLine /\ k = ((y.length : Int) != 0) := e
  subst e'
  exact PySem.P.truthy_str (by omega) ⟨H, I.tok _, q⟩
 | byt y =>
  obtain ⟨t, rfl⟩ := rx
  obtain ⟨hy, e'⟩ : y.size <= sizeLine /\ k = ((y.size : Int) != 0) := e
  subst e'
  exact PySem.W.truthy_bytes (by omega) ⟨H, I.tok _, q⟩
 | ref p =>
  cases rx
  have e' : (∃ xs, SqL X.K H p xs /\ k = !xs.isEmpty) \/ (∃ xs, SqT X.K H p xs /\ k = !xs.isEmpty) \/ ∃ kvs, H p = some (.dK kvs) /\ k = !kvs.isEmpty := e
  rcases e' with ⟨xs, hx, e'⟩ | ⟨xs, hx, e'⟩ | ⟨kvs, hx, e'⟩
  ·subst e'
   obtain ⟨its, r, pl, hz⟩ := I.list hx
   have hlen := r.length
   exact wpAny_truthy_list pl.isList (by simp only [List.size_toArray]; omega) ⟨H, I.tok _, by rw [a6O r]; exact q⟩
  ·subst e'
   obtain ⟨its, r, pl, hz⟩ := I.tuple hx
   have hlen := r.length
   exact truthy_tuple pl (by simp only [List.size_toArray]; omega) ⟨H, I.tok _, by rw [a6O r]; exact q⟩
  ·subst e'
   obtain ⟨hz, hS, vs, r, m⟩ : kvs.length <= sizeLine /\ (p == sysModules) = false /\ ∃ vs, KV kvs vs /\ s.heap.DictOf (a9K X.prog X.w) p vs := I.hok p _ hx
   have hlen : kvs.length = vs.length := Paired.length r
   exact wpAny_truthy_dict hS m (by omega) ⟨H, I.tok _, by rw [b2D r]; exact q⟩
 | _ => exact (show False from e).elim
theorem b6H (ha : PE X a ta) (he : ∀ whole, isTrue a X.env whole = (do let v <- whole; standAt a.pos; holding [v] (truthy v))) :
  PT X a (fun σ H Q => ta σ H fun x H' => ∃ k, TruV X.K x H' k /\ Q k H') := by
 intro pins s σ H Q I h
 exact isTrue_plain (thn (ha pins s σ H _ I h) fun v s1 ⟨x, H1, I1, r1, q1⟩ => b8D pins s1 σ H1 x v Q I1 r1 q1) (he _)
theorem a4X {x : V} {us : List Value} (r : Vals [x] us) : ∃ u, us = [u] /\ RelV x u := by
 cases r with
 | cons r1 r2 => cases r2; exact ⟨_, rfl, r1⟩
theorem b2E {x y : V} {us : List Value} (r : Vals [x, y] us) : ∃ u w', us = [u, w'] /\ RelV x u /\ RelV y w' := by
 cases r with
 | cons r1 r2 =>
  cases r2 with
  | cons r3 r4 => cases r4; exact ⟨_, _, rfl, r1, r3⟩
theorem b3G (hc : X.calm = true) : CallR X (.builtin "max") (fun xs H Q => ∃ i j, xs = [.int i, .int j] /\ Q (.int (if j > i then j else i)) H) := by
 intro pins s σ H xs us Q I r h
 obtain ⟨i, j, rfl, q⟩ := h
 obtain ⟨u, w', rfl, ⟨t, rfl⟩, ⟨t', rfl⟩⟩ := b2E r
 refine max_two_ints (I.ok.hd hc) fun h' tk k => ⟨_, H, I.kept k, ?_, q⟩
 by_cases hj : j > i
 ·rw [if_pos hj, if_pos hj]; exact ⟨_, rfl⟩
 ·rw [if_neg hj, if_neg hj]; exact ⟨_, rfl⟩
theorem b3H (hc : X.calm = true) : CallR X (.builtin "min") (fun xs H Q => ∃ i j, xs = [.int i, .int j] /\ Q (.int (if j < i then j else i)) H) := by
 intro pins s σ H xs us Q I r h
 obtain ⟨i, j, rfl, q⟩ := h
 obtain ⟨u, w', rfl, ⟨t, rfl⟩, ⟨t', rfl⟩⟩ := b2E r
 refine min_two_ints (I.ok.hd hc) fun h' tk k => ⟨_, H, I.kept k, ?_, q⟩
 by_cases hj : j < i
 ·rw [if_pos hj, if_pos hj]; exact ⟨_, rfl⟩
 ·rw [if_neg hj, if_neg hj]; exact ⟨_, rfl⟩
end
end L2
namespace L2
open PySem PySem.Spec PyProof.Rows
structure ObjM (h : Heap) (x dx C : Addr) (mA : Str -> Option Value) : Prop where
 obj : h.get? x = some (PySem.W.instObj C dx)
 ns : h.Ns1 dx mA
 ne : dx ≠ x
theorem b3I {h : Heap} {dx : Addr} {mA : Str -> Option Value} (n : h.Ns1 dx mA) : ∃ od, h.get? dx = some od /\ ∀ name, PySem.W.lookIn name od = some (mA name) := by
 obtain ⟨o, es, ep, ho, hd, hk, _, hm⟩ := n
 refine ⟨o, ho, fun name => ?_⟩
 have e := hm name
 unfold nsFind findBy at e
 rw [<- Array.find?_toList] at e
 unfold PySem.W.lookIn
 rw [hd]
 dsimp only
 split
 ·rename_i y q
  rw [q] at e
  exact congrArg some e
 ·rename_i q
  rw [q] at e
  have a : es.toList.any (·.refKey) = false := by
   rw [List.any_eq_false]
   intro y hy
   obtain ⟨z, t, hkey⟩ := hk y (Array.mem_toList_iff.mp hy)
   simp [DictEntry.refKey, hkey]
  have a' : ¬ es.toList.any (·.refKey) = true := by rw [a]; exact Bool.false_ne_true
  rw [if_neg a']
  exact congrArg some e
theorem ObjM.look {h : Heap} {x dx C : Addr} {mA : Str -> Option Value} (I : ObjM h x dx C mA) : ∃ od, PySem.W.InstAt h x (PySem.W.instObj C dx) C (some od) /\ ∀ name, PySem.W.lookIn name od = some (mA name) :=
 let ⟨od, ho, hl⟩ := b3I I.ns
 ⟨od, ⟨I.obj, rfl, rfl, ho⟩, hl⟩
section
variable {prog : Program} {w : World} {A : Around} {E : Value -> Shared -> Prop} {s : Shared} {K : Φρ} {x dx C f : Addr} {mA : Str -> Option Value} {name : Str} {v : Value}
end
section
variable {P : Program} {w : World} {H H' : Hp} {h h' : Heap} {a C dx : Addr} {fs fs' : List (Str × V)}
theorem b8V (hok : HOk P w H h) (e : H a = some (.ins C dx fs)) : ∃ mA, ObjM h a dx C mA /\ (∀ f, RelO (fs.lookup f) (mA f)) /\ PySem.Within mA (fs.map (·.1)) /\ fs.length <= 1000 /\ H dx = some (.own a) := by
 obtain ⟨d, z, ne, ob, mA, n, r, q⟩ := (show ObjOk P w H h a (.ins C dx fs) from hok a _ e)
 exact ⟨mA, ⟨ob, n, ne⟩, r, q, z, d⟩
end
structure Cls (K : Φρ) (C : Addr) : Prop where
 pg : PySem.W.plainGet K C Str.empty = true
 hd : PySem.W.hasDictIn K C = true
 po : PySem.W.plainOver K C = true
 sa : PySem.W.findIn K (.ref C) "__setattr__" = some (some (.builtin "object.__setattr__"))
theorem Cls.get {K : Φρ} {C : Addr} (c : Cls K C) (f : Str) : PySem.W.plainGet K C f = true := c.pg
section
variable {X : Cx} {pins : List (Addr × Obj)} {σ : St} {H : Hp} {s : Shared} {a C dx : Addr} {fs : List (Str × V)} {f : Str} {v : V} {A : Around} {E : Value -> Shared -> Prop}
end
section
variable {X : Cx} {o e value : Expr} {f : Str} {pos pos' tpos : Pos} {ta tv : TE}
end
section
variable {X : Cx} {pins : List (Addr × Obj)} {σ : St} {H : Hp} {s : Shared} {A : Around} {E : Value -> Shared -> Prop} {Q : Value -> Shared -> Prop} {c : Value} {b : Bool}
inductive TyOf (K : Φρ) (H : Hp) : V -> Value -> Prop where
 | non : TyOf K H .non (.type "NoneType")
 | bl (x : Bool) : TyOf K H (.bl x) (.type "bool")
 | int (i : Int) : TyOf K H (.int i) (.type "int")
 | str (x : Str) : TyOf K H (.str x) (.type "str")
 | flt (x : UInt64) : TyOf K H (.flt x) (.type "float")
 | lst {a : Addr} {xs : List V} (e : H a = some (.lst xs)) : TyOf K H (.ref a) (.type "list")
 | frz {a : Addr} {o : Obj} {xs : List V} (e : H a = some (.frz o (.lst xs))) : TyOf K H (.ref a) (.type "list")
 | tup {a : Addr} {xs : List V} (e : H a = some (.tup xs)) : TyOf K H (.ref a) (.type "tuple")
 | dK {a : Addr} {kvs : List (Key × V)} (e : H a = some (.dK kvs)) : TyOf K H (.ref a) (.type "dict")
 | dT {a : Addr} {kvs : List (List Key × V)} (e : H a = some (.dT kvs)) : TyOf K H (.ref a) (.type "dict")
 | ins {a C dx : Addr} {fs : List (Str × V)} (e : H a = some (.ins C dx fs)) (cl : Cls K C) (ha : PySem.W.findIn K (.ref C) "__class__" = some (some (.builtin "object.__class__")))
   (hn : PySem.W.specialIn K (.builtin "object.__class__") "__get__" = some (some (.builtin "getset_descriptor.__get__"))) (htk : PySem.W.takesIn K (.builtin "object.__class__") = some true)
   (hm : PySem.W.mroIn K C (.type "object") = some true) : TyOf K H (.ref a) (.ref C)
theorem b3J {x : V} {u t : Value} (I : Inv X pins σ H s) (rx : RelV x u) (ty : TyOf X.K H x t) (e : PySem.W.kitOne X.K t c = some b) (h : ∀ tk, Q (.bool b) { s with toks := tk }) :
  wpAny (model X.prog X.w) A (call (.builtin "isinstance") [u, c]) Q E s := by
 cases ty with
 | non => cases (show u = Value.none from rx); exact PySem.W.kia_one PySem.W.kitx_none I.kIn True.intro e (fun z => nomatch z) h
 | bl y => cases (show u = Value.bool y from rx); exact PySem.W.kia_one PySem.W.kitx_bool I.kIn True.intro e (fun z => nomatch z) h
 | int i => obtain ⟨t, q⟩ := (show ∃ t, u = Value.int i t from rx); cases q; exact PySem.W.kia_one PySem.W.kitx_int I.kIn True.intro e (fun z => nomatch z) h
 | str y => obtain ⟨t, q⟩ := (show ∃ t, u = Value.str y t from rx); cases q; exact PySem.W.kia_one PySem.W.kitx_str I.kIn True.intro e (fun z => nomatch z) h
 | flt y => obtain ⟨t, q⟩ := (show ∃ t, u = Value.float y t from rx); cases q; exact PySem.W.kia_one PySem.W.kitx_float I.kIn True.intro e (fun z => nomatch z) h
 | @lst a xs ea =>
  cases (show u = Value.ref a from rx)
  obtain ⟨_, _, n, _, h1⟩ := (show ObjOk X.prog X.w H s.heap a (.lst xs) from I.hok a _ ea)
  exact PySem.W.kia_one PySem.W.kitx_list I.kIn ⟨_, h1, rfl⟩ e (fun z => nomatch z) h
 | @frz a ob xs ea =>
  cases (show u = Value.ref a from rx)
  obtain ⟨_, _, _, n, _, h1⟩ := (show ObjOk X.prog X.w H s.heap a (.frz ob (.lst xs)) from I.hok a _ ea)
  exact PySem.W.kia_one PySem.W.kitx_list I.kIn ⟨_, h1, rfl⟩ e (fun z => nomatch z) h
 | @tup a xs ea =>
  cases (show u = Value.ref a from rx)
  obtain ⟨_, _, _, p⟩ := (show ObjOk X.prog X.w H s.heap a (.tup xs) from I.hok a _ ea)
  obtain ⟨o, h1, h2, _⟩ := p
  exact PySem.W.kia_one PySem.W.kitx_tuple I.kIn ⟨o, h1, h2⟩ e (fun z => nomatch z) h
 | @dK a kvs ea =>
  cases (show u = Value.ref a from rx)
  obtain ⟨_, _, vs, _, p⟩ := (show ObjOk X.prog X.w H s.heap a (.dK kvs) from I.hok a _ ea)
  obtain ⟨o, es, ep, h1, h2, _⟩ := p
  exact PySem.W.kia_one PySem.W.kitx_dict I.kIn ⟨o, h1, h2.1⟩ e (fun z => nomatch z) h
 | @dT a kvs ea =>
  cases (show u = Value.ref a from rx)
  obtain ⟨_, _, xs, _, o, es, ep, h1, h2, _⟩ := (show ObjOk X.prog X.w H s.heap a (.dT kvs) from I.hok a _ ea)
  exact PySem.W.kia_one PySem.W.kitx_dict I.kIn ⟨o, h1, h2.1⟩ e (fun z => nomatch z) h
 | @ins a C dx fs ea cl ha hn htk hm =>
  cases (show u = Value.ref a from rx)
  obtain ⟨mA, O, _⟩ := b8V I.hok ea
  obtain ⟨od, J, _⟩ := O.look
  exact PySem.W.kia_one (PySem.W.kitx_own (cl.get _) cl.hd ha hn htk hm) I.kIn J e (fun z => nomatch z) h
end
end L2
namespace L2
open PySem PySem.Spec PyProof.Rows
structure Room (k : Nat) (A : Around) : Prop where
 hd : A.handled = none
 dp : A.depth + 3 * k + 5 < recursionLimit
 un : A.units + 16 * k + 200 < cLine
theorem Room.mono {j k : Nat} {A : Around} (r : Room k A) (h : j <= k) : Room j A := ⟨r.hd, by have := r.dp; omega, by have := r.un; omega⟩
theorem Room.deeper {k : Nat} {A : Around} (r : Room (k + 1) A) (env : Env) : Room k (A.deeper env) :=
 ⟨r.hd, by have := r.dp; show A.depth + 1 + 3 * k + 5 < _; omega, by have := r.un; show A.units + 3 + 16 * k + 200 < _; omega⟩
theorem Room.depth {k : Nat} {A : Around} (r : Room k A) : A.depth < recursionLimit := by have := r.dp; omega
theorem Room.units {k : Nat} {A : Around} (r : Room k A) : A.units + 64 < cLine := by have := r.un; omega
def tNil : TA := fun _ H Q => Q [] H
def c1O (ta : TE) (tr : TA) : TA := fun σ H Q => ta σ H fun x H1 => tr σ H1 fun xs H2 => Q (x :: xs) H2
section
variable {X : Cx} {e : Expr} {es : List Expr} {te : TE} {t : TA} {pos : Pos}
theorem a0B : PA X [] tNil := fun _ _ _ _ H Q I h => Calls.spliced_nil ⟨[], H, I, .nil, h⟩
theorem a0A (ha : PE X e te) (hr : PA X es t) (hs : starEach (e :: es) X.env = (false, eval e X.env) :: starEach es X.env := by rfl) : PA X (e :: es) (c1O te t) := by
 intro pos pins s σ H Q I h
 rw [hs]
 show wpAny _ _ (spliced ((false, eval e X.env) :: backTo pos (starEach es X.env))) _ _ s
 refine Calls.spliced_cons (thn (ha pins s σ H _ I h) fun u s1 ⟨x, H1, I1, r1, q1⟩ => ?_)
 exact thn (hr pos pins s1 σ H1 _ I1 q1) fun us s2 ⟨xs, H2, I2, r2, q2⟩ => ⟨x :: xs, H2, I2, .cons r1 r2, q2⟩
end
abbrev Sp := List V -> Hp -> VK -> XK -> Prop
abbrev CXT := List Env -> Hp -> Shared -> XK -> Value -> Shared -> Prop
structure Env0 (P : Program) (w : World) (K : Φρ) (mg : Str -> Option Value) (base : Heap) (A : Around) (outer : List Env) (s : Shared) (H : Hp) : Prop where
 frames : A.frames = some outer
 mod : Mod K mg base
 bs : ∀ b o, base.get? b = some o -> s.heap.get? b = some o /\ H b = none
 bsz : base.objs.size <= s.heap.objs.size
 funs : s.heap.FunFrames base outer
 frf : ∀ b ∈ frs outer, H b = none
 hok : HOk P w H s.heap
 bare : AllBare s.gens
def CE (outer : List Env) (P : Program) (w : World) (H : Hp) (s : Shared) (Q : VK) (u : Value) (s' : Shared) : Prop :=
 ∃ v H', s'.os = s.os /\ AllBare s'.gens /\ Un (frs outer) [] H H' s.heap s'.heap /\ HOk P w H' s'.heap /\ RelV v u /\ Q v H'
def CR (CX : CXT) (outer : List Env) (P : Program) (w : World) (H : Hp) (s : Shared) (Q : VK) (E : XK) (r : Result) (s' : Shared) : Prop :=
 match r with
 | .ok (.ret u) => CE outer P w H s Q u s'
 | .ok _ => False
 | .error e => CX outer H s E e s'
structure FnOk (P : Program) (w : World) (K : Φρ) (mg : Str -> Option Value) (base : Heap) (CX : CXT) (k : Nat) (f : Addr) (fd : FuncData) (ps : List Str) (sp : Sp) : Prop where
 len : ∀ vs H Q E, sp vs H Q E -> vs.length = ps.length
 run : ∀ (A : Around) (outer : List Env) (s : Shared) (H : Hp) (args : Args) (us : List Value) (vs : List V) (Q : VK) (E : XK), Room k A -> Env0 P w K mg base A outer s H -> BindsTo s fd args (ps.zip us) -> Vals vs us -> sp vs H Q E ->
  codeAny (model P w) A (.call (.ref f) args) (CR CX outer P w H s Q E) s
theorem FnOk.mono {P : Program} {w : World} {K : Φρ} {mg : Str -> Option Value} {base : Heap} {CX : CXT} {j k : Nat} {f : Addr} {fd : FuncData} {ps : List Str} {sp : Sp} (F : FnOk P w K mg base CX j f fd ps sp) (h : j <= k) :
  FnOk P w K mg base CX k f fd ps sp := ⟨F.len, fun A outer s H args us vs Q E hr => F.run A outer s H args us vs Q E (hr.mono h)⟩
section
variable {X : Cx} {pins : List (Addr × Obj)} {σ : St} {H : Hp} {s s' : Shared}
theorem Inv.env0 (I : Inv X pins σ H s) : Env0 X.prog X.w X.K X.mg X.base X.A X.stack s H :=
 ⟨I.ok.frames, I.ok.mod, I.bs, Nat.le_trans I.ok.bsz I.sz, I.stack, I.stkFree, I.hok, I.bare⟩
theorem Inv.after {Q : VK} {u : Value} (I : Inv X pins σ H s) (h : CE X.stack X.prog X.w H s Q u s') : EP X pins σ Q u s' := by
 obtain ⟨v, H', os, bare, un, hok, r, q⟩ := h
 obtain ⟨hh, g, d, t, os'⟩ := s'
 obtain rfl : os' = s.os := os
 exact ⟨v, H', I.call (h' := hh) (g' := g) (d' := d) (t' := t) (ch := []) un hok bare (fun b z => absurd z (by simp)), r, q⟩
end
def c1P (sp : Sp) (dvs : List V) (E : XK) (t : TA) : TE := fun σ H Q => t σ H fun vs H1 => sp (vs ++ dvs) H1 Q E
def Binds (K : Φρ) (fd : FuncData) (ps : List Str) (ds : List Value) : Prop :=
 ∀ (s : Shared) (us : List Value), K.In s.heap -> (us ++ ds).length = ps.length -> BindsTo s fd ⟨us, []⟩ (ps.zip (us ++ ds))
theorem Binds.all {K : Φρ} {fd : FuncData} {ps : List Str} (h : ∀ us : List Value, us.length = ps.length -> bindArgs fd ⟨us, []⟩ = pure (ps.zip us)) : Binds K fd ps [] := fun s us _ hl => by
 rw [List.append_nil] at hl ⊢
 exact .of_eq (h us hl)
def b0T (CX : CXT) (X : Cx) (E : XK) : Prop := ∀ (pins : List (Addr × Obj)) (σ : St) (H : Hp) (s : Shared) (e : Value) (s' : Shared), Inv X pins σ H s -> CX X.stack H s E e s' -> X.xe e s'
section
variable {X : Cx} {CX : CXT} {k : Nat} {f C : Addr} {fd : FuncData} {ps : List Str} {sp : Sp} {dvs : List V} {ds : List Value} {E : XK} {x m : Str} {p pos apos : Pos} {e o : Expr} {es : List Expr} {ta : TE} {t : TA}
theorem c1Q {pins : List (Addr × Obj)} {σ : St} {H : Hp} {s : Shared} {Q : VK} {us : List Value} {vs : List V} (F : FnOk X.prog X.w X.K X.mg X.base CX k f fd ps sp) (hr : Room k X.A) (hb : Binds X.K fd ps ds) (hd : Vals dvs ds) (hx : b0T CX X E)
  (I : Inv X pins σ H s) (r : Vals vs us) (h : sp (vs ++ dvs) H Q E) : wpAny (model X.prog X.w) X.A (call (.ref f) us) (EP X pins σ Q) X.xe s := by
 have r2 : Vals (vs ++ dvs) (us ++ ds) := r.append hd
 have hl : (us ++ ds).length = ps.length := by rw [<- r2.length]; exact F.len _ _ _ _ h
 refine wpAny_call (codeAny_mono (F.run X.A X.stack s H ⟨us, []⟩ (us ++ ds) (vs ++ dvs) Q E hr I.env0 (hb s us I.kIn hl) r2 h) fun r s' hq => ?_)
 cases r with
 | error e => exact hx pins σ H s e s' I hq
 | ok fl =>
  cases fl with
  | ret u => exact I.after hq
  | next => exact False.elim hq
  | brk => exact False.elim hq
  | cont => exact False.elim hq
theorem a0G (F : FnOk X.prog X.w X.K X.mg X.base CX k f fd ps sp) (hr : Room k X.A) (hg : Gl X x) (hm : X.mg x = some (.ref f)) (hk : PySem.W.keepIn X.K (.ref f) = true) (hb : Binds X.K fd ps ds) (hd : Vals dvs ds) (hx : b0T CX X E)
  (ha : PA X (e :: es) t) (hdb : (x == ("__debug__" : Str)) = false := by decide) (he : starEach (e :: es) X.env = (false, eval e X.env) :: starEach es X.env := by rfl) (hpl : (backTo pos (starEach es X.env)).any (·.1) = false := by rfl) :
  PE X (.Call (.Name x p) (e :: es) [] pos) (c1P sp dvs E t) := by
 intro pins s σ H Q I h
 refine wpAny_Call_Name_kw (a4B I hg hm ?_ hdb)
 refine PySem.W.callWith_K (h₀ := X.base) I.ok.mod.kin hk (thn (ha pos pins s σ H _ I h) fun us s1 ⟨vs, H1, I1, r, q⟩ => ⟨I1.kIn, ?_⟩) he hpl
 exact c1Q F hr hb hd hx I1 r q
end
def PK (X : Cx) (kws : List Keyword) (t : TA) : Prop :=
 ∀ (pos : Pos) (pins : List (Addr × Obj)) (s : Shared) (σ : St) (H : Hp) (Q : List V -> Hp -> Prop), Inv X pins σ H s -> t σ H Q -> wpAny (model X.prog X.w) X.A (evalAll ((backToKw pos (keywordEach kws X.env)).map (·.2))) (AP X pins σ Q) X.xe s
section
variable {X : Cx} {CX : CXT} {k : Nat} {f C : Addr} {fd : FuncData} {ps ks : List Str} {sp : Sp} {E : XK} {x m : Str} {p pos apos kpos : Pos} {e o : Expr} {es : List Expr} {kws : List Keyword} {te ta : TE} {t tk : TA} {nm : Option Str}
theorem b3K : PK X [] tNil := fun _ _ _ _ H Q I h => wpAny_evalAll_nil ⟨[], H, I, .nil, h⟩
theorem a9N (ha : PE X e te) (hr : PK X kws t) : PK X (⟨nm, e, kpos⟩ :: kws) (c1O te t) := by
 intro pos pins s σ H Q I h
 show wpAny _ _ (evalAll ((do let v <- eval e X.env; standAt pos; pure v) :: (backToKw pos (keywordEach kws X.env)).map (·.2))) _ _ s
 refine wpAny_evalAll_cons (wpAny_bind (thn (ha pins s σ H _ I h) fun u s1 ⟨x, H1, I1, r1, q1⟩ => wpAny_bind (wpAny_standAt (wpAny_pure ?_))))
 exact thn (hr pos pins s1 σ H1 _ I1 q1) fun us s2 ⟨xs, H2, I2, r2, q2⟩ => ⟨x :: xs, H2, I2, .cons r1 r2, q2⟩
variable {g : List Value -> List Value -> List Value} {gV : List V -> List V -> List V}
end
structure FnScope (N P : List Str) (sc : Scope) : Prop where
 kind : sc.kind = .function
 co : sc.isCoroutine = false
 gen : sc.isGenerator = false
 nd : N.Nodup
 pre : N.take P.length = P
 par : ∀ x ∈ P, sc.names.lookup x = some .local \/ sc.names.lookup x = some .cell
 nofree : ∀ y ∈ sc.names, y.2 ≠ .free
theorem a8A {kindOf : Str -> Option NameKind} {x : Str} : ∀ {binds : List (Str × Value)} {m : Str -> Option Value}, (∀ v, (x, v) ∉ binds) -> bindL kindOf binds m x = m x
 | [], _, _ => rfl
 | (n, v) :: r, m, h => by
  unfold bindL
  rw [a8A fun w hw => h w (List.mem_cons_of_mem _ hw)]
  split
  ·have : x ≠ n := by rintro rfl; exact h v List.mem_cons_self
   simp [this]
  ·rfl
theorem a8B {kindOf : Str -> Option NameKind} {x : Str} : ∀ {binds : List (Str × Value)} {m : Str -> Option Value}, (∀ v, (x, v) ∉ binds) -> bindC kindOf binds m x = m x
 | [], _, _ => rfl
 | (n, v) :: r, m, h => by
  unfold bindC
  rw [a8B fun w hw => h w (List.mem_cons_of_mem _ hw)]
  split
  ·rfl
  ·have : x ≠ n := by rintro rfl; exact h v List.mem_cons_self
   simp [this]
theorem a8C {kindOf : Str -> Option NameKind} {x : Str} {v : Value} : ∀ {P : List Str} {vs : List Value} {i : Nat} {m : Str -> Option Value}, P.Nodup -> P[i]? = some x -> vs[i]? = some v -> kindOf x = some .local ->
  bindL kindOf (P.zip vs) m x = some v
 | [], _, _, _, _, h, _, _ => by simp at h
 | _ :: _, [], _, _, _, _, h, _ => by simp at h
 | p :: P, w :: vs, 0, m, nd, h1, h2, hk => by
  simp at h1 h2; subst h1; subst h2
  show bindL kindOf ((p, w) :: P.zip vs) m p = _
  unfold bindL
  rw [a8A fun v hv => (List.nodup_cons.mp nd).1 (List.of_mem_zip hv).1, if_pos hk]
  simp
 | p :: P, w :: vs, i + 1, m, nd, h1, h2, hk => by
  show bindL kindOf ((p, w) :: P.zip vs) m x = _
  unfold bindL
  exact a8C (i := i) (List.nodup_cons.mp nd).2 (by simpa using h1) (by simpa using h2) hk
theorem a8D {kindOf : Str -> Option NameKind} {x : Str} {v : Value} : ∀ {P : List Str} {vs : List Value} {i : Nat} {m : Str -> Option Value}, P.Nodup -> P[i]? = some x -> vs[i]? = some v -> kindOf x ≠ some .local ->
  bindC kindOf (P.zip vs) m x = some v
 | [], _, _, _, _, h, _, _ => by simp at h
 | _ :: _, [], _, _, _, _, h, _ => by simp at h
 | p :: P, w :: vs, 0, m, nd, h1, h2, hk => by
  simp at h1 h2; subst h1; subst h2
  show bindC kindOf ((p, w) :: P.zip vs) m p = _
  unfold bindC
  rw [a8B fun v hv => (List.nodup_cons.mp nd).1 (List.of_mem_zip hv).1, if_neg hk]
  simp
 | p :: P, w :: vs, i + 1, m, nd, h1, h2, hk => by
  show bindC kindOf ((p, w) :: P.zip vs) m x = _
  unfold bindC
  exact a8D (i := i) (List.nodup_cons.mp nd).2 (by simpa using h1) (by simpa using h2) hk
def a4D (N : List Str) (vs : List V) : St := vs.map some ++ List.replicate (N.length - vs.length) none
def cxOf (CX : CXT) (P : Program) (w : World) (K : Φρ) (mg : Str -> Option Value) (base : Heap) (N : List Str) (qual : Str) (scope : Scope) (f : Addr) (cd : Value) (A : Around) (outer : List Env) (s : Shared) (H : Hp) (E : XK) : Cx where
 prog := P
 w := w
 K := K
 mg := mg
 base := base
 A := A.deeper (envOfC qual scope s.heap.objs.size f cd)
 N := N
 s₀ := s
 H₀ := H
 env := envOfC qual scope s.heap.objs.size f cd
 outer := outer
 stack := envOfC qual scope s.heap.objs.size f cd :: outer
 ex := []
 calm := true
 fn := fun _ => true
 pn := []
 xe := fun e s' => wpAny (model P w) (A.deeper (envOfC qual scope s.heap.objs.size f cd)) (leaving (envOfC qual scope s.heap.objs.size f cd) e) (fun _ s'' => CX outer H s E e s'') (fun e' s'' => CX outer H s E e' s'') s'
theorem b0U {sc : Scope} {n : Nat} {x : Str} (h : sc.names.lookup x = some .cell) : ∃ c, (cellsFrom n sc.names []).lookup x = some c := by
 have q := PySem.W.cellsFrom_some sc.names n [] (.inl h)
 exact Option.isSome_iff_exists.mp q
theorem a8E {CX : CXT} {P : Program} {w : World} {K : Φρ} {mg : Str -> Option Value} {base : Heap} {N ps : List Str} {qual : Str} {scope : Scope} {f : Addr} {cd : Value} {A : Around} {outer : List Env} {s s1 : Shared} {H : Hp} {E : XK} {us : List Value} {vs : List V}
  (S : FnScope N ps scope) (hd : A.handled = none) (e0 : Env0 P w K mg base A outer s H) (hl : vs.length = ps.length) (r : Vals vs us)
  (x : InCallC s s.heap.objs.size (bindL (envOfC qual scope s.heap.objs.size f cd).kindOf (ps.zip us) fun _ => none) (cellsFrom (s.heap.objs.size + 1) scope.names []) (bindC (envOfC qual scope s.heap.objs.size f cd).kindOf (ps.zip us) fun _ => none) s1) :
  Inv (cxOf CX P w K mg base N qual scope f cd A outer s H E) [] (a4D N vs) H s1 := by
 have hpl : ps.length <= N.length := by have := congrArg List.length S.pre; rw [List.length_take] at this; omega
 obtain ⟨h1, tk, rfl, hk⟩ := x.done
 have noA : ∀ b : Addr, b ∉ (cxOf CX P w K mg base N qual scope f cd A outer s H E).ex := fun b z => absurd (show b ∈ ([] : List Addr) from z) (by simp)
 refine ⟨⟨e0.mod, S.kind, rfl, rfl, Nat.le_refl _, fun y z c h1 h2 => ?_, fun y hy => ?_, fun y c _ h => ?_, fun _ => hd, Around.frames_deeper e0.frames, .inr ⟨rfl, rfl⟩, fun b z => absurd z (noA b), e0.bs, e0.bsz, fun b _ _ => noA b, fun b z => absurd z (noA b), e0.funs, e0.frf⟩,
  rfl, e0.bare, Un.kept hk, ⟨_, x.toInCall.ns, fun i y v h1 h2 h3 => ?_⟩, fun y c h => ⟨_, x.cell y c h⟩, e0.hok.fresh (Nat.le_refl _), fun y c h => ?_, fun p hp => absurd (show p ∈ ([] : List (Addr × Obj)) from hp) (by simp), e0.hok.kept hk, ?_⟩
 ·exact name_of_addr x.apart (PySem.mem_of_lookup h1) (PySem.mem_of_lookup h2)
 ·have hy : scope.names.lookup y = some .cell \/ scope.names.lookup y = some .free := hy
  rcases hy with hy | hy
  ·exact b0U hy
  ·exact absurd rfl (S.nofree _ (PySem.mem_of_lookup hy))
 ·exact Nat.le_of_lt (x.above y c (PySem.mem_of_lookup h))
 ·have hi : i < vs.length := by
   unfold a4D at h2
   by_cases hi : i < vs.length
   ·exact hi
   ·rw [List.getElem?_append_right (by simpa using hi)] at h2
    rw [List.getElem?_replicate] at h2
    split at h2 <;> cases h2
  have ha : vs[i]? = some v := by
   unfold a4D at h2
   rw [List.getElem?_append_left (by simpa using hi), List.getElem?_map] at h2
   cases e : vs[i]? with
   | none => rw [e] at h2; cases h2
   | some a => rw [e] at h2; cases h2; rfl
  obtain ⟨u, hu, rv⟩ := r.get ha
  have hp : ps[i]? = some y := by
   rw [<- S.pre, List.getElem?_take_of_lt (by omega)]; exact h1
  have ndP : ps.Nodup := by rw [<- S.pre]; exact S.nd.sublist (List.take_sublist _ _)
  refine ⟨u, rv, ?_⟩
  rcases S.par y (List.mem_of_getElem? hp) with k | k
  ·exact .inl ⟨k, a8C ndP hp hu k⟩
  ·obtain ⟨c, e⟩ := b0U (n := s.heap.objs.size + 1) k
   refine .inr ⟨.inl k, c, e, ?_⟩
   have q := x.cell y c e
   rw [a8D ndP hp hu (by show scope.names.lookup y ≠ _; rw [k]; decide)] at q
   exact q
 ·exact e0.hok.fresh (Nat.le_of_lt (x.above y c (PySem.mem_of_lookup h)))
 ·unfold a4D
  show _ = N.length
  rw [List.length_append, List.length_map, List.length_replicate]
  omega
theorem c1R {CX : CXT} {P : Program} {w : World} {K : Φρ} {mg : Str -> Option Value} {base : Heap} {k : Nat} {f : Addr} {name qual : Str} {params : Arguments} {body : List Stmt} {scope : Scope} {dV kV doc pm cdv ct oc : Value} {an od : Option Addr}
  {osl : Array (Option Value)} {N ps : List Str} {sp : Sp} (lk : K.lookup f = some ⟨oc, od, .func (PySem.W.fnOf name qual params body scope dV kV doc pm an cdv ct), osl⟩) (hcd : PySem.W.codeIn K cdv qual = true) (S : FnScope N ps scope)
  (len : ∀ vs H Q E, sp vs H Q E -> vs.length = ps.length)
  (hbody : ∀ (A : Around) (outer : List Env) (s : Shared) (H : Hp) (vs : List V) (Q : VK) (E : XK), Room k (A.deeper (envOfC qual scope s.heap.objs.size f cdv)) -> sp vs H Q E ->
   ∃ t, PSs (cxOf CX P w K mg base N qual scope f cdv A outer s H E) body t /\ t { nx := fun _ H' => Q .non H', rt := Q } (a4D N vs) H) :
  FnOk P w K mg base CX (k + 1) f (PySem.W.fnOf name qual params body scope dV kV doc pm an cdv ct) ps sp := by
 refine ⟨len, fun A outer s H args us vs Q E hr e0 hb r hsp => ?_⟩
 have hl := len _ _ _ _ hsp
 have KX : K.In s.heap := e0.mod.kin.keeps fun b o e => (e0.bs b o e).1
 have lim : s.heap.NoLimit := e0.mod.nolimit.keeps fun b o e => (e0.bs b o e).1
 have hkind : ∀ y ∈ ps.zip us, scope.names.lookup y.1 = some .local \/ (scope.names.lookup y.1 = some .cell /\ ((cellsFrom (s.heap.objs.size + 1) scope.names []).lookup y.1).isSome = true) := fun ⟨n, v⟩ hy => by
  rcases S.par n (List.of_mem_zip hy).1 with q | q
  ·exact .inl q
  ·exact .inr ⟨q, PySem.W.cellsFrom_some _ _ _ (.inl q)⟩
 refine codeAny_call_function hr.depth (KX _ _ lk) rfl S.co S.gen rfl (PySem.W.codeRec_of KX hcd) (hb _ _ _ _ ?_)
 refine wpAny_newFunctionEnv_cells S.kind hkind fun env he s1 x => ?_
 subst he
 refine ⟨lim.keeps x.toInCall.keep, codeAny_func ?_⟩
 obtain ⟨t, ht, hq⟩ := hbody A outer s H vs Q E (hr.deeper _) hsp
 have I : Inv (cxOf CX P w K mg base N qual scope f cdv A outer s H E) [] (a4D N vs) H s1 := a8E S hr.hd e0 hl r x
 refine wpAny_mono (ht [] s1 (a4D N vs) H _ I hq) (fun fl s' hs => ?_) fun e s' hs => hs
 have fin : ∀ {σ' : St} {H' : Hp} {v : V} {u : Value}, Inv (cxOf CX P w K mg base N qual scope f cdv A outer s H E) [] σ' H' s' -> RelV v u -> Q v H' -> CE outer P w H s Q u s' :=
  fun {σ' H' v u} J rv q => ⟨v, H', J.os, J.bare, J.base, J.hok, rv, q⟩
 cases fl with
 | ret u =>
  obtain ⟨v, σ', H', J, rv, q⟩ := hs
  exact fin J rv q
 | next =>
  obtain ⟨σ', H', J, q⟩ := hs
  exact fin (v := V.non) (u := Value.none) J rfl q
 | brk =>
  obtain ⟨_, _, _, q⟩ := hs
  exact False.elim q
 | cont =>
  obtain ⟨_, _, _, q⟩ := hs
  exact False.elim q
end L2
namespace L2
open PySem PySem.Spec PyProof.Rows
section
variable {X : Cx} {x : Str} {p pos : Pos} {e : Expr} {es : List Expr} {t : TA} {id T : String} {r : List V -> Hp -> VK -> Prop}
def tCB (r : List V -> Hp -> VK -> Prop) (t : TA) : TE := fun σ H Q => t σ H fun vs H1 => r vs H1 Q
theorem a0I (hc : CallR X (.builtin id) r) (hg : Gl X x) (hm : X.mg x = none) (hv : bootBuiltins x = some (.builtin id)) (ha : PA X (e :: es) t) (hn : x ≠ "__name__" := by decide) (hdb : (x == ("__debug__" : Str)) = false := by decide)
  (he : starEach (e :: es) X.env = (false, eval e X.env) :: starEach es X.env := by rfl) (hpl : (backTo pos (starEach es X.env)).any (·.1) = false := by rfl) : PE X (.Call (.Name x p) (e :: es) [] pos) (tCB r t) := by
 intro pins s σ H Q I h
 refine wpAny_Call_Name_kw (a4I I hg hm hv ?_ hn hdb)
 exact PyProof.Rows.callWith_builtin1 (thn (ha pos pins s σ H _ I h) fun us s1 ⟨vs, H1, I1, r1, q1⟩ => hc pins s1 σ H1 vs us Q I1 r1 q1) he hpl
theorem a1J (hc : CallR X (.type T) r) (hg : Gl X x) (hm : X.mg x = none) (hv : bootBuiltins x = some (.type T)) (ha : PA X (e :: es) t) (hn : x ≠ "__name__" := by decide) (hdb : (x == ("__debug__" : Str)) = false := by decide)
  (he : starEach (e :: es) X.env = (false, eval e X.env) :: starEach es X.env := by rfl) (hpl : (backTo pos (starEach es X.env)).any (·.1) = false := by rfl) : PE X (.Call (.Name x p) (e :: es) [] pos) (tCB r t) := by
 intro pins s σ H Q I h
 refine wpAny_Call_Name_kw (a4I I hg hm hv ?_ hn hdb)
 exact PyProof.Rows.callWith_type1 (thn (ha pos pins s σ H _ I h) fun us s1 ⟨vs, H1, I1, r1, q1⟩ => hc pins s1 σ H1 vs us Q I1 r1 q1) he hpl
end
end L2
namespace HT
open PySem PyProof.Rows
section
open PySem.SeqAt
open PySem.AutoSeq1 (wpAny_loadPart')
open PySem.MeetsSeq PySem.MeetsSeq2 PySem.MeetsSeq3
end
section
variable {prog : Program} {w : World} {A : Around} {E : Value -> Shared -> Prop} {s : Shared}
def sIx (n d : Nat) : Option Int -> Nat
 | none => d
 | some v => if v < 0 then (v + (n : Int)).toNat else min v.toNat n
end
end HT
namespace L2
open PySem PySem.Spec PyProof.Rows
abbrev TO := St -> Hp -> (Option Int -> Hp -> Prop) -> Prop
def PO (X : Cx) (e : Option Expr) (t : TO) : Prop :=
 ∀ (pins : List (Addr × Obj)) (s : Shared) (σ : St) (H : Hp) (Q : Option Int -> Hp -> Prop), Inv X pins σ H s -> t σ H Q ->
  wpAny (model X.prog X.w) X.A (evalPart e X.env) (fun u s' => ∃ o H', Inv X pins σ H' s' /\ IsPart u o /\ Q o H') X.xe s
def b8W : TO := fun _ H Q => Q none H
def c3M (t : TE) : TO := fun σ H Q => t σ H fun x H1 => ∃ i, x = .int i /\ Q (some i) H1
section
variable {X : Cx} {e : Expr} {te : TE} {lo hi : Option Expr} {tl th : TO} {pos p2 : Pos}
theorem a1O : PO X none b8W := by
 intro pins s σ H Q I h
 rw [evalPart_none]
 exact wpAny_pure ⟨none, H, I, .none, h⟩
theorem a1P (h : PE X e te) : PO X (some e) (c3M te) := by
 intro pins s σ H Q I hw
 rw [evalPart_some]
 refine thn (h pins s σ H _ I hw) fun u s1 ⟨x, H1, I1, r1, q1⟩ => ?_
 obtain ⟨i, rfl, q⟩ := q1
 obtain ⟨t, rfl⟩ := r1
 exact ⟨some i, H1, I1, .int i t, q⟩
def SlR (X : Cx) (r : V -> Option Int -> Option Int -> Hp -> VK -> Prop) : Prop :=
 ∀ (pins : List (Addr × Obj)) (s : Shared) (σ : St) (H : Hp) (x : V) (v vl vu : Value) (lo hi : Option Int) (sl : Addr) (Q : VK), Inv X pins σ H s -> RelV x v -> s.heap.IsSliceOf sl vl vu .none -> IsPart vl lo -> IsPart vu hi -> r x lo hi H Q ->
  ∃ T id, typeLookup (.type T) "__getitem__" = pure (some (.builtin id)) /\ s.TypeIs v T /\ wpAny (model X.prog X.w) X.A (getItem v (.ref sl)) (EP X pins σ Q) X.xe s
def tSl (r : V -> Option Int -> Option Int -> Hp -> VK -> Prop) (te : TE) (tl th : TO) : TE := fun σ H Q => te σ H fun x H1 => tl σ H1 fun l H2 => th σ H2 fun u H3 => r x l u H3 Q
theorem a1D {r : V -> Option Int -> Option Int -> Hp -> VK -> Prop} (hr : SlR X r) (he : PE X e te) (hl : PO X lo tl) (hu : PO X hi th) : PE X (.Subscript e (.Slice lo hi none p2) pos) (tSl r te tl th) := by
 intro pins s σ H Q I h
 refine Subscript_ (thn (he pins s σ H _ I h) fun v s1 ⟨x, H1, I1, r1, q1⟩ => ?_)
 refine wpAny_Slice (thn (hl pins s1 σ H1 _ I1 q1) fun vl s2 ⟨l, H2, I2, pl, q2⟩ => thn (hu pins s2 σ H2 _ I2 q2) fun vu s3 ⟨u, H3, I3, pu, q3⟩ => ?_)
 rw [evalPart_none]
 refine wpAny_pure ?_
 have I4 : Inv X pins σ H3 { s3 with heap := s3.heap.push { cls := .type "slice", data := .fields #[vl, vu, .none] } } := I3.kept (t' := s3.toks) fun b ob q => Heap.get?_push_of_some _ q
 obtain ⟨T, id, hT, ht, hg⟩ := hr pins { s3 with heap := s3.heap.push { cls := .type "slice", data := .fields #[vl, vu, .none] } } σ H3 x v vl vu l u s3.heap.objs.size Q I4 r1 (Heap.IsSliceOf.new ..) pl pu q3
 show wpAny (model X.prog X.w) X.A (subscriptTail e (.Slice lo hi none p2) v (.ref s3.heap.objs.size)) (EP X pins σ Q) X.xe { s3 with heap := s3.heap.push { cls := .type "slice", data := .fields #[vl, vu, .none] } }
 exact tail_any (ops := [.ref s3.heap.objs.size, v]) ht hT hg (by with_unfolding_all rfl)
def cutV (xs : List V) (lo hi : Option Int) : List V := (xs.drop (HT.sIx xs.length 0 lo)).take (HT.sIx xs.length xs.length hi - HT.sIx xs.length 0 lo)
theorem a9O (xs : List V) (lo hi : Option Int) : (cutV xs lo hi).length <= xs.length := by
 unfold cutV
 rw [List.length_take, List.length_drop]
 omega
end
end L2
namespace L2
open PySem PySem.Spec PyProof.Rows
def ixN (n : Nat) (i : Int) : Option Nat := if 0 <= i then (if i < n then some i.toNat else none) else if -(n : Int) <= i then some (i + n).toNat else none
def atI {α : Type} (xs : List α) (i : Int) : Option α := (ixN xs.length i).bind fun j => xs[j]?
theorem b3L {n : Nat} {i : Int} {j : Nat} (h : ixN n i = some j) : seqIndex? i n = some j /\ j < n /\ -(n : Int) <= i /\ i < n := by
 unfold ixN at h
 by_cases h0 : 0 <= i
 ·rw [if_pos h0] at h
  by_cases h1 : i < n
  ·rw [if_pos h1] at h
   have e : i.toNat = j := Option.some.inj h
   exact ⟨by rw [seqIndex_of h0 h1, e], by omega, by omega, h1⟩
  ·rw [if_neg h1] at h; cases h
 ·rw [if_neg h0] at h
  by_cases h1 : -(n : Int) <= i
  ·rw [if_pos h1] at h
   have e : (i + n).toNat = j := Option.some.inj h
   exact ⟨by rw [seqIndex_neg (by omega) h1, e], by omega, h1, by omega⟩
  ·rw [if_neg h1] at h; cases h
theorem b3M {α : Type} {xs : List α} {i : Int} {v : α} (h : atI xs i = some v) : ∃ j, seqIndex? i xs.length = some j /\ xs[j]? = some v /\ j < xs.length /\ -(xs.length : Int) <= i /\ i < xs.length := by
 unfold atI at h
 cases e : ixN xs.length i with
 | none => rw [e] at h; cases h
 | some j =>
  rw [e] at h
  obtain ⟨h1, h2, h3, h4⟩ := b3L e
  exact ⟨j, h1, h, h2, h3, h4⟩
theorem a9P {α : Type} {xs : List α} {j : Nat} {v : α} (h : xs[j]? = some v) : atI xs (j : Int) = some v := by
 have hj : j < xs.length := (List.getElem?_eq_some_iff.mp h).1
 have e : ixN xs.length (j : Int) = some j := by
  unfold ixN
  rw [if_pos (by omega), if_pos (by omega)]; simp
 unfold atI; rw [e]; exact h
def b8X (b : Expr) : Prop := ∀ o i, subscripted b false o i = operate [o, i] (getItem o i)
def IxR (X : Cx) (r : R2) : Prop :=
 ∀ (value slice : Expr) (pins : List (Addr × Obj)) (s : Shared) (σ : St) (H : Hp) (x y : V) (v u : Value) (Q : VK), Inv X pins σ H s -> RelV x v -> RelV y u -> r x y H Q ->
  subscripted slice false v u = operate [v, u] (getItem v u) -> wpAny (model X.prog X.w) X.A (subscriptTail value slice v u) (EP X pins σ Q) X.xe s
def MtR (X : Cx) (id : String) (r : V -> List V -> Hp -> VK -> Prop) : Prop :=
 ∀ (pins : List (Addr × Obj)) (s : Shared) (σ : St) (H : Hp) (x : V) (xs : List V) (v : Value) (us : List Value) (Q : VK), Inv X pins σ H s -> RelV x v -> Vals xs us -> r x xs H Q ->
  wpAny (model X.prog X.w) X.A (call (.builtin id) (v :: us)) (EP X pins σ Q) X.xe s
section
variable {X : Cx} {a b : Expr} {ta tb : TE} {pos : Pos}
theorem a1K {r : R2} (hr : IxR X r) (ha : PE X a ta) (hb : PE X b tb) (hs : b8X b) : PE X (.Subscript a b pos) (tOp r ta tb) := by
 intro pins s σ H Q I h
 exact Subscript_ (binT ha hb I h fun v u s2 x y H2 I2 rx ry q => hr a b pins s2 σ H2 x y v u Q I2 rx ry q (hs _ _))
def rIxL (K : Φρ) : R2 := fun x y H Q => ∃ p xs i v, x = .ref p /\ y = .int i /\ SqL K H p xs /\ atI xs i = some v /\ Q v H
def rIxT (K : Φρ) : R2 := fun x y H Q => ∃ p xs i v, x = .ref p /\ y = .int i /\ SqT K H p xs /\ atI xs i = some v /\ Q v H
theorem b8Y : IxR X (rIxL X.K) := by
 intro value slice pins s σ H x y v u Q I rx ry h hs
 obtain ⟨p, xs, i, z, rfl, rfl, hq, he, q⟩ := h
 cases rx
 obtain ⟨t, rfl⟩ := ry
 obtain ⟨its, r, pl, hz⟩ := I.list hq
 obtain ⟨j, h1, h2, h3, h4, h5⟩ := b3M he
 obtain ⟨w, ew, rw'⟩ := r.get h2
 have hl := r.length
 have hn := a7Z
 have fin : EP X pins σ Q w s := ⟨z, H, I, rw', q⟩
 by_cases h0 : 0 <= i
 ·have hj : i.toNat = j := by
   rw [seqIndex_of h0 h5] at h1
   exact Option.some.inj h1
  exact item_listR pl.isList h0 (by omega) (by rw [hj]; simpa using ew) fin hs
 ·have hj : (i + (its.toArray.size : Int)).toNat = j := by
   rw [seqIndex_neg (by omega) h4] at h1
   rw [List.size_toArray, <- hl]
   exact Option.some.inj h1
  exact subscriptTail_builtinR (x := w) pl.isList.typeIs slot_list_getitem.lookup
   (wpAny_getItem_list_neg (Q := fun r s' => r = w /\ EP X pins σ Q r s') pl.isList (by omega) (by rw [List.size_toArray] <;> omega) (by omega) (by rw [hj]; simpa using ew) ⟨rfl, fin⟩) hs
theorem c1S : IxR X (rIxT X.K) := by
 intro value slice pins s σ H x y v u Q I rx ry h hs
 obtain ⟨p, xs, i, z, rfl, rfl, hq, he, q⟩ := h
 cases rx
 obtain ⟨t, rfl⟩ := ry
 obtain ⟨its, r, pl, hz⟩ := I.tuple hq
 obtain ⟨j, h1, h2, h3, h4, h5⟩ := b3M he
 obtain ⟨w, ew, rw'⟩ := r.get h2
 have hl := r.length
 have hn := a7Z
 have fin : EP X pins σ Q w s := ⟨z, H, I, rw', q⟩
 exact subscriptTail_builtinR (x := w) pl.typeIs slot_tuple_getitem.lookup
  (getItem_tuple (j := j) (Q := fun r s' => r = w /\ EP X pins σ Q r s') pl (by omega) (by omega) (by rw [List.size_toArray, <- hl]; exact h1) (by simpa using ew) ⟨rfl, fin⟩) hs
theorem b2F (its : List Value) (n j : Nat) (u : Value) : Obj.mapSeq (·.setIfInBounds j u) { cls := .type "list", data := .seq its.toArray n } = { cls := .type "list", data := .seq (its.set j u).toArray n } := by
 simp [Obj.mapSeq]
theorem Inv.lst {pins : List (Addr × Obj)} {σ : St} {H : Hp} {s : Shared} {p : Addr} {xs : List V} (I : Inv X pins σ H s) (h : H p = some (.lst xs)) :
  ∃ (its : List Value) (n : Nat), Vals xs its /\ s.heap.get? p = some { cls := .type "list", data := .seq its.toArray n } /\ xs.length <= sizeLine := by
 obtain ⟨z, its, n, r, e⟩ := I.hok p _ h
 exact ⟨its, n, r, e, z⟩
theorem Inv.lstUpd {pins : List (Addr × Obj)} {σ : St} {H : Hp} {s : Shared} {p : Addr} {xs ys : List V} {its its' : List Value} {n n' : Nat} {f : Obj -> Obj} (I : Inv X pins σ H s) (h : H p = some (.lst xs))
  (ho : s.heap.get? p = some { cls := .type "list", data := .seq its.toArray n }) (hf : f { cls := .type "list", data := .seq its.toArray n } = { cls := .type "list", data := .seq its'.toArray n' }) (r : Vals ys its') (hz : ys.length <= sizeLine) (t : Nat) :
  Inv X pins σ (upd H p (.lst ys)) { s with heap := s.heap.update p f, toks := t } := by
 have e : (s.heap.update p f).get? p = some { cls := .type "list", data := .seq its'.toArray n' } := by
  rw [Heap.get?_update_self f ho (by rw [hf] <;> rfl), hf]
 refine I.write (x := p) (e := p) (by rw [h]; trivial) (.inl rfl) (fun b u hb q => (Heap.get?_update_other _ _ (Ne.symm hb)).trans q) ⟨_, e⟩ ?_
 exact ⟨hz, its', n', r, e⟩
def c3N : V -> V -> V -> Hp -> (Hp -> Prop) -> Prop := fun o i v H Q => ∃ p xs k j, o = .ref p /\ i = .int k /\ H p = some (.lst xs) /\ ixN xs.length k = some j /\ Q (upd H p (.lst (xs.set j v)))
theorem b6I : PSet X c3N := by
 intro pins s σ H o i v ov iv u Q I ro ri rv h
 obtain ⟨p, xs, k, j, rfl, rfl, hp, hj, q⟩ := h
 cases ro
 obtain ⟨t, rfl⟩ := ri
 obtain ⟨its, n, r, ho, hz⟩ := I.lst hp
 obtain ⟨h1, h2, h3, h4⟩ := b3L hj
 have hl := r.length
 have hn := a7Z
 have I' : Inv X pins σ (upd H p (.lst (xs.set j v))) { s with heap := s.heap.update p (Obj.mapSeq (·.setIfInBounds j u)) } :=
  I.lstUpd hp ho (b2F its n j u) (r.set rv j) (by rw [List.length_set]; exact hz) s.toks
 by_cases h0 : 0 <= k
 ·have hk : k.toNat = j := by
   rw [seqIndex_of h0 h4] at h1
   exact Option.some.inj h1
  exact PySem.W.ki_setAt ho h0 (by omega) (by rw [List.size_toArray, <- hl]; exact h4) (by rw [hk]; exact ⟨_, I', q⟩)
 ·have hk : (k + (its.toArray.size : Int)).toNat = j := by
   rw [seqIndex_neg (by omega) h3] at h1
   rw [List.size_toArray, <- hl]
   exact Option.some.inj h1
  exact PySem.W.ki_setBack ho (by omega) (by rw [List.size_toArray, <- hl]; exact h3) (by omega) (by rw [hk]; exact ⟨_, I', q⟩)
theorem a8F (lo hi : Option Int) (n : Nat) : (sliceBounds lo hi none n).1 = ((HT.sIx n 0 lo : Nat) : Int) /\ (sliceBounds lo hi none n).2.1 = ((HT.sIx n n hi : Nat) : Int) /\ (sliceBounds lo hi none n).2.2 = 1 := by
 refine ⟨?_, ?_, rfl⟩
 ·cases lo with
  | none => simp [sliceBounds, HT.sIx]
  | some i =>
   simp only [sliceBounds, HT.sIx, Option.getD_none, show (1 : Int) > 0 by decide, if_true]
   by_cases h : i < 0
   ·simp only [h, if_true] <;> omega
   ·simp only [h, if_false] <;> omega
 ·cases hi with
  | none => simp [sliceBounds, HT.sIx]
  | some i =>
   simp only [sliceBounds, HT.sIx, Option.getD_none, show (1 : Int) > 0 by decide, if_true]
   by_cases h : i < 0
   ·simp only [h, if_true] <;> omega
   ·simp only [h, if_false] <;> omega
theorem a7B (its : List Value) (lo hi : Option Int) : slicePick its.toArray lo hi none = ((its.drop (HT.sIx its.length 0 lo)).take (HT.sIx its.length its.length hi - HT.sIx its.length 0 lo)).toArray := by
 obtain ⟨h1, h2, h3⟩ := a8F lo hi its.toArray.size
 unfold slicePick
 rw [h1, h2, h3]
 simp only [sliceRange_one, pick_run, List.size_toArray] <;> rfl
def rSlL (K : Φρ) : V -> Option Int -> Option Int -> Hp -> VK -> Prop := fun x lo hi H Q => ∃ a xs, x = .ref a /\ SqL K H a xs /\ ∀ p, H p = none -> Q (.ref p) (upd H p (.lst (cutV xs lo hi)))
theorem b8Z : SlR X (rSlL X.K) := by
 intro pins s σ H x v vl vu lo hi sl Q I rx hs pl pu h
 obtain ⟨a, xs, rfl, hx, q⟩ := h
 cases rx
 obtain ⟨its, r, ht, hz⟩ := I.list hx
 have hlen := r.length
 refine ⟨"list", _, slot_list_getitem.lookup, ht.isList.typeIs, ?_⟩
 refine wpAny_getItem_list_slice ht.isList hs pl pu .none (by simp) ?_ (by rw [List.size_toArray] <;> omega)
 rw [a7B, <- hlen]
 refine ⟨.ref s.heap.objs.size, _, I.laid (t' := s.toks) (o := .lst (cutV xs lo hi)) (fun b ob q => Heap.get?_push_of_some _ q) (Nat.le_refl _) ?_, rfl, q _ (I.hok.fresh (Nat.le_refl _))⟩
 exact ⟨Nat.le_trans (a9O xs lo hi) hz, _, 0, (r.drop (HT.sIx xs.length 0 lo)).take (HT.sIx xs.length xs.length hi - HT.sIx xs.length 0 lo), Heap.get?_push_size _ rfl⟩
theorem a8G : CallR X (.builtin "len") (fun xs H Q => ∃ p ys, xs = [.ref p] /\ (SqL X.K H p ys \/ SqT X.K H p ys) /\ Q (.int ys.length) H) := by
 intro pins s σ H xs us Q I r h
 obtain ⟨p, ys, rfl, hq, q⟩ := h
 obtain ⟨u, rfl, rx⟩ := a4X r
 cases rx
 have hn := a7Z
 rcases hq with hq | hq
 ·obtain ⟨its, r', pl, hz⟩ := I.list hq
  have hlen := r'.length
  exact Calls.call_len_list pl.isList (by simp only [List.size_toArray] <;> omega) ⟨.int ys.length, H, I.tok _, ⟨s.toks + 1, by rw [List.size_toArray, hlen]⟩, q⟩
 ·obtain ⟨its, r', pl, hz⟩ := I.tuple hq
  have hlen := r'.length
  exact len_tuple pl (by simp only [List.size_toArray] <;> omega) ⟨.int ys.length, H, I.tok _, ⟨s.toks + 1, by rw [List.size_toArray, hlen]⟩, q⟩
theorem a8H : CallR X (.type "list") (fun xs H Q => ∃ p ys, xs = [.ref p] /\ (SqL X.K H p ys \/ SqT X.K H p ys) /\ ∀ l, H l = none -> Q (.ref l) (upd H l (.lst ys))) := by
 intro pins s σ H xs us Q I r h
 obtain ⟨p, ys, rfl, hq, q⟩ := h
 obtain ⟨u, rfl, rx⟩ := a4X r
 cases rx
 have fin : ∀ (its : List Value), Vals ys its -> ys.length <= sizeLine -> ∀ (h' : Heap) (c' : Nat), (∀ b o', s.heap.get? b = some o' -> h'.get? b = some o') ->
   h'.get? s.heap.objs.size = some { cls := .type "list", dict := none, data := .seq its.toArray c', slots := #[] } -> EP X pins σ Q (.ref s.heap.objs.size) { s with heap := h' } := fun its r' hz h' c' kp e =>
  ⟨.ref s.heap.objs.size, _, I.laid (t' := s.toks) kp (Nat.le_refl _) (show ObjOk X.prog X.w _ h' _ (.lst ys) from ⟨hz, its, c', r', e⟩), rfl, q _ (I.hok.fresh (Nat.le_refl _))⟩
 rcases hq with hq | hq
 ·obtain ⟨its, r', pl, hz⟩ := I.list hq
  have hlen := r'.length
  obtain ⟨o, ho, hc, n, hd⟩ := pl.isList
  exact call_list_seq p (.inl rfl) ho hc hd (fun h' c' kp e => fin its r' hz h' c' kp e) (by simp only [List.size_toArray] <;> omega)
 ·obtain ⟨its, r', pl, hz⟩ := I.tuple hq
  have hlen := r'.length
  obtain ⟨o, ho, hc, n, hd⟩ := pl
  exact call_list_seq p (.inr rfl) ho hc hd (fun h' c' kp e => fin its r' hz h' c' kp e) (by simp only [List.size_toArray] <;> omega)
def tyV (K : Φρ) (T : String) (x : V) (H : Hp) : Prop := match x with
 | .str _ => T = "str"
 | .int _ => T = "int"
 | .ref p => (T = "list" /\ ∃ xs, SqL K H p xs) \/ (T = "tuple" /\ ∃ o, K.lookup p = some o /\ o.cls = .type "tuple" /\ o.dict = none) \/
   (T = "dict" /\ ((∃ kvs, H p = some (.dK kvs)) \/ ∃ kvs, H p = some (.dT kvs))) \/ (T = "set" /\ ∃ S n, H p = some (.set S n))
 | _ => False
theorem b8E {pins : List (Addr × Obj)} {σ : St} {H : Hp} {s : Shared} {T : String} {x : V} {v : Value} (I : Inv X pins σ H s) (r : RelV x v) (ty : tyV X.K T x H) :
  s.TypeIs v T /\ ∀ a, v = .ref a -> ∃ ob, s.heap.get? a = some ob /\ ob.dict = none := by
 cases x with
 | str z =>
  obtain ⟨t, rfl⟩ := r
  cases (show T = "str" from ty)
  exact ⟨typeIs_str s z t, fun _ e => nomatch e⟩
 | int i =>
  obtain ⟨t, rfl⟩ := r
  cases (show T = "int" from ty)
  exact ⟨typeIs_int s i t, fun _ e => nomatch e⟩
 | ref p =>
  cases r
  rcases ty with ⟨rfl, xs, hq⟩ | ⟨rfl, o, hk, hc, hd⟩ | ⟨rfl, hk⟩ | ⟨rfl, S, n, hk⟩
  ·obtain ⟨its, _, pl, _⟩ := I.list hq
   refine ⟨pl.isList.typeIs, fun a e => ?_⟩
   cases e
   obtain ⟨o, n, e, c, hd, _⟩ := pl
   exact ⟨o, e, hd⟩
  ·refine ⟨⟨o, I.kIn p o hk, hc⟩, fun a e => ?_⟩
   cases e
   exact ⟨o, I.kIn _ o hk, hd⟩
  ·have z : ∃ o, s.heap.get? p = some o /\ o.ExactDict := by
    rcases hk with ⟨kvs, hk⟩ | ⟨kvs, hk⟩
    ·obtain ⟨_, _, _, _, o, _, _, e, ex, _⟩ := I.hok p _ hk
     exact ⟨o, e, ex⟩
    ·obtain ⟨_, _, _, _, o, _, _, e, ex, _⟩ := I.hok p _ hk
     exact ⟨o, e, ex⟩
   obtain ⟨o, e, ex⟩ := z
   refine ⟨⟨o, e, ex.1⟩, fun a e2 => ?_⟩
   cases e2
   exact ⟨o, e, ex.2.1⟩
  ·obtain ⟨o, _, _, _, e, ex, _⟩ := I.hok p _ hk
   refine ⟨⟨o, e, ex.1⟩, fun a e2 => ?_⟩
   cases e2
   exact ⟨o, e, ex.2.1⟩
 | _ => exact False.elim ty
def tBM0 (K : Φρ) (T : String) (r : V -> List V -> Hp -> VK -> Prop) (to : TE) : TE := fun σ H Q => to σ H fun x H1 => tyV K T x H1 /\ r x [] H1 Q
def tBM (K : Φρ) (T : String) (r : V -> List V -> Hp -> VK -> Prop) (to : TE) (t : TA) : TE := fun σ H Q => to σ H fun x H1 => tyV K T x H1 /\ t σ H1 fun xs H2 => r x xs H2 Q
variable {o e : Expr} {es : List Expr} {to : TE} {t : TA} {name : Str} {apos cpos : Pos} {T id : String} {r : V -> List V -> Hp -> VK -> Prop}
theorem c1T (pa : PlainAttrs T) (slot : Slot T name id) (hty : typeOf (.builtin id) = pure (.type "method_descriptor")) (hm : MtR X id r) (ho : PE X o to)
  (hbase : attributeBase o name X.env (eval o X.env) = eval o X.env := by rfl) (hline : (apos.endLine == cpos.line) = true := by rfl) : PE X (.Call (.Attribute o name apos) [] [] cpos) (tBM0 X.K T r to) := by
 intro pins s σ H Q I h
 refine wpAny_Call_method0_late hbase hline (thn (ho pins s σ H _ I h) fun v s1 ⟨x, H1, I1, r1, ty, q1⟩ => ?_)
 obtain ⟨h1, h2⟩ := b8E I1 r1 ty
 exact ⟨T, id, pa, slot, hty, h1, h2, Calls.callWith_builtin rfl (PySem.evalArgs_none (hm pins s1 σ H1 x [] v [] Q I1 r1 .nil q1))⟩
theorem c3O (pa : PlainAttrs T) (slot : Slot T name id) (hty : typeOf (.builtin id) = pure (.type "method_descriptor")) (hm : MtR X id r) (ho : PE X o to) (ha : PA X (e :: es) t)
  (hbase : attributeBase o name X.env (eval o X.env) = eval o X.env := by rfl)
  (hfew : ((backTo cpos (starEach (e :: es) X.env)).all (fun x => !x.1) && (backToKw cpos (keywordEach [] X.env)).all (fun x => x.1.isSome)
   && decide ((e :: es).length + ([] : List Keyword).length + (if ([] : List Keyword).isEmpty then 0 else 1) < 30)) = true := by rfl)
  (hline : (apos.endLine == cpos.line) = true := by rfl) (hs : starEach (e :: es) X.env = (false, eval e X.env) :: starEach es X.env := by rfl) (hplain : (backTo cpos (starEach es X.env)).any (·.1) = false := by rfl) :
  PE X (.Call (.Attribute o name apos) (e :: es) [] cpos) (tBM X.K T r to t) := by
 intro pins s σ H Q I h
 refine wpAny_Call_method_late hbase hfew hline rfl (thn (ho pins s σ H _ I h) fun v s1 ⟨x, H1, I1, r1, ty, q1⟩ => ?_)
 obtain ⟨h1, h2⟩ := b8E I1 r1 ty
 refine ⟨T, id, pa, slot, hty, h1, h2, ?_⟩
 have hA := ha cpos pins s1 σ H1 _ I1 q1
 rw [hs] at hA ⊢
 refine Calls.callWith_builtin (by show (false || (backTo cpos (starEach es X.env)).any (·.1)) = false; rw [hplain] <;> rfl) (Calls.evalArgs_plain ?_)
 exact thn hA fun us s2 ⟨vs, H2, I2, r2, q2⟩ => hm pins s2 σ H2 x vs v us Q I2 r1 r2 q2
end
end L2
namespace L2
open PySem PySem.Spec PyProof.Rows
def MtM (X : Cx) (id : String) (r : V -> List V -> Hp -> VK -> Prop) : Prop :=
 ∀ (pins : List (Addr × Obj)) (s : Shared) (σ : St) (H : Hp) (x : V) (xs : List V) (v : Value) (us : List Value) (Q : VK), Inv X pins σ H s -> RelV x v -> Vals xs us -> r x xs H Q ->
  wpAny (model X.prog X.w) X.A (call (.builtin id) (v :: us)) (EP X pins σ Q) X.xe s
theorem Vals.one : ∀ {x : V} {us : List Value}, Vals [x] us -> ∃ u, us = [u] /\ RelV x u
 | _, _, .cons r .nil => ⟨_, rfl, r⟩
theorem Vals.two : ∀ {x y : V} {us : List Value}, Vals [x, y] us -> ∃ u v, us = [u, v] /\ RelV x u /\ RelV y v
 | _, _, _, .cons r (.cons q .nil) => ⟨_, _, rfl, r, q⟩
section
variable {X : Cx} {pins : List (Addr × Obj)} {σ : St} {H : Hp} {s : Shared} {l b : Addr} {xs ys zs : List V}
theorem Inv.lset {its its' : List Value} {n : Nat} {f : Array Value -> Array Value} {t' : Nat} (I : Inv X pins σ H s) (hH : H l = some (.lst xs))
  (e : s.heap.get? l = some { cls := .type "list", data := .seq its.toArray n }) (hf : f its.toArray = its'.toArray) (hv : Vals ys its') (hz : ys.length <= sizeLine) :
  Inv X pins σ (upd H l (.lst ys)) { s with heap := s.heap.update l (Obj.mapSeq f), toks := t' } := by
 have q := PySem.IsL.update e f
 rw [hf] at q
 refine I.write (x := l) (e := l) (by rw [hH]; exact trivial) (.inl rfl) (fun b' u hb hu => (Heap.get?_update_other s.heap (Obj.mapSeq f) (Ne.symm hb)).trans hu) ⟨_, q⟩ ?_
 exact ⟨hz, its', _, hv, q⟩
theorem Inv.lnew {its : List Value} {t' : Nat} (I : Inv X pins σ H s) (hv : Vals ys its) (hz : ys.length <= sizeLine) :
  Inv X pins σ (upd H s.heap.objs.size (.lst ys)) { s with heap := s.heap.push { cls := .type "list", data := .seq its.toArray }, toks := t' } :=
 I.laid (fun _ _ q => Heap.get?_push_of_some _ q) (Nat.le_refl _) ⟨hz, its, 0, hv, Heap.get?_push_size _ rfl⟩
theorem Inv.fresh (I : Inv X pins σ H s) : H s.heap.objs.size = none := I.hok.fresh (Nat.le_refl _)
theorem Inv.lstM (I : Inv X pins σ H s) (hH : H l = some (.lst xs)) : xs.length <= sizeLine /\ ∃ (its : List Value) (n : Nat), Vals xs its /\ xs.length = its.length /\ s.heap.get? l = some { cls := .type "list", data := .seq its.toArray n } := by
 obtain ⟨z, its, n, r, e⟩ := I.hok l _ hH
 exact ⟨z, its, n, r, r.length, e⟩
theorem b6J {n : Nat} (h : n <= sizeLine) : Builtin.List.listTooLong n = false := by
 unfold Builtin.List.listTooLong
 exact decide_eq_false (by omega)
end
section
variable {X : Cx}
def b9A : V -> List V -> Hp -> VK -> Prop := fun x vs H Q => ∃ l xs y, x = .ref l /\ vs = [y] /\ H l = some (.lst xs) /\ xs.length < sizeLine /\ Q .non (upd H l (.lst (xs ++ [y])))
theorem mt_append : MtM X "list.append" b9A := by
 intro pins s σ H x vs v us Q I rx rv h
 obtain ⟨l, xs, y, rfl, rfl, hH, hz, q⟩ := h
 cases rx
 obtain ⟨u, rfl, ru⟩ := rv.one
 obtain ⟨z, its, n, r, hl, e⟩ := I.lstM hH
 refine call_meets F.slot_list_append ⟨_, e, rfl⟩ F.entry_list_append (F.args_list_append_2 _ _) (PySem.list_append l its.toArray n u (by rw [List.size_toArray]; omega)) ⟨e, ?_⟩
 refine ⟨.non, _, I.lset (its' := its ++ [u]) hH e (by simp) (r.append (.cons ru .nil)) ?_, rfl, q⟩
 rw [List.length_append, List.length_singleton]
 omega
def b9B : V -> List V -> Hp -> VK -> Prop := fun x vs H Q => ∃ l b xs zs, x = .ref l /\ vs = [.ref b] /\ H l = some (.lst xs) /\ H b = some (.lst zs) /\ xs.length + zs.length <= sizeLine /\ Q .non (upd H l (.lst (xs ++ zs)))
theorem mt_extend : MtM X "list.extend" b9B := by
 intro pins s σ H x vs v us Q I rx rv h
 obtain ⟨l, b, xs, zs, rfl, rfl, hH, hB, hz, q⟩ := h
 cases rx
 obtain ⟨u, rfl, ru⟩ := rv.one
 cases ru
 obtain ⟨z, its, n, r, hl, e⟩ := I.lstM hH
 obtain ⟨z2, its2, n2, r2, hl2, e2⟩ := I.lstM hB
 have hsz : its.toArray.size + its2.toArray.size <= sizeLine := by rw [List.size_toArray, List.size_toArray]; omega
 have hlong : ¬ (!its.toArray.isEmpty && Builtin.List.listTooLong (its.toArray.size + its2.toArray.size)) = true := by
  rw [b6J hsz, Bool.and_false]
  exact Bool.false_ne_true
 refine call_meets F.slot_list_extend ⟨_, e, rfl⟩ F.entry_list_extend (F.args_list_extend_2 _ _)
  (AutoSeq1.list_extend_list_list_0 l its.toArray n b its2.toArray n2 hlong (by rw [List.size_toArray]; omega) (by omega)) ⟨e, e2, ?_⟩
 refine ⟨.non, _, I.lset (its' := its ++ its2) hH e (by simp) (r.append r2) ?_, rfl, q⟩
 rw [List.length_append]
 omega
def rCat : R2 := fun x y H Q => ∃ l b xs zs, x = .ref l /\ y = .ref b /\ H l = some (.lst xs) /\ H b = some (.lst zs) /\ xs.length + zs.length <= sizeLine /\ ∀ p, H p = none -> Q (.ref p) (upd H p (.lst (xs ++ zs)))
theorem op_cat : OpR X (binaryOp .Add) rCat := by
 intro pins s σ H x y v u Q I rx ry h
 obtain ⟨l, b, xs, zs, rfl, rfl, hH, hB, hz, q⟩ := h
 cases rx
 cases ry
 obtain ⟨z, its, n, r, hl, e⟩ := I.lstM hH
 obtain ⟨z2, its2, n2, r2, hl2, e2⟩ := I.lstM hB
 refine PySem.P.add_list e e2 ?_ (by rw [List.size_toArray, List.size_toArray]; omega)
 have ea : its.toArray ++ its2.toArray = (its ++ its2).toArray := by simp
 rw [ea]
 exact ⟨.ref _, _, I.lnew (t' := s.toks) (r.append r2) (by rw [List.length_append]; omega), rfl, q _ I.fresh⟩
end
section
variable {prog : Program} {w : World} {A : Around} {E : Value -> Shared -> Prop} {s : Shared}
end
section
variable {X : Cx}
end
end L2
namespace Att
open PySem PySem.W PySem.Calls PyProof.Rows
theorem a5K {P : Params} {h : Heap} : ∀ (ns : List Int) (vs : List Value), WellAll P h vs (ns.map WData.int) -> IntsAre vs ns := by
 intro ns
 induction ns with
 | nil =>
  intro vs w
  rw [List.map_nil] at w
  cases w
  exact .nil
 | cons n ns ih =>
  intro vs w
  rw [List.map_cons] at w
  cases w with
  | cons a b =>
   cases a
   exact .cons _ _ (ih _ b)
theorem b3N {l : OpenLaw} {n : Nat} (hn : l.most = some n) {P : Params} {h : Heap} {args : List WData} {vals : List Value}
    (hpre : l.row.toRowW.claim.pre args = true) (hwl : WellAll P h vals args) :
    ∃ a vs ns, vals = [Value.ref a] /\ args = [WData.list (ns.map WData.int)] /\ h.get? a = some { cls := .type "list", data := .seq vs.toArray } /\ IntsAre vs ns /\ ns.length <= n := by
  have hsh : WShape.hasAll [] args [.list .int] = true := (pre_splitW hpre).1
  have hc : l.pre.holds [] { args := args } = true := (pre_splitW hpre).2
  obtain ⟨d, r, rfl, h1, h2⟩ := hasAllW_cons hsh
  obtain rfl := hasAllW_nil h2
  obtain ⟨xs, rfl, h3⟩ := hasW_list h1
  obtain ⟨ns, rfl⟩ := items_int h3
  have hlen : ns.length <= n := by
    unfold OpenLaw.pre at hc
    have h4 : (WTm.not (.lt (.lit (.int (n : Int))) (.len (.arg 0)))).holds [] { args := [.list (ns.map .int)] } = true := by
      have h4 := (holds_andW hc).1
      rw [hn] at h4
      exact h4
    have h5 := condW_of h4 (w_not (w_lt w_lit (w_len_list (w_arg rfl))))
    rw [List.length_map] at h5
    refine Nat.le_of_not_lt fun q => ?_
    have q' : (n : Int) < ((ns.length : Nat) : Int) := by omega
    first
      | (rw [decide_eq_true q'] at h5; exact absurd h5 (by decide))
      | (simp at h5; omega)
  cases hwl with
  | cons w1 w2 =>
    cases w2
    cases w1 with
    | list ho hall => exact ⟨_, _, ns, rfl, rfl, ho, a5K ns _ hall, hlen⟩
theorem b3O (l : OpenLaw) (args : List WData) : l.row.toRowW.claim.post args (.bool true) args = true :=
  postW_of (r := l.row.toRowW) (X := (true == true))
    (show WShape.has [] (.bool true) .bool = true by first | rfl | decide | simp [WShape.has, WShape.arms, WShape.armsAll])
    (show (WTm.eq .res (.lit (.bool true))).value [] { args := args, res := some (.bool true), after := args } = some (.bool (true == true)) from w_eq_bool (w_res rfl) w_lit) rfl
theorem attach_call {l : OpenLaw} {n : Nat} {q : Program} {loose : List Str} {XP : (Str -> Option Value) -> Heap -> Prop} {YP : World -> Heap -> Prop} {d : DefRec}
  (hn : l.most = some n) (hdf : d.params.defaults = [])
  (call : ∀ (w : World) (s₀ s₁ : Shared) (mg mb : Str -> Option Value) (fa : Addr) (o : Obj) (pm cd doc : Value) (a : Addr) (vs : List Value) (ns : List Int),
   Ground q loose [] XP w s₀ mg mb s₁.heap -> YP w s₁.heap ->
   s₁.heap.get? fa = some o -> o.data = .func (docDef d.name d.params d.body d.scope pm cd doc) -> s₁.heap.CodeRec cd d.name -> mg d.name = some (.ref fa) ->
   s₁.heap.get? a = some { cls := .type "list", data := .seq vs.toArray } -> IntsAre vs ns -> ns.length <= n -> s₁.gens = #[] ->
   codeAny (model l.prog w) callerA (.call (.ref fa) ⟨[.ref a], []⟩) (fun r s' => r = .ok (.ret (.bool true)) /\ OldK s₁.heap s'.heap /\ s'.os = s₁.os /\ AllBare s'.gens) s₁) :
  WalkO q loose XP YP l.row.toRowW d [] (fun f vs => PySem.call f vs) := by
 intro w s₀ s₁ mg mb G Y fa o pm cd doc dV kV ho hd hcd hD hmg hg args vals as hpre hlay hrd hwl hlo
 obtain rfl : dV = .none := Dflts.none hD hdf
 obtain rfl : kV = .none := Dflts.noKw hD
 obtain ⟨a, vs, ns, rfl, rfl, hobj, hints, hlen⟩ := b3N hn hpre hwl
 refine enter_call (codeAny_mono (call w s₀ s₁ mg mb fa o pm cd doc a vs ns G Y ho (fd_plain hd) hcd hmg hobj hints hlen hg) fun r s' hq => ?_)
 obtain ⟨rfl, h2, h3, h4⟩ := hq
 exact ⟨.inl ⟨.bool true, .bool true, [], rfl, fun _ => rfl, .bool true, b3O l _, fun _ => ⟨List.Pairwise.nil, fun _ hm => (nomatch hm)⟩⟩, h2, h3, h4⟩
section
variable {prog : Program} {w : World} {A : Around} {E : Value -> Shared -> Prop} {s : Shared} {K : Frag}
end
end Att
namespace L2
open PySem PySem.Spec PyProof.Rows
theorem a8I : ∀ {vs : List Value} {ns : List Int}, IntsAre vs ns -> Vals (ns.map V.int) vs
 | _, _, .nil => .nil
 | _, _, .cons n t h => .cons ⟨t, rfl⟩ (a8I h)
def Only (H : Hp) : Prop := ∀ b, H b = none \/ ∃ o xs, H b = some (.frz o (.lst xs))
theorem b6K {P : Program} {w : World} {K : Φρ} {mg mb : Str -> Option Value} {CX : CXT} {k : Nat} {fa a : Addr} {fd : FuncData} {x : Str} {sp : Sp} {s₁ : Shared} {vs : List Value} {ns : List Int}
  (KX : K.In s₁.heap) (hns : s₁.heap.Ns mainGlobals mg) (hb : s₁.heap.Ns builtinsNs mb) (hbb : ∀ x : Str, x ≠ "__name__" -> mb x = bootBuiltins x) (hlim : s₁.heap.NoLimit) (hg : s₁.gens = #[])
  (ha : s₁.heap.get? a = some { cls := .type "list", data := .seq vs.toArray }) (hi : IntsAre vs ns) (hl : ns.length <= sizeLine) (hr : Room k callerA)
  (F : ∀ base : Heap, K.In base -> base.Ns mainGlobals mg -> FnOk P w K mg base CX k fa fd [x] sp) (hbind : ∀ (s : Shared) (u : Value), BindsTo s fd ⟨[u], []⟩ [(x, u)])
  (hsp : ∀ H : Hp, Only H -> SqL K H a (ns.map V.int) -> sp [.ref a] H (fun v _ => v = .bl true) fun _ _ _ => False)
  (hCX : ∀ H e s', CX [] H s₁ (fun _ _ _ => False) e s' -> False) :
  codeAny (model P w) callerA (.call (.ref fa) ⟨[.ref a], []⟩) (fun r s' => r = .ok (.ret (.bool true)) /\ OldK s₁.heap s'.heap /\ s'.os = s₁.os /\ AllBare s'.gens) s₁ := by
 have rv := a8I hi
 have lenV := hi.length
 have core : ∀ H : Hp, Only H -> SqL K H a (ns.map V.int) -> HOk P w H s₁.heap -> (∀ b, H b ≠ none -> b = a) -> (H a ≠ none -> K.lookup a = none) ->
   codeAny (model P w) callerA (.call (.ref fa) ⟨[.ref a], []⟩) (fun r s' => r = .ok (.ret (.bool true)) /\ OldK s₁.heap s'.heap /\ s'.os = s₁.os /\ AllBare s'.gens) s₁ := by
  intro H hO hS hok hA hK
  have base_of : ∀ {b : Addr} {o : Obj}, s₁.heap.get? b = some o -> H b = none -> (hidT s₁.heap H).get? b = some o := fun e n => b6C e n
  have noA : ∀ {b : Addr} {o : Obj} {es : Array DictEntry} {ep : Nat}, s₁.heap.get? b = some o -> o.data = .dict es ep -> H b = none := fun {b o es ep} e d => by
   cases q : H b with
   | none => rfl
   | some u =>
    have e' : b = a := hA b (by rw [q]; simp)
    subst e'
    rw [ha] at e; cases e
    have d' : Data.seq vs.toArray _ = Data.dict es ep := d
    cases d'
  have nsK : ∀ {b : Addr} {m : Str -> Option Value}, s₁.heap.Ns b m -> (hidT s₁.heap H).Ns b m := fun {b m} ⟨o, es, ep, e, d, r⟩ => ⟨o, es, ep, base_of e (noA e d), d, r⟩
  have hKb : K.In (hidT s₁.heap H) := fun b o e => base_of (KX b o e) (by
   cases q : H b with
   | none => rfl
   | some u =>
    have e' : b = a := hA b (by rw [q]; simp)
    subst e'
    rw [hK (by rw [q]; simp)] at e; cases e)
  have hM : Mod K mg (hidT s₁.heap H) := ⟨hKb, nsK hns, ⟨mb, nsK hb, hbb⟩, let ⟨mc, h1, h2⟩ := hlim; ⟨mc, nsK h1, h2⟩⟩
  have e0 : Env0 P w K mg (hidT s₁.heap H) callerA [] s₁ H := ⟨rfl, hM, fun b o e => b8Q e, Nat.le_of_eq (b2X _ _), trivial, fun b hb => absurd (show b ∈ ([] : List Addr) from hb) (by simp), hok, .of_eq hg⟩
  refine codeAny_mono ((F _ hKb (nsK hns)).run callerA [] s₁ H ⟨[.ref a], []⟩ [.ref a] [.ref a] _ _ hr e0 (hbind s₁ (.ref a)) (.cons rfl .nil) (hsp H hO hS)) fun r s' h => ?_
  cases r with
  | error e => exact (hCX H e s' h).elim
  | ok fl =>
   cases fl with
   | next => exact False.elim h
   | brk => exact False.elim h
   | cont => exact False.elim h
   | ret u =>
    obtain ⟨v, H', os, bare, un, hok', r', q⟩ := h
    have q' : v = .bl true := q
    subst q'
    obtain rfl : u = Value.bool true := r'
    refine ⟨rfl, OldK.of_keep fun b o e => ?_, os, bare⟩
    cases q : H b with
    | none => exact un.keep b o e q (by intro z; exact absurd (show b ∈ ([] : List Addr) from z) (by simp)) (by simp)
    | some u =>
     rcases hO b with z | ⟨ob, xs, z⟩
     ·rw [q] at z; cases z
     ·have z2 := un.frzs b ob _ z
      obtain ⟨e1, _⟩ := hok b _ z
      obtain ⟨e2, _⟩ := hok' b _ z2
      rw [e] at e1; cases e1
      exact e2
 cases hk : K.lookup a with
 | some o =>
  have e := KX a o hk
  rw [ha] at e
  cases e
  refine core (fun _ => none) (fun _ => .inl rfl) (.inr ⟨_, vs.toArray, _, hk, rfl, rfl, rfl, by rw [List.size_toArray, lenV]; exact hl, by simpa using rv⟩) (fun b u z => by have z' : (none : Option HO) = some u := z; cases z') (fun b z => absurd rfl z) fun z => absurd rfl z
 | none =>
  refine core (fun b => if b = a then some (.frz { cls := .type "list", data := .seq vs.toArray } (.lst (ns.map V.int))) else none) (fun b => ?_) (.inl (.inr ⟨{ cls := .type "list", data := .seq vs.toArray }, if_pos rfl⟩)) (fun b u z => ?_) (fun b z => ?_) fun _ => hk
  ·by_cases hb : b = a
   ·exact .inr ⟨_, _, if_pos hb⟩
   ·exact .inl (if_neg hb)
  ·by_cases hb : b = a
   ·have z' := (if_pos hb).symm.trans z
    cases z'
    subst hb
    exact ⟨ha, by rw [List.length_map]; exact hl, vs, _, rv, ha⟩
   ·have z' := (if_neg hb).symm.trans z
    cases z'
  ·by_cases hb : b = a
   ·exact hb
   ·exact absurd (if_neg hb) z
end L2
namespace L2
open PySem PySem.Spec PyProof.Rows
abbrev KOf {K : Φρ} {h : Heap} (_ : K.In h) : Φρ := K
theorem b9C {l : PySem.W.OpenLaw} {n k : Nat} {q : Program} {loose : List Str} {XP : (Str -> Option Value) -> Heap -> Prop} {YP : World -> Heap -> Prop} {d : DefRec} {K : Params -> Φρ} {CX : World -> CXT} {sp : World -> Sp} {x : Str}
  (hn : l.most = some n) (hn2 : n <= sizeLine) (hdf : d.params.defaults = []) (hr : Room k callerA)
  (hY : ∀ (w : World) (h : Heap), YP w h -> (K w.params).In h)
  (F : ∀ (w : World) (mg : Str -> Option Value) (fa : Addr) (h : Heap), (K w.params).In h -> h.Ns mainGlobals mg -> mg d.name = some (.ref fa) ->
   ∃ fd : FuncData, (∀ (s : Shared) (u : Value), BindsTo s fd ⟨[u], []⟩ [(x, u)]) /\
    ∀ base : Heap, (K w.params).In base -> base.Ns mainGlobals mg -> FnOk l.prog w (K w.params) mg base (CX w) k fa fd [x] (sp w))
  (hsp : ∀ (w : World) (H : Hp) (a : Addr) (ns : List Int), ns.length <= n -> Only H -> SqL (K w.params) H a (ns.map V.int) -> sp w [.ref a] H (fun v _ => v = .bl true) fun _ _ _ => False)
  (hCX : ∀ (w : World) (H : Hp) (s : Shared) (e : Value) (s' : Shared), CX w [] H s (fun _ _ _ => False) e s' -> False) :
  PySem.W.WalkO q loose XP YP l.row.toRowW d [] (fun f vs => PySem.call f vs) := by
 refine Att.attach_call hn hdf fun w s₀ s₁ mg mb fa o pm cd doc a vs ns G Y ho hd hcd hmg hobj hints hlen hg => ?_
 have KX := hY w _ Y
 obtain ⟨fd, hb, hF⟩ := F w mg fa _ KX G.T.g hmg
 exact b6K KX G.T.g G.T.b G.T.builtins G.T.nolimit hg hobj hints (Nat.le_trans hlen hn2) hr hF hb (fun H hO hS => hsp w H a ns hlen hO hS) fun H e s' => hCX w H s₁ e s'
theorem walk_ofK {l : PySem.W.OpenLaw} {n k : Nat} {q : Program} {loose : List Str} {XP : (Str -> Option Value) -> Heap -> Prop} {YP : World -> Heap -> Prop} {d : DefRec} {K : Params -> Φρ} {CX : CXT} {sp : Φρ -> Sp} {x : Str}
  (hn : l.most = some n) (hn2 : n <= sizeLine) (hdf : d.params.defaults = []) (hr : Room k callerA)
  (hY : ∀ (w : World) (h : Heap), YP w h -> (K w.params).In h)
  (F : ∀ (w : World) (mg : Str -> Option Value) (fa : Addr) (h : Heap), (K w.params).In h -> h.Ns mainGlobals mg -> mg d.name = some (.ref fa) ->
   ∃ fd : FuncData, (∀ (s : Shared) (u : Value), BindsTo s fd ⟨[u], []⟩ [(x, u)]) /\
    ∀ base : Heap, (K w.params).In base -> base.Ns mainGlobals mg -> FnOk l.prog w (K w.params) mg base CX k fa fd [x] (sp (K w.params)))
  (hsp : ∀ (K : Φρ) (H : Hp) (a : Addr) (ns : List Int), ns.length <= n -> Only H -> SqL K H a (ns.map V.int) -> sp K [.ref a] H (fun v _ => v = .bl true) fun _ _ _ => False)
  (hCX : ∀ (H : Hp) (s : Shared) (e : Value) (s' : Shared), CX [] H s (fun _ _ _ => False) e s' -> False) :
  PySem.W.WalkO q loose XP YP l.row.toRowW d [] (fun f vs => PySem.call f vs) :=
 b9C (K := K) (CX := fun _ => CX) (sp := fun w => sp (K w.params)) hn hn2 hdf hr hY F (fun w H a ns h1 h2 h3 => hsp (K w.params) H a ns h1 h2 h3) fun _ H s e s' => hCX H s e s'
end L2
namespace L2
open PySem PySem.Spec PyProof.Rows
def a0Z (s : Stmt) : Arguments := match s with
 | .FunctionDef _ a _ _ _ _ _ _ _ _ => a
 | _ => { posonlyargs := [], args := [], vararg := none, kwonlyargs := [], kw_defaults := [], kwarg := none, defaults := [] }
def a0U (s : Stmt) : List Stmt := match s with
 | .FunctionDef _ _ b _ _ _ _ _ _ _ => b
 | _ => []
def a0D (s : Stmt) : Scope := match s with
 | .FunctionDef _ _ _ _ _ _ sc _ _ _ => sc
 | _ => { kind := .function, names := [], isGenerator := false, isCoroutine := false }
abbrev CX0 : CXT := fun _ _ _ _ _ _ => False
abbrev E0 : XK := fun _ _ _ => False
theorem a0T {X : Cx} : b0T CX0 X E0 := fun _ _ _ _ _ _ _ h => h.elim
structure Fun (K : Φρ) (x qual : Str) (st : Stmt) (f : Addr) (fd : FuncData) : Prop where
 ex : ∃ (oc : Value) (od : Option Addr) (kV doc pm : Value) (an : Option Addr) (cdv ct : Value) (osl : Array (Option Value)),
  fd = PySem.W.fnOf x qual (a0Z st) (a0U st) (a0D st) .none kV doc pm an cdv ct /\ K.lookup f = some ⟨oc, od, .func fd, osl⟩ /\ PySem.W.codeIn K cdv qual = true
 kp : PySem.W.keepIn K (.ref f) = true
section
variable {P : Program} {w : World} {K : Φρ} {mg : Str -> Option Value} {base : Heap}
theorem Fun.ok {x qual : Str} {st : Stmt} {f : Addr} {fd : FuncData} {N ps : List Str} {k : Nat} {sp : Sp} (F : Fun K x qual st f fd) (S : FnScope N ps (a0D st)) (len : ∀ vs H Q E, sp vs H Q E -> vs.length = ps.length)
  (hbody : ∀ (cdv : Value) (A : Around) (outer : List Env) (s : Shared) (H : Hp) (vs : List V) (Q : VK) (E : XK), Room k (A.deeper (envOfC qual (a0D st) s.heap.objs.size f cdv)) -> sp vs H Q E ->
   ∃ t, PSs (cxOf CX0 P w K mg base N qual (a0D st) f cdv A outer s H E).nox (a0U st) t /\ t { nx := fun _ H' => Q .non H', rt := Q } (a4D N vs) H) : FnOk P w K mg base CX0 (k + 1) f fd ps sp := by
 obtain ⟨oc, od, kV, doc, pm, an, cdv, ct, osl, rfl, lk, hcd⟩ := F.ex
 refine c1R lk hcd S len fun A outer s H vs Q E hr hsp => ?_
 obtain ⟨t, h, q⟩ := hbody cdv A outer s H vs Q E hr hsp
 exact ⟨t, h.nox, q⟩
theorem Fun.binds {x qual : Str} {st : Stmt} {f : Addr} {fd : FuncData} {ps : List Str} (F : Fun K x qual st f fd)
  (h : ∀ (kV doc pm : Value) (an : Option Addr) (cdv ct : Value) (us : List Value), us.length = ps.length -> bindArgs (PySem.W.fnOf x qual (a0Z st) (a0U st) (a0D st) .none kV doc pm an cdv ct) ⟨us, []⟩ = pure (ps.zip us)) : Binds K fd ps [] := by
 obtain ⟨oc, od, kV, doc, pm, an, cdv, ct, osl, rfl, lk, hcd⟩ := F.ex
 exact .all (h kV doc pm an cdv ct)
theorem c1U {x qual : Str} {st : Stmt} {f : Addr} {oc : Value} {od an : Option Addr} {osl : Array (Option Value)} {kV doc pm cdv ct : Value} (l : K.lookup f = some ⟨oc, od, .func (PySem.W.fnOf x qual (a0Z st) (a0U st) (a0D st) .none kV doc pm an cdv ct), osl⟩)
  (c : PySem.W.codeIn K cdv qual = true) (k : PySem.W.keepIn K (.ref f) = true) : Fun K x qual st f (PySem.W.fnOf x qual (a0Z st) (a0U st) (a0D st) .none kV doc pm an cdv ct) := ⟨⟨oc, od, kV, doc, pm, an, cdv, ct, osl, rfl, l, c⟩, k⟩
end
theorem a0V {n : Nat} (h : n <= 1000) : n < sizeLine := Nat.lt_of_le_of_lt h (by decide)
section
variable {X : Cx}
theorem pv (i : Nat) {x : Str} {pos : Pos} (hN : X.N[i]? = some x := by rfl) (hv : Vis X.env.scope x := by first | exact Or.inl rfl | exact Or.inr (Or.inl rfl) | exact Or.inr (Or.inr rfl)) (hd : (x == ("__debug__" : Str)) = false := by decide)
  (hcd : (x == ("__classdict__" : Str)) = false := by decide) : PE X (.Name x pos) (tVar i) := c1I hN hv hd hcd
end
theorem iteF {A B : Prop} (h : B) : if false = true then A else B := by
 rw [if_neg Bool.false_ne_true]
 exact h
theorem iteT {A B : Prop} (h : A) : if true = true then A else B := by
 rw [if_pos rfl]
 exact h
theorem ite2 {c A B : Prop} [Decidable c] (h1 : c -> A) (h2 : ¬ c -> B) : if c then A else B := by
 by_cases h : c
 ·rw [if_pos h]
  exact h1 h
 ·rw [if_neg h]
  exact h2 h
def Same (H H' : Hp) : Prop := ∀ b o, H b = some o -> H' b = some o
theorem Same.refl (H : Hp) : Same H H := fun _ _ h => h
theorem Same.trans {H H1 H2 : Hp} (a : Same H H1) (b : Same H1 H2) : Same H H2 := fun c o h => b c o (a c o h)
theorem Same.free {H H' : Hp} (e : Same H H') {l : Addr} (h : H' l = Option.none) : H l = Option.none := by
 cases q : H l with
 | none => rfl
 | some o =>
  rw [e l o q] at h
  cases h
theorem Same.seq {K : Φρ} {H H' : Hp} {a : Addr} {xs : List V} (e : Same H H') (h : SqL K H a xs) : SqL K H' a xs := by
 rcases h with (h | ⟨o, h⟩) | h
 ·exact .inl (.inl (e _ _ h))
 ·exact .inl (.inr ⟨o, e _ _ h⟩)
 ·exact .inr h
end L2
namespace L2
open PySem PySem.Spec PyProof.Rows
def clOf (cells : List (Str × Addr)) : List (Str × NameKind) -> List (Str × Addr) -> List (Str × Addr)
 | [], acc => acc
 | (n, k) :: r, acc => clOf cells r (if k == .free then (match cells.lookup n with | some c => (n, c) :: acc | none => acc) else acc)
theorem b8F {env : Env} : ∀ (ns : List (Str × NameKind)) (acc : List (Str × Addr)), (∀ x ∈ ns, x.2 = .free -> ∃ c, env.cells.lookup x.1 = some c) ->
  (forIn ns acc fun (x : Str × NameKind) (cs : List (Str × Addr)) => (if x.2 == NameKind.free then do let a <- cellOf env x.1; pure (ForInStep.yield ((x.1, a) :: cs)) else pure (ForInStep.yield cs) : Sem (ForInStep (List (Str × Addr))))) = pure (clOf env.cells ns acc)
 | [], acc, _ => by simp [clOf]
 | (n, k) :: r, acc, h => by
  rw [List.forIn_cons]
  have ih := fun a => b8F (env := env) r a fun x hx => h x (List.mem_cons_of_mem _ hx)
  unfold clOf
  by_cases hk : (k == NameKind.free) = true
  ·obtain ⟨c, hc⟩ := h (n, k) List.mem_cons_self (by simpa using hk)
   have hc' : env.cells.lookup n = some c := hc
   have hce : cellOf env n = pure c := by simp only [cellOf, hc']
   simp only [hk, if_true, hce, pure_bind, hc']
   exact ih _
  ·simp only [hk, if_false, pure_bind, ih]
   simp
theorem a6P {scope : Scope} {env : Env} (h : ∀ x ∈ scope.names, x.2 = .free -> ∃ c, env.cells.lookup x.1 = some c) : closureFor scope env = pure (clOf env.cells scope.names []) := by
 have q := b8F (env := env) scope.names [] h
 unfold closureFor
 rw [<- q]
 first
  | rfl
  | simp
theorem a5B {cells : List (Str × Addr)} : ∀ (ns : List (Str × NameKind)) (acc : List (Str × Addr)) {x : Str} {c : Addr}, (∀ y d, acc.lookup y = some d -> cells.lookup y = some d) -> (clOf cells ns acc).lookup x = some c -> cells.lookup x = some c
 | [], acc, x, c, ha, h => ha x c h
 | (n, k) :: r, acc, x, c, ha, h => by
  unfold clOf at h
  refine a5B r _ (fun y d hy => ?_) h
  split at hy
  ·split at hy
   ·rename_i c' hc'
    rw [List.lookup_cons] at hy
    split at hy
    ·rename_i e
     have e' : y = n := by simpa using e
     subst e'
     rw [hc']; exact hy
    ·exact ha y d hy
   ·exact ha y d hy
  ·exact ha y d hy
theorem a8J {cells : List (Str × Addr)} : ∀ (ns : List (Str × NameKind)) (acc : List (Str × Addr)) {x : Str}, (∃ c, acc.lookup x = some c) -> ∃ c, (clOf cells ns acc).lookup x = some c
 | [], acc, x, h => h
 | (n, k) :: r, acc, x, h => by
  unfold clOf
  refine a8J r _ ?_
  split
  ·split
   ·rw [List.lookup_cons]
    split
    ·exact ⟨_, rfl⟩
    ·exact h
   ·exact h
  ·exact h
theorem a7C {cells : List (Str × Addr)} : ∀ (ns : List (Str × NameKind)) (acc : List (Str × Addr)) {x : Str}, (x, NameKind.free) ∈ ns -> (∃ c, cells.lookup x = some c) -> ∃ c, (clOf cells ns acc).lookup x = some c
 | [], acc, x, h, _ => nomatch h
 | (n, k) :: r, acc, x, h, hc => by
  unfold clOf
  rcases List.mem_cons.mp h with e | h
  ·cases e
   obtain ⟨c, hc⟩ := hc
   refine a8J r _ ?_
   simp [hc]
  ·exact a7C r _ h hc
end L2
namespace L2
open PySem PySem.Spec PyProof.Rows
theorem Inv.track {X : Cx} {pins : List (Addr × Obj)} {σ : St} {H : Hp} {s : Shared} {a : Addr} {o : HO} (I : Inv X pins σ H s) (hn : H a = none) (h0 : X.s₀.heap.objs.size <= a) (hL : a ≠ X.env.locals)
  (hc : ∀ x c, X.env.cells.lookup x = some c -> c ≠ a) (hp : ∀ p ∈ X.pn ++ pins, p.1 ≠ a) (new : ObjOk X.prog X.w (upd H a o) s.heap a o) : Inv X pins σ (upd H a o) s := by
 have ne : ∀ b u, H b = some u -> b ≠ a := fun b u e => a0K e hn
 have q := I.step (g' := s.gens) (d' := s.drawn) (t' := s.toks) (h' := s.heap) (H' := upd H a o) (ch := [a]) (fun b hb => ?_) (fun b ob _ _ _ e _ => e) (fun b ob _ _ _ e _ => ⟨ob.slots, e⟩) (fun b ob hb _ n => ?_)
  (fun b ob _ e => ⟨ob, e⟩) (fun b xs e => by rw [a0P (ne b _ e)]; exact e) (fun b ob u e => by rw [a0P (ne b _ e)]; exact e) (fun b ps e => ⟨#[], by rw [a0P (ne b _ e), e]; simp⟩) (fun m hm => hm) (fun b u e => ?_) I.bare
 ·exact q
 ·have e : b = a := by simpa using hb
  subst e
  exact ⟨.inr h0, hL, hc, hp⟩
 ·rw [a0P (fun z => hb (by simp [z]))]; exact n
 ·by_cases hb : b = a
  ·subst hb; rw [a1V] at e; cases e; exact new
  ·rw [a0P hb] at e
   exact (I.hok b u e).stay (fun c v _ q => q) (fun c q => by rw [a0P (a0K q hn)]; exact q) fun c xs q => by rw [a0P (a0K q hn)]; exact q
def a2V (X : Cx) (N' : List Str) (scope : Scope) (C : Addr) (s : Shared) (H : Hp) (fp : List Addr) (xe : Value -> Shared -> Prop) : Cx :=
 { X with N := N', s₀ := s, H₀ := H, env := compEnvC scope (clOf X.env.cells scope.names []) C X.env, outer := X.stack, ex := fp, fn := fun _ => false, xe := xe }
structure BlkOk (X : Cx) (N' : List Str) (ix : List (Option Nat)) (scope : Scope) : Prop where
 kind : scope.kind = .function
 nocell : ∀ y ∈ scope.names, y.2 ≠ .cell
 locs : ∀ y ∈ scope.names, y.2 = .local -> scope.names.lookup y.1 = some .local
 free : ∀ y ∈ scope.names, y.2 = .free -> X.env.kindOf y.1 = some .cell \/ X.env.kindOf y.1 = some .free
 len : ix.length = N'.length
 cap : ∀ (i j : Nat), ix[i]? = some (some j) -> ∃ x, N'[i]? = some x /\ X.N[j]? = some x /\ scope.names.lookup x = some .free
def capt (ix : List (Option Nat)) (σ : St) : St := ix.map fun o => o.bind fun j => (σ[j]?).join
theorem a4J {env : Env} {x : Str} : ∀ {names : List (Str × NameKind)}, names.lookup x = some .free -> (names.map fun (n, k) => if (k == NameKind.free && env.scope.kind == .function && env.kindOf n == some .cell) then (n, NameKind.cell) else (n, k)).lookup x = some .cell \/ (names.map fun (n, k) => if (k == NameKind.free && env.scope.kind == .function && env.kindOf n == some .cell) then (n, NameKind.cell) else (n, k)).lookup x = some .free
 | [], h => by simp at h
 | (n, k) :: r, h => by
  have ih := @a4J env x r
  simp only [List.map_cons]
  cases hx : x == n with
  | true =>
   simp only [List.lookup_cons, hx] at h
   cases h
   by_cases hc : (NameKind.free == NameKind.free && env.scope.kind == .function && env.kindOf n == some .cell) = true
   ·rw [if_pos hc]; left; simp [List.lookup_cons, hx]
   ·rw [if_neg hc]; right; simp [List.lookup_cons, hx]
  | false =>
   simp only [List.lookup_cons, hx] at h
   by_cases hc : (k == NameKind.free && env.scope.kind == .function && env.kindOf n == some .cell) = true
   ·rw [if_pos hc]; simp only [List.lookup_cons, hx]; exact ih h
   ·rw [if_neg hc]; simp only [List.lookup_cons, hx]; exact ih h
theorem a4K {env : Env} {x : Str} : ∀ {names : List (Str × NameKind)}, (∀ y ∈ names, y.2 ≠ .cell) -> ((names.map fun (n, k) => if (k == NameKind.free && env.scope.kind == .function && env.kindOf n == some .cell) then (n, NameKind.cell) else (n, k)).lookup x = some .cell \/ (names.map fun (n, k) => if (k == NameKind.free && env.scope.kind == .function && env.kindOf n == some .cell) then (n, NameKind.cell) else (n, k)).lookup x = some .free) -> (x, NameKind.free) ∈ names
 | [], _, h => by simp at h
 | (n, k) :: r, hn, h => by
  have ih := @a4K env x r fun y hy => hn y (List.mem_cons_of_mem _ hy)
  simp only [List.map_cons] at h
  cases hx : x == n with
  | true =>
   have e : x = n := by simpa using hx
   subst e
   have hk := hn (x, k) List.mem_cons_self
   by_cases hc : (k == NameKind.free && env.scope.kind == .function && env.kindOf x == some .cell) = true
   ·have hf : k = .free := by
     simp only [Bool.and_eq_true, beq_iff_eq] at hc
     exact hc.1.1
    subst hf
    exact List.mem_cons_self
   ·rw [if_neg hc] at h
    simp only [List.lookup_cons, hx] at h
    rcases h with h | h
    ·exact absurd (Option.some.inj h) hk
    ·have hf : k = .free := Option.some.inj h
     subst hf
     exact List.mem_cons_self
  | false =>
   refine List.mem_cons_of_mem _ (ih ?_)
   by_cases hc : (k == NameKind.free && env.scope.kind == .function && env.kindOf n == some .cell) = true
   ·rw [if_pos hc] at h; simpa only [List.lookup_cons, hx] using h
   ·rw [if_neg hc] at h; simpa only [List.lookup_cons, hx] using h
theorem a8K {X : Cx} {pins : List (Addr × Obj)} {σ : St} {H : Hp} {s : Shared} {N' : List Str} {ix : List (Option Nat)} {scope : Scope} {i : Nat} {x : Str} {v : V} (B : BlkOk X N' ix scope) (I : Inv X pins σ H s)
  (h1 : N'[i]? = some x) (h2 : (capt ix σ)[i]? = some (some v)) : ∃ u c, RelV v u /\ (clOf X.env.cells scope.names []).lookup x = some c /\ X.env.cells.lookup x = some c /\ s.heap.IsCell c (some u) /\
   ((relabel scope X.env).names.lookup x = some .cell \/ (relabel scope X.env).names.lookup x = some .free) := by
 have clB : ∀ x c, (clOf X.env.cells scope.names []).lookup x = some c -> X.env.cells.lookup x = some c := fun x c h => a5B scope.names [] (fun _ _ z => by simp at z) h
 obtain ⟨j, hj, hv⟩ : ∃ j, ix[i]? = some (some j) /\ σ[j]? = some (some v) := by
  unfold capt at h2
  rw [List.getElem?_map] at h2
  cases e : ix[i]? with
  | none => rw [e] at h2; cases h2
  | some o =>
   rw [e] at h2
   cases o with
   | none => cases h2
   | some j =>
    refine ⟨j, rfl, ?_⟩
    have h2' : (σ[j]?).join = some v := Option.some.inj h2
    cases e2 : σ[j]? with
    | none => rw [e2] at h2'; cases h2'
    | some o2 => rw [e2] at h2'; have : o2 = some v := h2'; rw [this]
 obtain ⟨x', hx1, hx2, hx3⟩ := B.cap i j hj
 have exx : x' = x := by
  have h1' : N'[i]? = some x := h1
  rw [hx1] at h1'; exact Option.some.inj h1'
 subst exx
 have hmem := PySem.mem_of_lookup hx3
 have hout := B.free _ hmem rfl
 obtain ⟨m0, _, hl⟩ := I.loc
 obtain ⟨u, r, l⟩ := hl j x' v hx2 hv (by
  rcases hout with e | e
  ·exact .inr (.inl e)
  ·exact .inr (.inr e))
 rcases l with ⟨k, _⟩ | ⟨k, c, e, z⟩
 ·rcases hout with e | e
  ·rw [e] at k; cases k
  ·rw [e] at k; cases k
 ·obtain ⟨c', hc'⟩ := a7C scope.names [] hmem (I.ok.has x' hout)
  have := clB x' c' hc'
  rw [e] at this; cases this
  exact ⟨u, c, r, hc', e, z, a4J hx3⟩
theorem b3P {X : Cx} {pins : List (Addr × Obj)} {σ : St} {H : Hp} {s s4 : Shared} {N' : List Str} {ix : List (Option Nat)} {scope : Scope} {C : Addr} {fp : List Addr} {xe : Value -> Shared -> Prop} {m : Str -> Option Value}
  (B : BlkOk X N' ix scope) (I : Inv X pins σ H s) (hf : ∀ b ∈ fp, FpOk X pins H b) (hC : s.heap.objs.size <= C) (hfs : ∀ b ∈ fp, b < s.heap.objs.size)
  (ho : s4.os = s.os) (hg : s4.gens = s.gens) (hk : ∀ b o, s.heap.get? b = some o -> s4.heap.get? b = some o) (hns : s4.heap.Ns C m) :
  Inv (a2V X N' scope C s H fp xe) pins (capt ix σ) H s4 := by
 have clB : ∀ x c, (clOf X.env.cells scope.names []).lookup x = some c -> X.env.cells.lookup x = some c := fun x c h => a5B scope.names [] (fun _ _ z => by simp at z) h
 have hfree : H C = none := I.hok.fresh hC
 have neC : ∀ b o, s.heap.get? b = some o -> b ≠ C := fun b o e => Nat.ne_of_lt (Nat.lt_of_lt_of_le (Heap.lt_size e) hC)
 refine ⟨⟨I.ok.mod, B.kind, I.ok.glob, I.ok.blt, hC, fun x y c h1 h2 => I.ok.inj x y c (clB x c h1) (clB y c h2), fun x hx => ?_, fun x c h => absurd (show false = true from h) Bool.false_ne_true, I.ok.hd, I.ok.frames, .inl rfl, fun b hb => ⟨?_, fun x c e => ?_⟩, I.bs, ?_, fun b o e hb => ?_, fun b hb z => ?_, I.stack, I.stkFree⟩,
  ho, ?_, Un.kept hk, ⟨m, hns, fun i x v h1 h2 h3 => ?_⟩, fun x c e => ?_, hfree, fun x c e => I.freeC x c (clB x c e), fun p hp => ?_, I.hok.kept hk, ?_⟩
 ·have hx' := a4K (env := X.env) (x := x) B.nocell hx
  exact a7C scope.names [] hx' (I.ok.has x (B.free _ hx' rfl))
 ·exact Nat.ne_of_lt (Nat.lt_of_lt_of_le (hfs b hb) hC)
 ·exact (hf b hb).2.2.2.2.1 x c (clB x c e)
 ·exact Nat.le_trans I.ok.bsz I.sz
 ·obtain ⟨_, _, _, q, _⟩ := hf b hb
  rcases q with q | q
  ·exact I.ok.noex b o e q
  ·exact absurd (Nat.lt_of_lt_of_le (Heap.lt_size (I.ok.bs b o e).1) q) (Nat.lt_irrefl _)
 ·obtain ⟨_, q1, q2, _⟩ := hf b hb
  rcases List.mem_cons.mp (I.stkSub b z) with e | e
  ·exact q1 e
  ·exact q2 e
 ·rw [hg]; exact I.bare
 ·obtain ⟨u, c, r, hc1, _, ⟨oc, z1, z2⟩, hk'⟩ := a8K B I h1 h2
  exact ⟨u, r, .inr ⟨hk', c, hc1, oc, hk _ _ z1, z2⟩⟩
 ·obtain ⟨v, oc, h1, h2⟩ := I.cell x c (clB x c e)
  exact ⟨v, oc, hk _ _ h1, h2⟩
 ·obtain ⟨e, n, ne, nf, d⟩ := I.pin p hp
  refine ⟨hk _ _ e, n, neC _ _ e, fun z => ?_, d⟩
  rcases List.mem_cons.mp (I.stkSub p.1 z) with e' | e'
  ·exact ne e'
  ·exact nf e'
 ·show (ix.map _).length = N'.length
  rw [List.length_map]; exact B.len
end L2
namespace L2
open PySem PySem.Spec PyProof.Rows
theorem a9Q {prog : Program} {w : World} {A : Around} {R : Result -> Shared -> Prop} {s : Shared} {elt target iter : Expr} {ifs : List Expr} {scope : Scope} {pos : Pos} {it acc : Value} {env : Env} (Iv : Nat -> Shared -> Prop)
  (turn : ∀ n s, Iv n s -> wpAny (model prog w) A (pyNext it) (fun r s₁ => match r with
   | none => R (.ok .next) s₁
   | some v => wpAny (model prog w) A (letOwnedTupleGo target it v) (fun _ s₁' => wpAny (model prog w) A (assign target env v) (fun _ s₂ =>
     wpAny (model prog w) A (forIn ifs true fun c r => if r = true then do let ok <- isTrue c env (eval c env); pure (ForInStep.yield ok) else pure (ForInStep.yield r)) (fun ok s₃ =>
      if ok = true then wpAny (model prog w) A (eval elt env) (fun x s₄ =>
       wpAny (model prog w) A (call (.builtin "list.append") [acc, x]) (fun _ s₅ => ∃ m, m < n /\ Iv m s₅) (notedBy (model prog w) A env fun e s' => R (.error e) s') s₄) (notedBy (model prog w) A env fun e s' => R (.error e) s') s₃
      else ∃ m, m < n /\ Iv m s₃) (notedBy (model prog w) A env fun e s' => R (.error e) s') s₂) (notedBy (model prog w) A env fun e s' => R (.error e) s') s₁') (notedBy (model prog w) A env fun e s' => R (.error e) s') s₁) (notedBy (model prog w) A env fun e s' => R (.error e) s') s)
  (n : Nat) (h : Iv n s) :
  codeAny (model prog w) A (.compLoop (.ListComp elt [⟨target, iter, ifs, 0⟩] scope pos) 0 it acc env) R s := by
 refine codeAny_loop rfl Iv (fun n s hI => ?_) n h
 show wpAny _ A ((compTurn (.ListComp elt [⟨target, iter, ifs, 0⟩] scope pos) 0 it acc env).onRaise (fun x => do noteFrame x env; theTreesLotGoes x)) _ _ s
 refine wpAny_noted ?_
 rw [compTurn_list]
 refine wpAny_bind (wpAny_standAt (wpAny_bind (wpAny_mono (turn n s hI) (fun r s₁ h₁ => ?_) fun _ _ h' => h')))
 cases r with
 | none => exact wpAny_pure h₁
 | some v =>
  refine wpAny_bind (wpAny_mono h₁ (fun _ s₁' h₁' => ?_) fun _ _ h' => h')
  refine wpAny_bind (wpAny_mono h₁' (fun _ s₂ h₂ => wpAny_bind (wpAny_mono h₂ (fun ok s₃ h₃ => ?_) fun _ _ h' => h')) fun _ _ h' => h')
  cases ok with
  | false => exact wpAny_pure ⟨rfl, h₃⟩
  | true =>
   exact wpAny_bind (wpAny_bind (wpAny_mono h₃ (fun x s₄ h₄ => wpAny_bind (wpAny_mono h₄ (fun _ s₅ h₅ => wpAny_pure (wpAny_pure ⟨rfl, h₅⟩)) fun _ _ h' => h')) fun _ _ h' => h'))
def PTs (X : Cx) (ifs : List Expr) (t : TT) : Prop :=
 ∀ (pins : List (Addr × Obj)) (s : Shared) (σ : St) (H : Hp) (Q : Bool -> Hp -> Prop), Inv X pins σ H s -> t σ H Q ->
  wpAny (model X.prog X.w) X.A (forIn ifs true fun c r => if r = true then do let ok <- isTrue c X.env (eval c X.env); pure (ForInStep.yield ok) else pure (ForInStep.yield r)) (TP X pins σ Q) X.xe s
def c3P : TT := fun _ H Q => Q true H
theorem a2O {X : Cx} : PTs X [] c3P := fun _ _ _ H _ I h => wpAny_tests_nil ⟨H, I, h⟩
theorem b3Q {X : Cx} {c : Expr} {t : TT} (h : PT X c t) : PTs X [c] t := fun pins s σ H Q I hw => wpAny_tests_one (h pins s σ H Q I hw)
def a4L (ix : List (Option Nat)) (g : TG) (tt : TT) (te : TE) (σ : St) (H1 : Hp) (Q : VK) (J : It) : Prop := ∃ W : Nat -> Nat -> List V -> Hp -> Prop, (∃ m, W 0 m [] H1) /\ ∀ i m ys H, W i m ys H ->
 (J.stop i H /\ ys.length <= sizeLine /\ ∀ p, H p = none -> Q (.ref p) (upd H p (.lst ys))) \/
 (J.go i H /\ ys.length <= sizeLine /\ ∃ N : List V -> Hp -> Prop, (∀ ys' H', N ys' H' -> ∃ m', m' < m /\ W (i + 1) m' ys' H') /\ ∀ x H', J.yld i H x H' -> g x (capt ix σ) H' fun σ2 H2 => tt σ2 H2 fun b H3 => if b = true then te σ2 H3 fun v H4 => N (ys ++ [v]) H4 else N ys H3)
def tLC (ix : List (Option Nat)) (wi : TI) (g : TG) (tt : TT) (te : TE) : TE := fun σ H Q => wi σ H fun J H1 => a4L ix g tt te σ H1 Q J
section
variable {X : Cx} {elt tg iter : Expr} {ifs : List Expr} {scope : Scope} {pos : Pos} {N' : List Str} {ix : List (Option Nat)} {wi : TI} {g : TG} {tt : TT} {te : TE}
theorem b8G (B : BlkOk X N' ix scope) (hc : X.calm = true)
  (hg : ∀ C s H fp xe, PG (a2V X N' scope C s H fp xe) tg g) (ht : ∀ C s H fp xe, PTs (a2V X N' scope C s H fp xe) ifs tt) (he : ∀ C s H fp xe, PE (a2V X N' scope C s H fp xe) elt te)
  {pins : List (Addr × Obj)} {s2 : Shared} {σ : St} {H2 : Hp} {Q : VK} {it : Addr} {fp : List Addr} {tn : Nat -> Heap -> Prop} {J : It} {RR : Value -> Addr -> Result -> Shared -> Prop} {E : Value -> Shared -> Prop}
  (I2 : Inv X pins σ H2 s2) (T : Turn X.prog X.w X.K tg J fp it tn) (st2 : tn 0 s2.heap) (f2 : ∀ b ∈ fp, FpOk X pins H2 b)
  (q : ∃ W : Nat -> Nat -> List V -> Hp -> Prop, (∃ m, W 0 m [] H2) /\ ∀ i m ys H, W i m ys H ->
   (J.stop i H /\ ys.length <= sizeLine /\ ∀ p, H p = none -> Q (.ref p) (upd H p (.lst ys))) \/
   (J.go i H /\ ys.length <= sizeLine /\ ∃ N : List V -> Hp -> Prop, (∀ ys' H', N ys' H' -> ∃ m', m' < m /\ W (i + 1) m' ys' H') /\ ∀ x H', J.yld i H x H' -> g x (capt ix σ) H' fun σ2 H2 => tt σ2 H2 fun b H3 => if b = true then te σ2 H3 fun v H4 => N (ys ++ [v]) H4 else N ys H3))
  (hRR : ∀ D C s' H' ys, Inv X pins σ (upd H' D (.lst ys)) s' -> H' D = none -> Q (.ref D) (upd H' D (.lst ys)) -> (∃ m, s'.heap.Ns C m) -> upd H' D (.lst ys) C = none -> C ≠ X.env.locals -> X.s₀.heap.objs.size <= C -> (∀ x c, X.env.cells.lookup x = some c -> c ≠ C) -> (∀ p ∈ X.pn ++ pins, p.1 ≠ C) -> RR (.ref D) C (.ok .next) s') :
  wpAny (model X.prog X.w) X.A (newList []) (fun acc s₃ => wpAny (model X.prog X.w) X.A (newFunctionEnv scope X.env.globals (clOf X.env.cells scope.names []) [] X.env.qual none .none (some X.env)) (fun cenv s₄ =>
   codeAny (model X.prog X.w) X.A (.compStart (.ListComp elt [⟨tg, iter, ifs, 0⟩] scope pos) 0 (.ref it) acc { cenv with scope := relabel scope X.env }) (RR acc cenv.locals) s₄) E s₃) E s2 := by
 have hfs : ∀ b ∈ fp, b < s2.heap.objs.size := fun b hb => by
  obtain ⟨o, e, _⟩ := T.obj _ _ st2 b hb
  exact Heap.lt_size e
 refine wpAny_newObj_type (wpAny_newFunctionEnv B.nocell (by intro y hy; simp at hy) (fun h₁ hns₁ hsb₁ => ?_) B.kind)
 dsimp only at hns₁ hsb₁ ⊢
 generalize hH3 : s2.heap.push { cls := .type "list", dict := none, data := .seq ([] : List Value).toArray } = H3 at hns₁ hsb₁ ⊢
 have hC : H3.objs.size = s2.heap.objs.size + 1 := by rw [<- hH3, Heap.size_push]
 have hDC : s2.heap.objs.size ≠ H3.objs.size := by rw [hC]; exact Nat.ne_of_lt (Nat.lt_succ_self _)
 have below : ∀ b, b < s2.heap.objs.size -> b ≠ H3.objs.size /\ b ≠ s2.heap.objs.size := fun b hb => ⟨by rw [hC]; exact Nat.ne_of_lt (Nat.lt_succ_of_lt hb), Nat.ne_of_lt hb⟩
 have old : ∀ b o, s2.heap.get? b = some o -> h₁.get? b = some o := fun b o e => hsb₁.extBut b o (below b (Heap.lt_size e)).1 (Heap.get?_push_of_some _ (hH3 ▸ Heap.get?_push_of_some _ e))
 have hacc : h₁.get? s2.heap.objs.size = some { cls := .type "list", data := .seq ([] : List Value).toArray 0 } := hsb₁.extBut _ _ hDC (Heap.get?_push_of_some _ (hH3 ▸ Heap.get?_push_size _ rfl))
 have hCle : s2.heap.objs.size <= H3.objs.size := by rw [hC]; exact Nat.le_succ _
 generalize hD : s2.heap.objs.size = D at *
 generalize hCC : H3.objs.size = C at *
 obtain ⟨W, ⟨m0, w0⟩, turn⟩ := q
 let xe : Value -> Shared -> Prop := notedBy (model X.prog X.w) X.A (compEnvC scope (clOf X.env.cells scope.names []) C X.env) fun e s' => RR (.ref D) C (.error e) s'
 let X' : Cx := a2V X N' scope C s2 H2 fp xe
 have DL : D ∉ frs X.stack := fun z => by
  rcases List.mem_cons.mp (I2.stkSub D z) with e | e
  ·exact absurd I2.lt (by rw [<- e, hD]; exact Nat.lt_irrefl _)
  ·exact I2.nofs (by rw [hD]; exact Nat.le_refl _) e
 have cellLt : ∀ x c, X.env.cells.lookup x = some c -> c < D := fun x c e => by
  obtain ⟨v, oc, h, _⟩ := I2.cell x c e
  rw [<- hD]; exact Heap.lt_size h
 have clB : ∀ x c, (clOf X.env.cells scope.names []).lookup x = some c -> X.env.cells.lookup x = some c := fun x c h => a5B scope.names [] (fun _ _ z => by simp at z) h
 have pinLt : ∀ p ∈ X.pn ++ pins, p.1 < D := fun p hp => by rw [<- hD]; exact Heap.lt_size (I2.pin p hp).1
 have fpX : ∀ {pl : List (Addr × Obj)} {H' : Hp}, (∀ b ∈ fp, H' b = none) -> (∀ p ∈ pl, p ∈ pins \/ p.1 = D) -> ∀ b ∈ fp, FpOk X' pl H' b := fun {pl H'} hn hpl b hb => by
  obtain ⟨_, q1, q2, q3, q4, q5⟩ := f2 b hb
  refine ⟨hn b hb, (below b (hfs b hb)).1, fun z => ?_, .inl hb, fun x c e => q4 x c (clB x c e), fun p hp => ?_⟩
  ·rcases List.mem_cons.mp (I2.stkSub b z) with e | e
   ·exact q1 e
   ·exact q2 e
  ·rcases List.mem_append.mp hp with hp | hp
   ·exact q5 p (List.mem_append_left _ hp)
   ·rcases hpl p hp with z | z
    ·exact q5 p (List.mem_append_right _ z)
    ·rw [z]; exact Ne.symm (below b (hfs b hb)).2
 have loop : ∀ s₃ : Shared, s₃ = { s2 with heap := h₁, toks := s2.toks + ([] : List (Str × Value)).length } ->
   codeAny (model X.prog X.w) X.A (.compLoop (.ListComp elt [⟨tg, iter, ifs, 0⟩] scope pos) 0 (.ref it) (.ref D) (compEnvC scope (clOf X.env.cells scope.names []) C X.env)) (RR (.ref D) C) s₃ := by
  rintro s₃ rfl
  refine a9Q (fun n s' => ∃ i H' ys its k, Inv X' pins (capt ix σ) H' s' /\ tn i s'.heap /\ (∀ b ∈ fp, H' b = none) /\ H' D = none /\ s'.heap.get? D = some { cls := .type "list", data := .seq (List.toArray its) k } /\ Vals ys its /\ W i n ys H') ?_ m0
   ⟨0, H2, [], [], 0, b3P B I2 f2 (by rw [hD]; exact hCle) (fun b hb => by rw [hD]; exact hfs b hb) rfl rfl old hns₁, T.keep _ _ _ st2 fun b _ o e => old b o e, fun b hb => (f2 b hb).1, I2.hok.fresh (by rw [hD]; exact Nat.le_refl _), hacc, .nil, w0⟩
  rintro n s' ⟨i, H', ys, its, k, I', st', fr', hDn, hDo, rv, w'⟩
  have hDX : ∀ v, ({ cls := .type "list", data := .seq (List.toArray its) k } : Obj).data ≠ .cell v := fun v z => by
   have z' : Data.seq (List.toArray its) k = Data.cell v := z
   cases z'
  have pinD : ∀ {σ' : St} {H'' : Hp} {s'' : Shared} {its' : List Value} {k' : Nat}, Inv X' pins σ' H'' s'' -> H'' D = none -> s''.heap.get? D = some { cls := .type "list", data := .seq (List.toArray its') k' } -> Inv X' (pins ++ [(D, { cls := .type "list", data := .seq (List.toArray its') k' })]) σ' H'' s'' := fun {σ' H'' s'' its' k'} J hn ho =>
   J.pins_of fun p hp => (List.mem_append.mp hp).elim (fun z => J.pin p (List.mem_append_right _ z)) fun z => by
    have e : p = (D, { cls := .type "list", data := .seq (List.toArray its') k' }) := by simpa using z
    subst e
    exact ⟨ho, hn, hDC, DL, fun v z => by
     have z' : Data.seq (List.toArray its') k' = Data.cell v := z
     cases z'⟩
  have plD : ∀ {its' : List Value} {k' : Nat}, ∀ p ∈ pins ++ [(D, ({ cls := .type "list", data := .seq (List.toArray its') k' } : Obj))], p ∈ pins \/ p.1 = D := fun {its' k'} p hp => (List.mem_append.mp hp).elim .inl fun z => by
   have e : p = (D, { cls := .type "list", data := .seq (List.toArray its') k' }) := by simpa using z
   subst e
   exact .inr rfl
  have unD : ∀ {pl : List (Addr × Obj)} {σ' : St} {H'' : Hp} {s'' : Shared}, Inv X' (pins ++ pl) σ' H'' s'' -> Inv X' pins σ' H'' s'' := fun J => J.pins_of fun p hp => J.pin p (List.mem_append_right _ (List.mem_append_left _ hp))
  have I'p := pinD I' hDn hDo
  rcases turn i n ys H' w' with ⟨stop, hsz, fin⟩ | ⟨go, hsz, N, hN, step⟩
  ·refine wpAny_mono (T.done X' rfl rfl rfl hc i _ s' (capt ix σ) H' X'.xe I'p (fpX fr' plD) st' stop) (fun r s5 ⟨hr, I5⟩ => ?_) fun _ _ z => z
   subst hr
   have hDo5 : s5.heap.get? D = some { cls := .type "list", data := .seq (List.toArray its) k } := (I5.pin (D, _) (List.mem_append_right _ (List.mem_append_right _ (List.mem_singleton.mpr rfl)))).1
   have sz0 : X.s₀.heap.objs.size <= D := by rw [<- hD]; exact I2.sz
   have J : Inv X pins σ H' s5 := I2.call' (ch := fp) I5.os I5.base I5.hok I5.bare fun b hb => by
    obtain ⟨_, q1, _, q3, q4, q5⟩ := f2 b hb
    exact ⟨q3, q1, q4, q5⟩
   have nL : X.env.locals < D := by rw [<- hD]; exact I2.lt
   have J2 : Inv X pins σ (upd H' D (.lst ys)) s5 := Inv.track J hDn sz0 (Nat.ne_of_gt nL) (fun x c e => Nat.ne_of_lt (cellLt x c e)) (fun p hp => Nat.ne_of_lt (pinLt p hp)) ⟨hsz, its, k, rv, hDo5⟩
   obtain ⟨mC, hnC, _⟩ := I5.loc
   have DltC : D < C := Nat.lt_of_le_of_ne hCle hDC
   refine hRR D C s5 H' ys J2 hDn (fin D hDn) ⟨mC, hnC⟩ ?_ (Nat.ne_of_gt (Nat.lt_trans nL DltC)) (Nat.le_trans sz0 hCle) (fun x c e => Nat.ne_of_lt (Nat.lt_trans (cellLt x c e) DltC)) fun p hp => Nat.ne_of_lt (Nat.lt_trans (pinLt p hp) DltC)
   rw [a0P (Ne.symm hDC)]
   exact I5.free
  ·refine wpAny_mono (T.item X' rfl rfl rfl hc i _ s' (capt ix σ) H' X'.xe I'p (fpX fr' plD) st' go) (fun r s5 ⟨u, hr, h5⟩ => ?_) fun _ _ z => z
   subst hr
   refine wpAny_mono h5 (fun _ s6 ⟨x, H6, I6, r6, y6, st6, fr6⟩ => ?_) fun _ _ z => z
   have I6' := I6.pinned (fpX fr6 plD) (T.obj _ _ st6)
   refine wpAny_mono (hg C s2 H2 fp xe _ s6 (capt ix σ) H6 x u _ I6' r6 (step x H6 y6)) (fun _ s7 ⟨σ7, H7, I7, q7⟩ => ?_) fun _ _ z => z
   have after : ∀ {σ8 : St} {H8 : Hp} {s8 : Shared}, Inv X' ((pins ++ [(D, { cls := .type "list", data := .seq (List.toArray its) k })]) ++ a5J fp s6.heap) σ8 H8 s8 ->
     Inv X' pins (capt ix σ) H8 s8 /\ tn (i + 1) s8.heap /\ (∀ b ∈ fp, H8 b = none) /\ H8 D = none /\ s8.heap.get? D = some { cls := .type "list", data := .seq (List.toArray its) k } := fun {σ8 H8 s8} I8 => by
    have pD := I8.pin (D, { cls := .type "list", data := .seq (List.toArray its) k }) (List.mem_append_right _ (List.mem_append_left _ (List.mem_append_right _ (List.mem_singleton.mpr rfl))))
    have fpP : ∀ b ∈ fp, ∀ o, s6.heap.get? b = some o -> s8.heap.get? b = some o /\ H8 b = none := fun b hb o e => by
     have z := I8.pin (b, o) (List.mem_append_right _ (List.mem_append_right _ (a3C hb e)))
     exact ⟨z.1, z.2.1⟩
    refine ⟨⟨I8.ok, I8.os, I8.bare, I8.base, ?_, I8.cell, I8.free, I8.freeC, fun p hp => ?_, I8.hok, ?_⟩, T.keep _ _ _ st6 fun b hb o e => (fpP b hb o e).1, fun b hb => ?_, pD.2.1, pD.1⟩
    ·obtain ⟨m8, hn8, _⟩ := I8.loc
     refine ⟨m8, hn8, fun i x v h1 h2 h3 => ?_⟩
     obtain ⟨u, c, r, hc1, hc2, ⟨oc, z1, z2⟩, hk'⟩ := a8K B I2 h1 h2
     obtain ⟨sl, e8⟩ := I8.base.any z1 (I2.freeC x c hc2) fun z => (f2 c z).2.2.2.2.1 x c hc2 rfl
     exact ⟨u, r, .inr ⟨hk', c, hc1, _, e8, z2⟩⟩
    ·rcases List.mem_append.mp hp with hp | hp
     ·exact I8.pin p (List.mem_append_left _ hp)
     ·exact I8.pin p (List.mem_append_right _ (List.mem_append_left _ (List.mem_append_left _ hp)))
    ·show (capt ix σ).length = N'.length
     unfold capt
     rw [List.length_map]; exact B.len
    ·obtain ⟨o, e, _⟩ := T.obj _ _ st6 b hb
     exact (fpP b hb o e).2
   refine wpAny_mono (ht C s2 H2 fp xe _ s7 σ7 H7 _ I7 q7) (fun b s8 ⟨H8, I8, q8⟩ => ?_) fun _ _ z => z
   cases b with
   | false =>
    rw [if_neg Bool.false_ne_true] at q8 ⊢
    obtain ⟨m', hm, w8⟩ := hN _ _ q8
    obtain ⟨J, tn8, f8, d8, o8⟩ := after I8
    exact ⟨m', hm, i + 1, H8, ys, its, k, J, tn8, f8, d8, o8, rv, w8⟩
   | true =>
    rw [if_pos rfl] at q8 ⊢
    refine wpAny_mono (he C s2 H2 fp xe _ s8 σ7 H8 _ I8 q8) (fun v s9 ⟨y, H9, I9, r9, q9⟩ => ?_) fun _ _ z => z
    obtain ⟨J, tn9, f9, d9, o9⟩ := after I9
    obtain ⟨m', hm, w9⟩ := hN _ _ q9
    refine append_at (hsz := by rw [List.size_toArray, <- rv.length]; exact hsz) o9 fun h10 hs10 hD10 => ?_
    refine ⟨m', hm, i + 1, H9, ys ++ [y], its ++ [v], k + 1, ?_, T.keep _ _ _ tn9 fun b hb o e => hs10.extBut b o (fun z => ?_) e, f9, d9, by rw [List.push_toArray] at hD10; exact hD10, rv.append (.cons r9 .nil), w9⟩
    ·refine J.turned (t' := s9.toks) (it := D) (fun b o hb e => hs10.extBut b o hb e) d9 hDC (.inr (by show s2.heap.objs.size <= D; rw [hD]; exact Nat.le_refl _)) (fun x c e => Nat.ne_of_lt (cellLt x c (clB x c e))) fun p hp => Nat.ne_of_lt (pinLt p hp)
    ·exact (below b (hfs b hb)).2 z
 exact codeAny_compStart_list (loop _ rfl) (T.self X.A 0 _ _ _ (T.keep _ _ _ st2 fun b _ o e => old b o e) (loop _ rfl))
end
end L2
namespace L2
open PySem PySem.Spec PyProof.Rows
def a5C (outer : Scope) (N N' : List Str) (ix : List (Option Nat)) (scope : Scope) : Bool :=
 (scope.kind == .function) && (scope.names.all fun y => y.2 != .cell) && (scope.names.all fun y => y.2 != .local || scope.names.lookup y.1 == some .local) &&
 (scope.names.all fun y => y.2 != .free || outer.names.lookup y.1 == some .cell || outer.names.lookup y.1 == some .free) && (ix.length == N'.length) &&
 (List.range ix.length).all fun i => match ix[i]? with
  | some (some j) => (match N'[i]? with | some x => N[j]? == some x && scope.names.lookup x == some .free | none => false)
  | _ => true
theorem b8H {X : Cx} {N' : List Str} {ix : List (Option Nat)} {scope : Scope} (h : a5C X.env.scope X.N N' ix scope = true) : BlkOk X N' ix scope := by
 unfold a5C at h
 simp only [Bool.and_eq_true] at h
 obtain ⟨⟨⟨⟨⟨h1, h2⟩, h3⟩, h4⟩, h5⟩, h6⟩ := h
 refine ⟨?_, fun y hy => ?_, fun y hy hl => ?_, fun y hy hl => ?_, by simpa using h5, fun i j e => ?_⟩
 ·simpa using h1
 ·have := List.all_eq_true.mp h2 y hy
  simpa using this
 ·have := List.all_eq_true.mp h3 y hy
  rw [hl] at this
  simpa using this
 ·have := List.all_eq_true.mp h4 y hy
  rw [hl] at this
  simp at this
  exact this
 ·have hi : i < ix.length := (List.getElem?_eq_some_iff.mp e).1
  have := List.all_eq_true.mp h6 i (List.mem_range.mpr hi)
  rw [e] at this
  simp only at this
  cases q : N'[i]? with
  | none => rw [q] at this; simp at this
  | some x =>
   rw [q] at this
   simp at this
   exact ⟨x, rfl, this.1, this.2⟩
section
variable {X : Cx} {elt tg iter : Expr} {ifs : List Expr} {scope : Scope} {pos : Pos} {N' : List Str} {ix : List (Option Nat)} {wi : TI} {g : TG} {tt : TT} {te : TE}
theorem a7D (N' : List Str) (ix : List (Option Nat)) (hB : a5C X.env.scope X.N N' ix scope = true) (hc : X.calm = true) (hi : PI X tg iter wi)
  (hg : ∀ C s H fp xe, PG (a2V X N' scope C s H fp xe) tg g) (ht : ∀ C s H fp xe, PTs (a2V X N' scope C s H fp xe) ifs tt) (he : ∀ C s H fp xe, PE (a2V X N' scope C s H fp xe) elt te)
  (hs : ∀ x, foldedSetIterable iter X.env x = pure x := by intro _; rfl) : PE X (.ListComp elt [⟨tg, iter, ifs, 0⟩] scope pos) (tLC ix wi g tt te) := by
 intro pins s σ H Q I h
 have B := b8H hB
 rw [eval_ListComp]
 refine wpAny_comprehension_free (use := none) rfl hs (a6P fun y hy hf => I.ok.has y.1 (B.free y hy hf)) B.kind B.locs (thn (hi pins s σ H _ I h) fun v s1 h1 => thn h1 fun itv s2 h2 => ?_)
 obtain ⟨it, fp, tn, J, H2, e, I2, T, st2, f2, q⟩ := h2
 subst e
 refine b8G B hc hg ht he I2 T st2 f2 q ?_
 intro D C s' H' ys J2 hDn hq ⟨m, hn⟩ hC1 hC2 hC3 hC4 hC5
 refine ⟨m, hn, fun h' hs' => ?_⟩
 exact ⟨.ref D, _, J2.turned (t' := s'.toks) (it := C) (fun b o hb e => hs'.extBut b o hb e) hC1 hC2 (.inr hC3) hC4 hC5, rfl, hq⟩
theorem b0V {i : Nat} {x : Str} {pos' spos : Pos} (N' : List Str) (ix : List (Option Nat)) (hN : X.N.Nodup) (hi' : X.N[i]? = some x) (hx : X.env.scope.names.lookup x = some .local)
  (hB : a5C X.env.scope X.N N' ix scope = true) (hc : X.calm = true) (hi : PI X tg iter wi)
  (hg : ∀ C s H fp xe, PG (a2V X N' scope C s H fp xe) tg g) (ht : ∀ C s H fp xe, PTs (a2V X N' scope C s H fp xe) ifs tt) (he : ∀ C s H fp xe, PE (a2V X N' scope C s H fp xe) elt te)
  (hsw : swapsWith (.ListComp elt [⟨tg, iter, ifs, 0⟩] scope pos) (some (.Name x pos')) spos.line X.env = pure true)
  (hs : ∀ x, foldedSetIterable iter X.env x = pure x := by intro _; rfl) : PS X (.Assign [.Name x pos'] (.ListComp elt [⟨tg, iter, ifs, 0⟩] scope pos) spos) (tAsg (tLC ix wi g tt te) (b6E i)) := by
 intro pins s σ H D0 I h
 have B := b8H hB
 rw [exec_Assign_Name_used _ _ _ _ hsw]
 refine wpAny_bind (wpAny_standAt (wpAny_bind ?_))
 show wpAny _ X.A (do let _ <- comprehension (.ListComp elt [⟨tg, iter, ifs, 0⟩] scope pos) scope X.env _ (newList []) false (eval iter X.env) (some (assign (.Name x pos') X.env))) _ _ s
 refine wpAny_bind (wpAny_mono (wpAny_comprehension_free (use := some (assign (.Name x pos') X.env)) (Q := fun _ s' => SP X pins D0 .next s') rfl hs (a6P fun y hy hf => I.ok.has y.1 (B.free y hy hf)) B.kind B.locs
  (thn (hi pins s σ H _ I h) fun v s1 h1 => thn h1 fun itv s2 h2 => ?_)) (fun _ s' hq => wpAny_pure (wpAny_pure hq)) fun _ _ e => e)
 obtain ⟨it, fp, tn, J, H2, e, I2, T, st2, f2, q⟩ := h2
 subst e
 refine b8G (Q := fun x H1 => b6E i x σ H1 D0.nx) B hc hg ht he I2 T st2 f2 q ?_
 intro D C s' H' ys J2 hDn hq ⟨m, hn⟩ hC1 hC2 hC3 hC4 hC5
 show wpAny _ X.A (assign (.Name x pos') X.env (.ref D)) _ _ _
 refine wpAny_assign_Name (a7V (v := .ref D) J2 hN hi' (.inl hx) rfl (fun s'' I'' hsb => ?_) (.inr hx))
 obtain ⟨a, hsb, ha⟩ := hsb
 have aC : C ≠ a := by
  rcases ha with rfl | ha
  ·exact hC2
  ·exact fun z => hC4 x a ha z.symm
 refine ⟨m, hn.sameBut hsb aC, fun h'' hs'' => ?_⟩
 exact ⟨_, _, I''.turned (t' := s''.toks) (it := C) (fun b o hb e => hs''.extBut b o hb e) hC1 hC2 (.inr hC3) hC4 hC5, hq⟩
end
section
variable {K : Φρ} {a : Addr} {xs : List V} {ix : List (Option Nat)} {g : TG} {tt : TT} {te : TE} {σ : St} {H1 : Hp} {Q : VK}
theorem a9R (Pv : Nat -> List V -> Hp -> Prop) (h0 : Pv 0 [] H1) (hl : ∀ i ys H, i <= xs.length -> Pv i ys H -> SqL K H a xs /\ ys.length <= sizeLine)
  (hs : ∀ i x ys H, xs[i]? = some x -> Pv i ys H -> g x (capt ix σ) H fun σ2 H2 => tt σ2 H2 fun b H3 => if b = true then te σ2 H3 fun v H4 => Pv (i + 1) (ys ++ [v]) H4 else Pv (i + 1) ys H3)
  (hd : ∀ ys H, Pv xs.length ys H -> ∀ p, H p = none -> Q (.ref p) (upd H p (.lst ys))) : a4L ix g tt te σ H1 Q (Itl K a) := by
 refine ⟨fun i m ys H => m = xs.length - i /\ i <= xs.length /\ Pv i ys H, ⟨xs.length, by simp, Nat.zero_le _, h0⟩, ?_⟩
 rintro i m ys H ⟨rfl, hi, p⟩
 obtain ⟨q, z⟩ := hl i ys H hi p
 by_cases hlt : i < xs.length
 ·refine .inr ⟨⟨xs, xs[i], q, by simp [hlt]⟩, z, Pv (i + 1), fun ys' H' p' => ⟨xs.length - (i + 1), by omega, rfl, hlt, p'⟩, fun x H' y => ?_⟩
  obtain ⟨e, y⟩ := y
  subst e
  exact hs i x ys _ (y xs q) p
 ·have e : i = xs.length := by omega
  subst e
  exact .inl ⟨⟨xs, q, Nat.le_refl _⟩, z, hd ys H p⟩
theorem b6L {lo : Int} {n : Nat} (Pv : Nat -> List V -> Hp -> Prop) (h0 : Pv 0 [] H1) (hl : ∀ i ys H, i <= n -> Pv i ys H -> ys.length <= sizeLine)
  (hs : ∀ i ys H, i < n -> Pv i ys H -> g (.int (lo + i)) (capt ix σ) H fun σ2 H2 => tt σ2 H2 fun b H3 => if b = true then te σ2 H3 fun v H4 => Pv (i + 1) (ys ++ [v]) H4 else Pv (i + 1) ys H3)
  (hd : ∀ ys H, Pv n ys H -> ∀ p, H p = none -> Q (.ref p) (upd H p (.lst ys))) : a4L ix g tt te σ H1 Q (Itr lo n) := by
 refine ⟨fun i m ys H => m = n - i /\ i <= n /\ Pv i ys H, ⟨n, by simp, Nat.zero_le _, h0⟩, ?_⟩
 rintro i m ys H ⟨rfl, hi, p⟩
 have z := hl i ys H hi p
 by_cases hlt : i < n
 ·refine .inr ⟨hlt, z, Pv (i + 1), fun ys' H' p' => ⟨n - (i + 1), by omega, rfl, hlt, p'⟩, fun x H' y => ?_⟩
  obtain ⟨e, y⟩ := y
  subst e y
  exact hs i ys _ hlt p
 ·have e : i = n := by omega
  subst e
  exact .inl ⟨Nat.le_refl _, z, hd ys H p⟩
end
theorem c3Q {K : Φρ} {a : Addr} {xs : List V} {ix : List (Option Nat)} {g : TG} {tt : TT} {te : TE} {σ : St} {H1 : Hp} {Q : VK} (f : V -> Option V) (hx : SqL K H1 a xs) (hz : xs.length <= sizeLine)
  (hs : ∀ x H (N : Option V -> Hp -> Prop), x ∈ xs -> Same H1 H -> (∀ H', Same H1 H' -> N (f x) H') -> g x (capt ix σ) H fun σ2 H2 => tt σ2 H2 fun b H3 => if b = true then te σ2 H3 fun v H4 => N (some v) H4 else N none H3)
  (hd : ∀ H p, Same H1 H -> H p = none -> Q (.ref p) (upd H p (.lst (xs.filterMap f)))) : a4L ix g tt te σ H1 Q (Itl K a) := by
 refine a9R (K := K) (a := a) (xs := xs) (fun i ys H => ys = (xs.take i).filterMap f /\ Same H1 H) ⟨rfl, Same.refl _⟩ (fun i ys H hi ⟨e, s⟩ => ⟨s.seq hx, ?_⟩) (fun i x ys H hi ⟨e, s⟩ => ?_) fun ys H ⟨e, s⟩ p hp => ?_
 ·subst e
  refine Nat.le_trans (List.length_filterMap_le _ _) (Nat.le_trans ?_ hz)
  rw [List.length_take]; exact Nat.min_le_right _ _
 ·have hm : x ∈ xs := List.mem_of_getElem? hi
  obtain ⟨hil, hix⟩ := List.getElem?_eq_some_iff.mp hi
  have et : xs.take (i + 1) = xs.take i ++ [x] := by rw [List.take_succ_eq_append_getElem hil, hix]
  refine hs x H (fun o H' => match o with | some v => (ys ++ [v] = (xs.take (i + 1)).filterMap f /\ Same H1 H') | none => (ys = (xs.take (i + 1)).filterMap f /\ Same H1 H')) hm s fun H' s' => ?_
  cases ef : f x with
  | some v =>
   refine ⟨?_, s'⟩
   rw [e, et, List.filterMap_append]
   simp [ef]
  | none =>
   refine ⟨?_, s'⟩
   rw [e, et, List.filterMap_append]
   simp [ef]
 ·subst e
  rw [List.take_length]
  exact hd H p s hp
theorem c1V {lo : Int} {n : Nat} {ix : List (Option Nat)} {g : TG} {tt : TT} {te : TE} {σ : St} {H1 : Hp} {Q : VK} (f : Nat -> Option V) (hz : n <= sizeLine)
  (hs : ∀ i H (N : Option V -> Hp -> Prop), i < n -> Same H1 H -> (∀ H', Same H1 H' -> N (f i) H') -> g (.int (lo + i)) (capt ix σ) H fun σ2 H2 => tt σ2 H2 fun b H3 => if b = true then te σ2 H3 fun v H4 => N (some v) H4 else N none H3)
  (hd : ∀ H p, Same H1 H -> H p = none -> Q (.ref p) (upd H p (.lst ((List.range n).filterMap f)))) : a4L ix g tt te σ H1 Q (Itr lo n) := by
 refine b6L (fun i ys H => ys = (List.range i).filterMap f /\ Same H1 H) ⟨rfl, Same.refl _⟩ (fun i ys H hi ⟨e, s⟩ => ?_) (fun i ys H hi ⟨e, s⟩ => ?_) fun ys H ⟨e, s⟩ p hp => ?_
 ·subst e
  refine Nat.le_trans (List.length_filterMap_le _ _) (Nat.le_trans ?_ hz)
  rw [List.length_range]; exact hi
 ·refine hs i H (fun o H' => match o with | some v => (ys ++ [v] = (List.range (i + 1)).filterMap f /\ Same H1 H') | none => (ys = (List.range (i + 1)).filterMap f /\ Same H1 H')) hi s fun H' s' => ?_
  cases ef : f i with
  | some v =>
   refine ⟨?_, s'⟩
   rw [e, List.range_succ, List.filterMap_append]
   simp [ef]
  | none =>
   refine ⟨?_, s'⟩
   rw [e, List.range_succ, List.filterMap_append]
   simp [ef]
 ·subst e
  exact hd H p s hp
end L2
namespace L2
open PySem PySem.Spec PyProof.Rows
mutual
inductive IsD (K : Φρ) (H : Hp) : V -> PyData -> Prop
 | non : IsD K H .non .none
 | bl (b : Bool) : IsD K H (.bl b) (.bool b)
 | int (i : Int) : IsD K H (.int i) (.int i)
 | str (x : Str) : IsD K H (.str x) (.str x)
 | lst {a : Addr} {xs : List V} {ds : List PyData} : SqL K H a xs -> IsDs K H xs ds -> IsD K H (.ref a) (.list ds)
 | tup {a : Addr} {xs : List V} {ds : List PyData} : SqT K H a xs -> IsDs K H xs ds -> IsD K H (.ref a) (.tuple ds)
inductive IsDs (K : Φρ) (H : Hp) : List V -> List PyData -> Prop
 | nil : IsDs K H [] []
 | cons {x : V} {xs : List V} {d : PyData} {ds : List PyData} : IsD K H x d -> IsDs K H xs ds -> IsDs K H (x :: xs) (d :: ds)
end
theorem Same.tupq {K : Φρ} {H H' : Hp} {a : Addr} {xs : List V} (e : Same H H') (h : SqT K H a xs) : SqT K H' a xs := by
 rcases h with (h | ⟨o, h⟩) | h
 ·exact .inl (.inl (e _ _ h))
 ·exact .inl (.inr ⟨o, e _ _ h⟩)
 ·exact .inr h
mutual
theorem IsD.reads {X : Cx} {pins : List (Addr × Obj)} {σ : St} {H : Hp} {s : Shared} (I : Inv X pins σ H s) : ∀ {v : V} {d : PyData} {u : Value}, IsD X.K H v d -> RelV v u -> ∃ as, Reads s.heap u d as
 | _, _, _, .non, r => by cases r; exact ⟨_, .none⟩
 | _, _, _, .bl b, r => by cases r; exact ⟨_, .bool b⟩
 | _, _, _, .int i, r => by obtain ⟨t, rfl⟩ := r; exact ⟨_, .int i t⟩
 | _, _, _, .str x, r => by obtain ⟨t, rfl⟩ := r; exact ⟨_, .str x t⟩
 | _, _, _, .lst h q, r => by
  cases r
  obtain ⟨its, rv, ⟨o, n, e, c, _, d⟩, _⟩ := I.list h
  obtain ⟨as, ra⟩ := IsDs.reads I q rv
  exact ⟨_, .list e c d (by simpa using ra)⟩
 | _, _, _, .tup h q, r => by
  cases r
  obtain ⟨its, rv, ⟨o, e, c, n, d⟩, _⟩ := I.tuple h
  obtain ⟨as, ra⟩ := IsDs.reads I q rv
  exact ⟨_, .tuple e c d (by simpa using ra)⟩
theorem IsDs.reads {X : Cx} {pins : List (Addr × Obj)} {σ : St} {H : Hp} {s : Shared} (I : Inv X pins σ H s) : ∀ {xs : List V} {ds : List PyData} {us : List Value}, IsDs X.K H xs ds -> Vals xs us -> ∃ as, ReadsAll s.heap us ds as
 | _, _, _, .nil, .nil => ⟨_, .nil⟩
 | _, _, _, .cons h q, .cons r t => by
  obtain ⟨as, ra⟩ := IsD.reads I h r
  obtain ⟨bs, rb⟩ := IsDs.reads I q t
  exact ⟨_, .cons ra rb⟩
end
theorem IsDs.ints {K : Φρ} {H : Hp} : ∀ ns : List Int, IsDs K H (ns.map V.int) (ns.map PyData.int)
 | [] => .nil
 | n :: ns => .cons (.int n) (IsDs.ints ns)
section
variable {X : Cx}
def rEqD (K : Φρ) (neg : Bool) : R2 := fun x y H Q => ∃ d d', IsD K H x d /\ IsD K H y d' /\ SeqAt.shaped d = true /\ SeqAt.shaped d' = true /\ Q (.bl (if neg then !PyData.eqv d d' else PyData.eqv d d')) H
theorem c1W (hu : X.A.units + 64 < cLine) : OpR X (compareOp .Eq) (rEqD X.K false) := by
 intro pins s σ H x y v u Q I rx ry h
 obtain ⟨d, d', h1, h2, s1, s2, q⟩ := h
 obtain ⟨as, ra⟩ := h1.reads I rx
 obtain ⟨bs, rb⟩ := h2.reads I ry
 exact eq_dataH ra rb s1 s2 hu ⟨.bl _, H, I, rfl, q⟩
theorem c1X (hu : X.A.units + 64 < cLine) : OpR X (compareOp .NotEq) (rEqD X.K true) := by
 intro pins s σ H x y v u Q I rx ry h
 obtain ⟨d, d', h1, h2, s1, s2, q⟩ := h
 obtain ⟨as, ra⟩ := h1.reads I rx
 obtain ⟨bs, rb⟩ := h2.reads I ry
 exact ne_dataH ra rb s1 s2 hu ⟨.bl _, H, I, rfl, q⟩
def rInD (K : Φρ) (neg : Bool) : R2 := fun x y H Q => ∃ d ds, IsD K H x d /\ IsD K H y (.list ds) /\ SeqAt.shaped d = true /\ SeqAt.shaped (.list ds) = true /\ Q (.bl (if neg then !ds.any (fun e => PyData.eqv e d) else ds.any (fun e => PyData.eqv e d))) H
theorem c1Y (hu : X.A.units + 65 < cLine) : OpR X (compareOp .In) (rInD X.K false) := by
 intro pins s σ H x y v u Q I rx ry h
 obtain ⟨d, ds, h1, h2, s1, s2, q⟩ := h
 obtain ⟨as, ra⟩ := h1.reads I rx
 obtain ⟨bs, rb⟩ := h2.reads I ry
 exact SeqAt.in_list_reads rb ra (SeqAt.canLay_of_shaped s2) (SeqAt.canLay_of_shaped s1) (room_in_shaped s1 hu) ⟨.bl _, H, I, rfl, q⟩
theorem b3R (hu : X.A.units + 65 < cLine) : OpR X (compareOp .NotIn) (rInD X.K true) := by
 intro pins s σ H x y v u Q I rx ry h
 obtain ⟨d, ds, h1, h2, s1, s2, q⟩ := h
 obtain ⟨as, ra⟩ := h1.reads I rx
 obtain ⟨bs, rb⟩ := h2.reads I ry
 exact SeqAt.notIn_list_reads rb ra (SeqAt.canLay_of_shaped s2) (SeqAt.canLay_of_shaped s1) (room_in_shaped s1 hu) ⟨.bl _, H, I, rfl, q⟩
def clsV : V -> Option Value
 | .ty n => some (.type n)
 | .ref a => some (.ref a)
 | _ => none
theorem b0W {c : V} {cv u : Value} (h : clsV c = some cv) (r : RelV c u) : u = cv := by
 cases c with
 | ty n => cases h; exact r
 | ref a => cases h; exact r
 | _ => cases h
theorem a9S : CallR X (.builtin "isinstance") (fun xs H Q => ∃ x c cv t b, xs = [x, c] /\ clsV c = some cv /\ TyOf X.K H x t /\ PySem.W.kitOne X.K t cv = some b /\ Q (.bl b) H) := by
 intro pins s σ H xs us Q I r h
 obtain ⟨x, c, cv, t, b, rfl, hc, ty, hk, q⟩ := h
 obtain ⟨u1, u2, rfl, r1, r2⟩ := b2E r
 obtain rfl := b0W hc r2
 exact b3J I r1 ty hk fun tk => ⟨.bl b, H, I.tok tk, rfl, q⟩
abbrev Cx.in1 (X : Cx) : Cx := { X with A := X.A.in1 }
theorem Inv.in1 {pins : List (Addr × Obj)} {σ : St} {H : Hp} {s : Shared} (I : Inv X pins σ H s) : Inv X.in1 pins σ H s :=
 ⟨⟨I.ok.mod, I.ok.kind, I.ok.glob, I.ok.blt, I.ok.above, I.ok.inj, I.ok.has, I.ok.cab, I.ok.hd, I.ok.frames, I.ok.stk, I.ok.exf, I.ok.bs, I.ok.bsz, I.ok.noex, I.ok.exfs, I.ok.funs, I.ok.frf⟩, I.os, I.bare, I.base, I.loc, I.cell, I.free, I.freeC, I.pin, I.hok, I.len⟩
theorem Inv.of_in1 {pins : List (Addr × Obj)} {σ : St} {H : Hp} {s : Shared} (I : Inv X.in1 pins σ H s) : Inv X pins σ H s :=
 ⟨⟨I.ok.mod, I.ok.kind, I.ok.glob, I.ok.blt, I.ok.above, I.ok.inj, I.ok.has, I.ok.cab, I.ok.hd, I.ok.frames, I.ok.stk, I.ok.exf, I.ok.bs, I.ok.bsz, I.ok.noex, I.ok.exfs, I.ok.funs, I.ok.frf⟩, I.os, I.bare, I.base, I.loc, I.cell, I.free, I.freeC, I.pin, I.hok, I.len⟩
def Truths (K : Φρ) (H : Hp) (xs : List V) (bs : List Bool) : Prop := Paired (fun x b => TruV K x H b) xs bs
theorem Truths.get {K : Φρ} {H : Hp} : ∀ {xs : List V} {bs : List Bool} {i : Nat} {x : V}, Truths K H xs bs -> xs[i]? = some x -> ∃ b, bs[i]? = some b /\ TruV K x H b
 | _, _, _, _, .nil, h => by simp at h
 | _, _, 0, _, .cons h r, e => by
  simp at e; subst e
  exact ⟨_, rfl, h⟩
 | _, _, i + 1, _, .cons h r, e => by
  obtain ⟨d, e1, q⟩ := Truths.get (i := i) r (by simpa using e)
  exact ⟨d, by simpa using e1, q⟩
theorem Truths.bls {K : Φρ} {H : Hp} : ∀ bs : List Bool, Truths K H (bs.map V.bl) bs
 | [] => .nil
 | b :: bs => .cons rfl (Truths.bls bs)
theorem b6M {pins : List (Addr × Obj)} {σ : St} {H : Hp} {p it : Addr} {ys : List V} {bs : List Bool} {R : Result -> Shared -> Prop} (hc : X.calm = true) (hq : SqL X.K H p ys) (ht : Truths X.K H ys bs) (f : FpOk X pins H it) :
  ∀ (k i : Nat) (s : Shared), ys.length - i = k -> Inv X pins σ H s -> s.heap.IsListIter it p i -> (∀ s', Inv X pins σ H s' -> R (.ok (.ret (.bool ((bs.drop i).all id)))) s') ->
  codeAny (model X.prog X.w) X.A (.builtin "all.loop" ⟨[.ref it], []⟩) R s := by
 obtain ⟨f0, f1, f2, f3, f4, f5⟩ := f
 intro k
 induction k with
 | zero =>
  intro i s hk I st hR
  obtain ⟨its, rv, pl, hz⟩ := I.list hq
  have hl := rv.length
  refine codeAny_builtin F.entry_all_loop ?_
  rw [Around.under_plainId F.plain_all_loop _]
  show wpAny _ X.A.in1 (pyNext (.ref it) >>= _) _ _ s
  refine wpAny_bind (wpAny_pyNext_list_end (I.ok.hd hc) st pl.isList (by simp; omega) fun h' eb => ?_)
  refine wpAny_bind (wpAny_rule (wpAny_pure ?_))
  have q := hR _ (I.turned (t' := s.toks) (fun b o hb e => eb b o hb e) f0 f1 f3 f4 f5)
  have hlb : bs.length = ys.length := (Paired.length ht).symm
  rw [List.drop_of_length_le (by omega)] at q
  exact q
 | succ k ih =>
  intro i s hk I st hR
  obtain ⟨its, rv, pl, hz⟩ := I.list hq
  have hl := rv.length
  have hlt : i < ys.length := by omega
  have hx : ys[i]? = some ys[i] := by simp [hlt]
  obtain ⟨u, hu, ru⟩ := rv.get hx
  obtain ⟨b, hb, tb⟩ := ht.get hx
  refine codeAny_builtin F.entry_all_loop ?_
  rw [Around.under_plainId F.plain_all_loop _]
  show wpAny _ X.A.in1 (pyNext (.ref it) >>= _) _ _ s
  refine wpAny_bind (wpAny_pyNext_list_item st pl.isList (x := u) (by simpa using hu) fun h' st' sb => ?_)
  have I1 : Inv X pins σ H { s with heap := h' } := I.turned (t' := s.toks) (fun b o hb e => (sb.2 b hb).trans e) f0 f1 f3 f4 f5
  have hdb : bs.drop i = b :: bs.drop (i + 1) := by
   obtain ⟨hlb, eb⟩ := List.getElem?_eq_some_iff.mp hb
   rw [List.drop_eq_getElem_cons hlb, eb]
  rw [hdb] at hR
  have I1p : Inv X (pins ++ a5J [it] h') σ H { s with heap := h' } := I1.pinned (fp := [it]) (fun c hcc => by rw [List.mem_singleton.mp hcc]; exact ⟨f0, f1, f2, f3, f4, f5⟩) fun c hcc => by
   rw [List.mem_singleton.mp hcc]
   obtain ⟨o, e, c', d⟩ := st'
   exact ⟨o, e, fun v z => by rw [d] at z; cases z⟩
  refine wpAny_bind (wpAny_holding (wpAny_mono (b8D (X := X.in1.nox) _ _ σ H ys[i] u (fun c H' => c = b /\ H' = H) ((Inv.in1 I1p).wish _) ru ⟨b, tb, rfl, rfl⟩) (fun c s2 ⟨H', I2, e1, e2⟩ => ?_) fun _ _ z => False.elim z))
  rw [e2] at I2
  subst e1
  have I2' : Inv X (pins ++ a5J [it] h') σ H s2 := Inv.of_in1 I2.unwish
  have I2'' : Inv X pins σ H s2 := I2'.unpinned
  have st2 : s2.heap.IsListIter it p (i + 1) := st'.at fun o e => (I2'.pin (it, o) (List.mem_append_right _ (List.mem_append_right _ (a3C (List.mem_singleton.mpr rfl) e)))).1
  refine wpAny_bind (wpAny_letGo ?_)
  cases c with
  | true =>
   simp only [if_true]
   exact wpAny_pure ⟨plainId_quiet F.plain_all_loop _, ih (i + 1) s2 (by omega) I2'' st2 fun s' I' => by simpa using hR s' I'⟩
  | false =>
   simp only [Bool.false_eq_true, if_false]
   refine wpAny_bind (wpAny_rule (wpAny_pure ?_))
   simpa using hR s2 I2''
theorem b3S (hc : X.calm = true) : CallR X (.builtin "all") (fun xs H Q => ∃ p ys bs, xs = [.ref p] /\ SqL X.K H p ys /\ Truths X.K H ys bs /\ Q (.bl (bs.all id)) H) := by
 intro pins s σ H xs us Q I r h
 obtain ⟨p, ys, bs, rfl, hq, ht, q⟩ := h
 obtain ⟨u, rfl, rx⟩ := a4X r
 cases rx
 refine call_function_tree F.kind_all F.plain_all F.entry_all (F.args_all1 _) ?_
 unfold Builtin.«all»
 refine wpAny_bind (m := oneArg "all" _) (wpAny_pure ?_)
 obtain ⟨its, rv, pl, hz⟩ := I.list hq
 refine wpAny_bind (wpAny_pyIter_list pl.isList ?_)
 have I1 : Inv X pins σ H { s with heap := s.heap.push { cls := .type "list_iterator", data := .fields #[.ref p, .int 0 0] } } := I.kept (t' := s.toks) fun b o e => Heap.get?_push_of_some _ e
 refine wpAny_pure ⟨plainId_quiet F.plain_all_loop _, b6M hc hq ht (I.fpOk (Nat.le_refl _) (I.hok.fresh (Nat.le_refl _))) ys.length 0 _ (Nat.sub_zero _) I1 ⟨_, Heap.get?_push_size _ rfl, rfl, rfl⟩ fun s' I' => ?_⟩
 exact ⟨.bl _, H, I', rfl, by simpa using q⟩
end
end L2
namespace L2
open PySem PySem.Spec PyProof.Rows
structure Dn (K : Φρ) (mg : Str -> Option Value) (x : Str) (st : Stmt) (ps : List Str) where
 f : Addr
 fd : FuncData
 F : Fun K x x st f fd
 b : Binds K fd ps []
 m : mg x = some (.ref f)
 bd : ∀ (s : Shared) (us : List Value), us.length = ps.length -> BindsTo s fd ⟨us, []⟩ (ps.zip us)
structure Bl (mg : Str -> Option Value) : Prop where
 get : ∀ x : Str, x ∈ (["len", "range", "list", "isinstance", "int", "bool", "str", "all", "any", "sorted", "set", "min", "max", "tuple", "enumerate", "dict", "ValueError"] : List Str) -> mg x = none
theorem Bl.len {mg : Str -> Option Value} (B : Bl mg) : mg "len" = none := B.get _ (by decide +kernel)
theorem Bl.range {mg : Str -> Option Value} (B : Bl mg) : mg "range" = none := B.get _ (by decide +kernel)
theorem Bl.list {mg : Str -> Option Value} (B : Bl mg) : mg "list" = none := B.get _ (by decide +kernel)
theorem Bl.isinstance {mg : Str -> Option Value} (B : Bl mg) : mg "isinstance" = none := B.get _ (by decide +kernel)
theorem Bl.int {mg : Str -> Option Value} (B : Bl mg) : mg "int" = none := B.get _ (by decide +kernel)
theorem Bl.bool {mg : Str -> Option Value} (B : Bl mg) : mg "bool" = none := B.get _ (by decide +kernel)
theorem Bl.all {mg : Str -> Option Value} (B : Bl mg) : mg "all" = none := B.get _ (by decide +kernel)
theorem Bl.sorted {mg : Str -> Option Value} (B : Bl mg) : mg "sorted" = none := B.get _ (by decide +kernel)
theorem Bl.set {mg : Str -> Option Value} (B : Bl mg) : mg "set" = none := B.get _ (by decide +kernel)
theorem Bl.min {mg : Str -> Option Value} (B : Bl mg) : mg "min" = none := B.get _ (by decide +kernel)
theorem Bl.max {mg : Str -> Option Value} (B : Bl mg) : mg "max" = none := B.get _ (by decide +kernel)
theorem Bl.ValueError {mg : Str -> Option Value} (B : Bl mg) : mg "ValueError" = none := B.get _ (by decide +kernel)
theorem a9T {K : Φρ} : PySem.W.kitOne K (.type "int") (.type "int") = some true := by rfl
theorem a8L {K : Φρ} : PySem.W.kitOne K (.type "int") (.type "bool") = some false := by rfl
theorem a9U {K : Φρ} : PySem.W.kitOne K (.type "NoneType") (.type "int") = some false := by rfl
theorem a8M {K : Φρ} : PySem.W.kitOne K (.type "NoneType") (.type "bool") = some false := by rfl
end L2
namespace L2
open PySem PySem.Spec PyProof.Rows
section
variable {X : Cx} {K : Φρ}
theorem a1B (e : X.K = K) : IxR X (rIxL K) := by subst e; exact b8Y
theorem a1H (e : X.K = K) : IxR X (rIxT K) := by subst e; exact c1S
theorem a7E (e : X.K = K) (hu : X.A.units + 64 < cLine) : OpR X (compareOp .Eq) (rEqD K false) := by subst e; exact c1W hu
theorem b3T (e : X.K = K) (hu : X.A.units + 64 < cLine) : OpR X (compareOp .NotEq) (rEqD K true) := by subst e; exact c1X hu
theorem a9V (e : X.K = K) (hu : X.A.units + 65 < cLine) : OpR X (compareOp .In) (rInD K false) := by subst e; exact c1Y hu
theorem a6Q (e : X.K = K) (hu : X.A.units + 65 < cLine) : OpR X (compareOp .NotIn) (rInD K true) := by subst e; exact b3R hu
def rLen (K : Φρ) : List V -> Hp -> VK -> Prop := fun xs H Q => ∃ p ys, xs = [.ref p] /\ (SqL K H p ys \/ SqT K H p ys) /\ Q (.int ys.length) H
theorem a1L (e : X.K = K) : CallR X (.builtin "len") (rLen K) := by subst e; exact a8G
def b9D (K : Φρ) : List V -> Hp -> VK -> Prop := fun xs H Q => ∃ p ys, xs = [.ref p] /\ (SqL K H p ys \/ SqT K H p ys) /\ ∀ l, H l = none -> Q (.ref l) (upd H l (.lst ys))
theorem b2G (e : X.K = K) : CallR X (.type "list") (b9D K) := by subst e; exact a8H
def c3R (K : Φρ) : List V -> Hp -> VK -> Prop := fun xs H Q => ∃ x c cv t b, xs = [x, c] /\ clsV c = some cv /\ TyOf K H x t /\ PySem.W.kitOne K t cv = some b /\ Q (.bl b) H
theorem a2W (e : X.K = K) : CallR X (.builtin "isinstance") (c3R K) := by subst e; exact a9S
def rAll (K : Φρ) : List V -> Hp -> VK -> Prop := fun xs H Q => ∃ p ys bs, xs = [.ref p] /\ SqL K H p ys /\ Truths K H ys bs /\ Q (.bl (bs.all id)) H
theorem a8N (e : X.K = K) (hc : X.calm = true) : CallR X (.builtin "all") (rAll K) := by subst e; exact b3S hc
theorem a1G {tg l : Expr} {tl : TE} (e : X.K = K) (hl : PE X l tl) : PI X tg l (c1L K tl) := by subst e; exact b8R hl
def tTru (K : Φρ) (ta : TE) : TT := fun σ H Q => ta σ H fun x H' => ∃ k, TruV K x H' k /\ Q k H'
theorem a0Y {a : Expr} {ta : TE} (e : X.K = K) (ha : PE X a ta) (he : ∀ whole, isTrue a X.env whole = (do let v <- whole; standAt a.pos; holding [v] (truthy v))) : PT X a (tTru K ta) := by subst e; exact b6H ha he
theorem a9W {es : List Expr} {k : Nat} {t : TGs} {n : Nat} {pos : Pos} (e : X.K = K) (hc : X.calm = true) (h : PGs X es t)
  (hn : (assignEach es X.env).length = n := by rfl) (hst : (assignEach es X.env).findIdx? (·.1) = none := by rfl) : PG X (.Tuple es k pos) (gTup K n t) := by subst e; exact c1J hc h hn hst
theorem b9E {o : Expr} {to : TE} {name : Str} {apos cpos : Pos} {T id : String} {r : V -> List V -> Hp -> VK -> Prop} (e : X.K = K) (pa : PlainAttrs T) (slot : Slot T name id) (hty : typeOf (.builtin id) = pure (.type "method_descriptor")) (hm : MtR X id r) (ho : PE X o to)
  (hbase : attributeBase o name X.env (eval o X.env) = eval o X.env := by rfl) (hline : (apos.endLine == cpos.line) = true := by rfl) : PE X (.Call (.Attribute o name apos) [] [] cpos) (tBM0 K T r to) := by subst e; exact c1T pa slot hty hm ho hbase hline
theorem a4M {o e : Expr} {es : List Expr} {to : TE} {t : TA} {name : Str} {apos cpos : Pos} {T id : String} {r : V -> List V -> Hp -> VK -> Prop} (e0 : X.K = K) (pa : PlainAttrs T) (slot : Slot T name id) (hty : typeOf (.builtin id) = pure (.type "method_descriptor")) (hm : MtR X id r) (ho : PE X o to) (ha : PA X (e :: es) t)
  (hbase : attributeBase o name X.env (eval o X.env) = eval o X.env := by rfl)
  (hfew : ((backTo cpos (starEach (e :: es) X.env)).all (fun x => !x.1) && (backToKw cpos (keywordEach [] X.env)).all (fun x => x.1.isSome)
   && decide ((e :: es).length + ([] : List Keyword).length + (if ([] : List Keyword).isEmpty then 0 else 1) < 30)) = true := by rfl)
  (hline : (apos.endLine == cpos.line) = true := by rfl) (hs : starEach (e :: es) X.env = (false, eval e X.env) :: starEach es X.env := by rfl) (hplain : (backTo cpos (starEach es X.env)).any (·.1) = false := by rfl) :
  PE X (.Call (.Attribute o name apos) (e :: es) [] cpos) (tBM K T r to t) := by subst e0; exact c3O pa slot hty hm ho ha hbase hfew hline hs hplain
def b9F : V -> List V -> Hp -> VK -> Prop := fun x vs H Q => ∃ l xs i y, x = .ref l /\ vs = [.int i, y] /\ H l = some (.lst xs) /\ xs.length < 1000 /\ 0 <= i /\ i <= (xs.length : Int) /\ Q .non (upd H l (.lst (xs.take i.toNat ++ y :: xs.drop i.toNat)))
theorem mt_insert : MtM X "list.insert" b9F := by
 intro pins s σ H x vs v us Q I rx rv h
 obtain ⟨l, xs, i, y, rfl, rfl, hH, hz, h0, h1, q⟩ := h
 cases rx
 obtain ⟨u1, u2, rfl, ru1, ru2⟩ := rv.two
 obtain ⟨t, rfl⟩ := ru1
 obtain ⟨z, its, n, r, hl, e⟩ := I.lstM hH
 have hlen := r.length
 have hs : sizeLine = 16777216 := sizeLine_eq
 have hfit : ¬(!Builtin.List.listFitsIndex i) = true := by
  unfold Builtin.List.listFitsIndex
  simp
  omega
 refine call_meets F.slot_list_insert ⟨_, e, rfl⟩ F.entry_list_insert (F.args_list_insert_3 _ _ _) (AutoSeq1.list_insert_list_int_val_1 l its.toArray n i t u2 hfit (by rw [List.size_toArray]; omega)) ⟨e, ?_⟩
 refine ⟨.non, _, I.lset (its' := its.take i.toNat ++ u2 :: its.drop i.toNat) hH e ?_ ((r.take i.toNat).append (.cons ru2 (r.drop i.toNat))) ?_, rfl, q⟩
 ·have hk : min i.toNat its.length = i.toNat := by omega
  simp [show ¬ i < 0 by omega, hk]
  exact List.take_of_length_le (by simp)
 ·rw [List.length_append, List.length_cons, List.length_take, List.length_drop]
  omega
end
end L2
namespace L2
open PySem PySem.Spec PyProof.Rows
end L2
namespace L2
open PySem PySem.Spec PyProof.Rows
structure New (H : Hp) (p : Addr) (o : HO) (H' : Hp) : Prop where
 fresh : H p = none
 here : H' p = some o
 rest : ∀ b, b ≠ p -> H' b = H b
theorem New.mk0 {H : Hp} {p : Addr} {o : HO} (h : H p = none) : New H p o (upd H p o) := ⟨h, a1V, fun _ hb => a0P hb⟩
theorem New.same {H H' : Hp} {p : Addr} {o : HO} (n : New H p o H') : Same H H' := fun b u e => (n.rest b (a0K e n.fresh)).trans e
theorem New.ne {H H' : Hp} {p b : Addr} {o u : HO} (n : New H p o H') (h : H b = some u) : b ≠ p := a0K h n.fresh
structure Chg (H : Hp) (l : Addr) (o : HO) (H' : Hp) : Prop where
 here : H' l = some o
 rest : ∀ b, b ≠ l -> H' b = H b
theorem Chg.mk0 {H : Hp} {l : Addr} {o : HO} : Chg H l o (upd H l o) := ⟨a1V, fun _ hb => a0P hb⟩
section
variable {X : Cx} {K : Φρ} {es : List Expr} {t : TA} {pos : Pos}
def c3S (t : TA) : TE := fun σ H Q => t σ H fun xs H1 => xs.length <= 1000 /\ ∀ p H', New H1 p (.tup xs) H' -> Q (.ref p) H'
def c3T (t : TA) : TE := fun σ H Q => t σ H fun xs H1 => xs.length <= 1000 /\ ∀ p H', New H1 p (.lst xs) H' -> Q (.ref p) H'
theorem a2A {x1} (h : PA X es t) : PE X (.Tuple es x1 pos) (c3S t) := by
 intro pins s σ H Q I hq
 refine wpAny_Tuple_spliced (thn (h pos pins s σ H _ I hq) fun us s1 ⟨xs, H1, I1, r, z, q⟩ => ?_)
 have z' : xs.length <= sizeLine := Nat.le_of_lt (a0V z)
 refine ⟨by rw [<- r.length]; exact z', ?_⟩
 have hf : H1 s1.heap.objs.size = none := I1.hok.fresh (Nat.le_refl _)
 refine ⟨.ref s1.heap.objs.size, upd H1 s1.heap.objs.size (.tup xs), I1.laid (t' := s1.toks) (fun b u e => Heap.get?_push_of_some _ e) (Nat.le_refl _) ?_, rfl, q _ _ (New.mk0 hf)⟩
 exact ⟨z', us, r, ⟨_, Heap.get?_push_size _ rfl, rfl, _, rfl⟩⟩
theorem a0S (h : PA X es t) : PE X (.List es pos) (c3T t) := by
 intro pins s σ H Q I hq
 refine wpAny_List_spliced (thn (h pos pins s σ H _ I hq) fun us s1 ⟨xs, H1, I1, r, z, q⟩ => ?_)
 have z' : xs.length <= sizeLine := Nat.le_of_lt (a0V z)
 refine ⟨by rw [<- r.length]; exact z', ?_⟩
 have hf : H1 s1.heap.objs.size = none := I1.hok.fresh (Nat.le_refl _)
 refine ⟨.ref s1.heap.objs.size, upd H1 s1.heap.objs.size (.lst xs), I1.laid (t' := s1.toks) (fun b u e => Heap.get?_push_of_some _ e) (Nat.le_refl _) ?_, rfl, q _ _ (New.mk0 hf)⟩
 exact ⟨z', us, 0, r, Heap.get?_push_size _ rfl⟩
theorem OpR.weak {f : Value -> Value -> Sem Value} {r r' : R2} (h : OpR X f r) (m : ∀ x y H Q, r' x y H Q -> r x y H Q) : OpR X f r' := fun pins s σ H x y v u Q I rx ry q => h pins s σ H x y v u Q I rx ry (m x y H Q q)
theorem CallR.weak {f : Value} {r r' : List V -> Hp -> VK -> Prop} (h : CallR X f r) (m : ∀ xs H Q, r' xs H Q -> r xs H Q) : CallR X f r' := fun pins s σ H xs us Q I rs q => h pins s σ H xs us Q I rs (m xs H Q q)
def c3U : R2 := fun x y H Q => ∃ l b xs zs, x = .ref l /\ y = .ref b /\ H l = some (.lst xs) /\ H b = some (.lst zs) /\ xs.length + zs.length <= 1000 /\ ∀ p H', New H p (.lst (xs ++ zs)) H' -> Q (.ref p) H'
theorem a1T : OpR X (binaryOp .Add) c3U := op_cat.weak fun x y H Q ⟨l, b, xs, zs, e1, e2, h1, h2, z, q⟩ => ⟨l, b, xs, zs, e1, e2, h1, h2, Nat.le_of_lt (a0V z), fun p hp => q p _ (New.mk0 hp)⟩
def rSlN (K : Φρ) : V -> Option Int -> Option Int -> Hp -> VK -> Prop := fun x lo hi H Q => ∃ a xs, x = .ref a /\ SqL K H a xs /\ ∀ p H', New H p (.lst (cutV xs lo hi)) H' -> Q (.ref p) H'
theorem a1E (e : X.K = K) : SlR X (rSlN K) := by
 subst e
 exact fun pins s σ H x v vl vu lo hi sl Q I rx hs pl pu ⟨a, xs, e, h, q⟩ => b8Z pins s σ H x v vl vu lo hi sl Q I rx hs pl pu ⟨a, xs, e, h, fun p hp => q p _ (New.mk0 hp)⟩
def c1Z (K : Φρ) : List V -> Hp -> VK -> Prop := fun xs H Q => ∃ p ys, xs = [.ref p] /\ (SqL K H p ys \/ SqT K H p ys) /\ ∀ l H', New H l (.lst ys) H' -> Q (.ref l) H'
theorem a1Q (e : X.K = K) : CallR X (.type "list") (c1Z K) := (b2G e).weak fun xs H Q ⟨p, ys, e, h, q⟩ => ⟨p, ys, e, h, fun l hl => q l _ (New.mk0 hl)⟩
theorem MtM.weak {id : String} {r r' : V -> List V -> Hp -> VK -> Prop} (h : MtM X id r) (m : ∀ x xs H Q, r' x xs H Q -> r x xs H Q) : MtM X id r' := fun pins s σ H x xs v us Q I rx rs q => h pins s σ H x xs v us Q I rx rs (m x xs H Q q)
def c3V : V -> List V -> Hp -> VK -> Prop := fun x vs H Q => ∃ l xs y, x = .ref l /\ vs = [y] /\ H l = some (.lst xs) /\ xs.length < 1000 /\ ∀ H', Chg H l (.lst (xs ++ [y])) H' -> Q .non H'
theorem a3D : MtM X "list.append" c3V := mt_append.weak fun x vs H Q ⟨l, xs, y, e1, e2, h, z, q⟩ => ⟨l, xs, y, e1, e2, h, a0V (Nat.le_of_lt z), q _ Chg.mk0⟩
def c3W : V -> List V -> Hp -> VK -> Prop := fun x vs H Q => ∃ l xs i y, x = .ref l /\ vs = [.int i, y] /\ H l = some (.lst xs) /\ xs.length < 1000 /\ 0 <= i /\ i <= (xs.length : Int) /\ ∀ H', Chg H l (.lst (xs.take i.toNat ++ y :: xs.drop i.toNat)) H' -> Q .non H'
theorem b2H : MtM X "list.insert" c3W := mt_insert.weak fun x vs H Q ⟨l, xs, i, y, e1, e2, h, z, h0, h1, q⟩ => ⟨l, xs, i, y, e1, e2, h, z, h0, h1, q _ Chg.mk0⟩
def c3X : V -> List V -> Hp -> VK -> Prop := fun x vs H Q => ∃ l b xs zs, x = .ref l /\ vs = [.ref b] /\ H l = some (.lst xs) /\ H b = some (.lst zs) /\ xs.length + zs.length <= 1000 /\ ∀ H', Chg H l (.lst (xs ++ zs)) H' -> Q .non H'
theorem a6R : MtM X "list.extend" c3X := mt_extend.weak fun x vs H Q ⟨l, b, xs, zs, e1, e2, h, h', z, q⟩ => ⟨l, b, xs, zs, e1, e2, h, h', Nat.le_of_lt (a0V z), q _ Chg.mk0⟩
end
theorem b0X {K : Φρ} {a : Addr} {xs : List V} {ix : List (Option Nat)} {g : TG} {tt : TT} {te : TE} {σ : St} {H1 : Hp} {Q : VK} (f : V -> Option V) (hx : SqL K H1 a xs) (hz : xs.length <= 1000)
  (hs : ∀ x H (N : Option V -> Hp -> Prop), x ∈ xs -> Same H1 H -> (∀ H', Same H1 H' -> N (f x) H') -> g x (capt ix σ) H fun σ2 H2 => tt σ2 H2 fun b H3 => if b = true then te σ2 H3 fun v H4 => N (some v) H4 else N none H3)
  (hd : ∀ H p H', Same H1 H -> New H p (.lst (xs.filterMap f)) H' -> Q (.ref p) H') : a4L ix g tt te σ H1 Q (Itl K a) :=
 c3Q f hx (Nat.le_of_lt (a0V hz)) hs fun H p s hp => hd H p _ s (New.mk0 hp)
theorem a9X {lo : Int} {n : Nat} {ix : List (Option Nat)} {g : TG} {tt : TT} {te : TE} {σ : St} {H1 : Hp} {Q : VK} (f : Nat -> Option V) (hz : n <= 1000)
  (hs : ∀ i H (N : Option V -> Hp -> Prop), i < n -> Same H1 H -> (∀ H', Same H1 H' -> N (f i) H') -> g (.int (lo + i)) (capt ix σ) H fun σ2 H2 => tt σ2 H2 fun b H3 => if b = true then te σ2 H3 fun v H4 => N (some v) H4 else N none H3)
  (hd : ∀ H p H', Same H1 H -> New H p (.lst ((List.range n).filterMap f)) H' -> Q (.ref p) H') : a4L ix g tt te σ H1 Q (Itr lo n) :=
 c1V f (Nat.le_of_lt (a0V hz)) hs fun H p s hp => hd H p _ s (New.mk0 hp)
end L2
namespace Lw
open PySem L2
theorem b0Y {H : Hp} {p : Addr} (h : H p = none) (o : HO) : Same H (upd H p o) := fun b u q => by rw [a0P (a0K q h)]; exact q
theorem a3H {α β : Type} {f : α -> Option β} {g : α -> β} : ∀ {l : List α}, (∀ x ∈ l, f x = some (g x)) -> l.filterMap f = l.map g
 | [], _ => rfl
 | x :: r, h => by
  rw [List.filterMap_cons_some (h x List.mem_cons_self), List.map_cons, a3H fun y hy => h y (List.mem_cons_of_mem _ hy)]
theorem b9G {f : V -> Option V} {g : Int -> V} {ns : List Int} (h : ∀ v ∈ ns, f (.int v) = some (g v)) : (ns.map V.int).filterMap f = ns.map g := by
 rw [List.filterMap_map]
 exact a3H h
theorem a7F {ns : List Int} {k : Int} (h0 : 0 <= k) (h : k < (ns.length : Int)) : atI (ns.map V.int) k = some (.int (ns.getD k.toNat 0)) := by
 have hk : k.toNat < ns.length := by omega
 have ek : k = ((k.toNat : Nat) : Int) := by omega
 have q : atI (ns.map V.int) ((k.toNat : Nat) : Int) = some (.int (ns.getD k.toNat 0)) := a9P (by
  rw [List.getElem?_map, List.getElem?_eq_getElem hk, τα, List.getElem?_eq_getElem hk]; rfl)
 rw [<- ek] at q
 exact q
def Scr (K : Φρ) (H : Hp) (a : Addr) (ns : List Int) : Prop := (∃ o, H a = some (.frz o (.lst (ns.map V.int)))) \/
 ∃ (o : Obj) (its : Array Value) (n : Nat), K.lookup a = some o /\ o.cls = .type "list" /\ o.dict = none /\ o.data = .seq its n /\ its.size <= sizeLine /\ Vals (ns.map V.int) its.toList
theorem Scr.seq {K : Φρ} {H : Hp} {a : Addr} {ns : List Int} (h : Scr K H a ns) : SqL K H a (ns.map V.int) := by
 rcases h with ⟨o, h⟩ | h
 ·exact .inl (.inr ⟨o, h⟩)
 ·exact .inr h
theorem Scr.of {K : Φρ} {H : Hp} {a : Addr} {ns : List Int} (hO : Only H) (h : SqL K H a (ns.map V.int)) : Scr K H a ns := by
 rcases h with (h | ⟨o, h⟩) | h
 ·rcases hO a with z | ⟨ob, xs, z⟩
  ·rw [z] at h; cases h
  ·rw [z] at h; cases h
 ·exact .inl ⟨o, h⟩
 ·exact .inr h
theorem Scr.same {K : Φρ} {H H' : Hp} {a : Addr} {ns : List Int} (e : Same H H') (h : Scr K H a ns) : Scr K H' a ns := by
 rcases h with ⟨o, h⟩ | h
 ·exact .inl ⟨o, e _ _ h⟩
 ·exact .inr h
def spLaw (K : Φρ) : Sp := fun vs H Q _ => ∃ (a : Addr) (ns : List Int), vs = [.ref a] /\ Scr K H a ns /\ ns.length <= 63 /\ ∀ H', Q (.bl true) H'
end Lw
namespace L2
open PySem PySem.Spec PyProof.Rows
theorem b6N {K : Φρ} {h : Heap} {mg : Str -> Option Value} {x : Str} {st : Stmt} {ps : List Str} {f : Addr} {oc : Value} {od an : Option Addr} {osl : Array (Option Value)} {kV doc pm cdv ct : Value} (X : K.In h) (G : h.Ns mainGlobals mg)
  (a : PySem.W.nsIn K mainGlobals x = some (some (.ref f))) (l : K.lookup f = some ⟨oc, od, .func (PySem.W.fnOf x x (a0Z st) (a0U st) (a0D st) .none kV doc pm an cdv ct), osl⟩) (c : PySem.W.codeIn K cdv x = true) (k : PySem.W.keepIn K (.ref f) = true)
  (hb : ∀ (kV doc pm : Value) (an : Option Addr) (cdv ct : Value) (us : List Value), us.length = ps.length -> bindArgs (PySem.W.fnOf x x (a0Z st) (a0U st) (a0D st) .none kV doc pm an cdv ct) ⟨us, []⟩ = pure (ps.zip us)) :
  Nonempty (Dn K mg x st ps) :=
 have F := c1U (st := st) l c k
 ⟨⟨f, _, F, F.binds hb, PySem.W.mg_of X G a, fun s us hl => .of_eq (hb _ _ _ _ _ _ us hl)⟩⟩
theorem bl_mk {K : Φρ} {h : Heap} {mg : Str -> Option Value} (X : K.In h) (G : h.Ns mainGlobals mg)
  (z1 : PySem.W.nsIn K mainGlobals "len" = some none) (z2 : PySem.W.nsIn K mainGlobals "range" = some none) (z3 : PySem.W.nsIn K mainGlobals "list" = some none) (z4 : PySem.W.nsIn K mainGlobals "isinstance" = some none) (z5 : PySem.W.nsIn K mainGlobals "int" = some none)
  (z6 : PySem.W.nsIn K mainGlobals "bool" = some none) (z7 : PySem.W.nsIn K mainGlobals "str" = some none) (z8 : PySem.W.nsIn K mainGlobals "all" = some none) (z9 : PySem.W.nsIn K mainGlobals "any" = some none) (z10 : PySem.W.nsIn K mainGlobals "sorted" = some none)
  (z11 : PySem.W.nsIn K mainGlobals "set" = some none) (z12 : PySem.W.nsIn K mainGlobals "min" = some none) (z13 : PySem.W.nsIn K mainGlobals "max" = some none) (z14 : PySem.W.nsIn K mainGlobals "tuple" = some none) (z15 : PySem.W.nsIn K mainGlobals "enumerate" = some none)
  (z16 : PySem.W.nsIn K mainGlobals "dict" = some none) (z17 : PySem.W.nsIn K mainGlobals "ValueError" = some none) : Bl mg := by
 refine ⟨fun x hx => ?_⟩
 simp only [List.mem_cons, List.not_mem_nil, or_false] at hx
 rcases hx with rfl | rfl | rfl | rfl | rfl | rfl | rfl | rfl | rfl | rfl | rfl | rfl | rfl | rfl | rfl | rfl | rfl
 ·exact PySem.W.mg_none_of X G z1
 ·exact PySem.W.mg_none_of X G z2
 ·exact PySem.W.mg_none_of X G z3
 ·exact PySem.W.mg_none_of X G z4
 ·exact PySem.W.mg_none_of X G z5
 ·exact PySem.W.mg_none_of X G z6
 ·exact PySem.W.mg_none_of X G z7
 ·exact PySem.W.mg_none_of X G z8
 ·exact PySem.W.mg_none_of X G z9
 ·exact PySem.W.mg_none_of X G z10
 ·exact PySem.W.mg_none_of X G z11
 ·exact PySem.W.mg_none_of X G z12
 ·exact PySem.W.mg_none_of X G z13
 ·exact PySem.W.mg_none_of X G z14
 ·exact PySem.W.mg_none_of X G z15
 ·exact PySem.W.mg_none_of X G z16
 ·exact PySem.W.mg_none_of X G z17
theorem law_at {P : Program} {w : World} {K : Φρ} {mg : Str -> Option Value} {fa : Addr} {st : Stmt} {k : Nat} {sp : Sp} {x : Str} (hfa : mg "law" = some (.ref fa)) (d : Dn K mg "law" st [x]) (F : ∀ base : Heap, FnOk P w K mg base CX0 k d.f d.fd [x] sp) :
  ∃ fd : FuncData, (∀ (s : Shared) (u : Value), BindsTo s fd ⟨[u], []⟩ [(x, u)]) /\ ∀ base : Heap, K.In base -> base.Ns mainGlobals mg -> FnOk P w K mg base CX0 k fa fd [x] sp := by
 have e : fa = d.f := by
  have := hfa.symm.trans d.m
  have := Option.some.inj this
  cases this
  rfl
 subst e
 exact ⟨d.fd, fun s u => d.bd s [u] rfl, fun base _ _ => F base⟩
end L2
namespace L2
open PySem PySem.Spec PyProof.Rows
section
variable {X : Cx} {K : Φρ}
end
theorem c2A {K : Φρ} {a : Addr} {xs : List V} {ix : List (Option Nat)} {g : TG} {tt : TT} {te : TE} {σ : St} {H1 : Hp} {Q : VK} (f : Nat -> Option V) (hx : SqL K H1 a xs) (hz : xs.length <= 1000)
  (hs : ∀ (i : Nat) x H (N : Option V -> Hp -> Prop), xs[i]? = some x -> Same H1 H -> (∀ H', Same H1 H' -> N (f i) H') -> g x (capt ix σ) H fun σ2 H2 => tt σ2 H2 fun b H3 => if b = true then te σ2 H3 fun v H4 => N (some v) H4 else N none H3)
  (hd : ∀ H p H', Same H1 H -> New H p (.lst ((List.range xs.length).filterMap f)) H' -> Q (.ref p) H') : a4L ix g tt te σ H1 Q (Itl K a) := by
 refine a9R (K := K) (a := a) (xs := xs) (fun i ys H => ys = (List.range i).filterMap f /\ Same H1 H) ⟨rfl, Same.refl _⟩ (fun i ys H hi ⟨e, s⟩ => ⟨s.seq hx, ?_⟩) (fun i x ys H hi ⟨e, s⟩ => ?_) fun ys H ⟨e, s⟩ p hp => ?_
 ·subst e
  refine Nat.le_trans (List.length_filterMap_le _ _) ?_
  rw [List.length_range]; exact Nat.le_trans hi (Nat.le_of_lt (a0V hz))
 ·refine hs i x H (fun o H' => match o with | some v => (ys ++ [v] = (List.range (i + 1)).filterMap f /\ Same H1 H') | none => (ys = (List.range (i + 1)).filterMap f /\ Same H1 H')) hi s fun H' s' => ?_
  cases ef : f i with
  | some v =>
   refine ⟨?_, s'⟩
   rw [e, List.range_succ, List.filterMap_append]
   simp [ef]
  | none =>
   refine ⟨?_, s'⟩
   rw [e, List.range_succ, List.filterMap_append]
   simp [ef]
 ·subst e
  exact hd H p _ s (New.mk0 hp)
end L2
namespace Bg
open PySem L2 Lw
abbrev Row := Option Int × List Int
def a8O (ns : List Int) : Bool := (List.range (ns.length - 1)).all fun i => decide (ns.getD i 0 < ns.getD (i + 1) 0)
def setF (n : Int) (ns : List Int) : Bool := (ns.all fun v => decide (0 <= v /\ v < n)) && a8O ns
def a2K (n : Int) : Option Int -> Bool
 | none => false
 | some i => decide (0 <= i /\ i < n)
inductive Flt where
 | ok | row (k : Nat) | place (v : Nat) | tie (a b : Int) | apart (v j k : Nat)
 deriving DecidableEq
def upV : Option Int -> V
 | none => .non
 | some i => .int i
def TieV (K : Φρ) (H : Hp) (v : V) (t : Int × Int) : Prop := ∃ p, v = .ref p /\ SqT K H p [.int t.1, .int t.2]
def TiesAt (K : Φρ) (H : Hp) (a : Addr) (ts : List ζζ) : Prop := ∃ xs, SqL K H a xs /\ Paired (TieV K H) xs ts /\ ts.length <= 1000
def GraphV (K : Φρ) (H : Hp) (v : V) (n : Int) (ts : List ζζ) : Prop := ∃ p a, v = .ref p /\ SqT K H p [.int n, .ref a] /\ TiesAt K H a ts
theorem TiesAt.same {K : Φρ} {H H' : Hp} {a : Addr} {ts : List ζζ} (e : Same H H') (h : TiesAt K H a ts) : TiesAt K H' a ts := by
 obtain ⟨xs, h1, h2, h3⟩ := h
 exact ⟨xs, e.seq h1, Paired.mapP h2 fun _ _ ⟨p, q1, q2⟩ => ⟨p, q1, e.tupq q2⟩, h3⟩
theorem GraphV.same {K : Φρ} {H H' : Hp} {v : V} {n : Int} {ts : List ζζ} (e : Same H H') (h : GraphV K H v n ts) : GraphV K H' v n ts := by
 obtain ⟨p, a, h1, h2, h3⟩ := h
 exact ⟨p, a, h1, e.tupq h2, h3.same e⟩
theorem a1W {α β : Type} {F : α -> β -> Prop} : ∀ {xs : List α} {ys : List β} {i : Nat} {x : α}, Paired F xs ys -> xs[i]? = some x -> ∃ y, ys[i]? = some y /\ F x y
 | _, _, _, _, .nil, h => by simp at h
 | _, _, 0, _, .cons h r, e => by
  simp at e; subst e
  exact ⟨_, rfl, h⟩
 | _, _, i + 1, _, .cons h r, e => by
  obtain ⟨d, e1, q⟩ := a1W (i := i) r (by simpa using e)
  exact ⟨d, by simpa using e1, q⟩
theorem b3U (ns : List Int) (v : Int) : (ns.map PyData.int).any (fun e => PyData.eqv e (.int v)) = decide (v ∈ ns) := by
 induction ns with
 | nil => rfl
 | cons a r ih =>
  rw [List.map_cons, List.any_cons, ih, PyData.eqv]
  by_cases h : a = v
  ·subst h; simp
  ·have h' : ¬ v = a := fun z => h z.symm
   simp [h, h']
theorem b2I (ns : List Int) : PyData.depthAll (ns.map PyData.int) = 0 := by
 induction ns with
 | nil => rfl
 | cons a r ih => rw [List.map_cons, PyData.depthAll, ih]; rfl
theorem b6O (ns : List Int) : PyData.canLayAll0 (ns.map PyData.int) = true := by
 induction ns with
 | nil => rfl
 | cons a r ih => rw [List.map_cons, PyData.canLayAll0, ih]; rfl
theorem a2B (ns : List Int) : SeqAt.shaped (.list (ns.map PyData.int)) = true := by
 unfold SeqAt.shaped
 rw [PyData.canLay0, b6O, PyData.depth, b2I]
 decide
theorem b8I {K : Φρ} {H : Hp} {b : Addr} {ns : List Int} {v : Int} {Q : VK} (hS : SqL K H b (ns.map V.int)) (q : Q (.bl (decide (v ∈ ns))) H) : rInD K false (.int v) (.ref b) H Q :=
 ⟨_, _, .int v, .lst hS (IsDs.ints ns), rfl, a2B ns, by rw [b3U]; exact q⟩
theorem a8P {K : Φρ} {H : Hp} {b : Addr} {ns : List Int} {v : Int} {Q : VK} (hS : SqL K H b (ns.map V.int)) (q : Q (.bl (!decide (v ∈ ns))) H) : rInD K true (.int v) (.ref b) H Q :=
 ⟨_, _, .int v, .lst hS (IsDs.ints ns), rfl, a2B ns, by rw [b3U]; exact q⟩
end Bg
namespace L2
open PySem PySem.Spec PyProof.Rows
def c3Y : V -> V -> V -> Hp -> (Hp -> Prop) -> Prop := fun o i v H Q => ∃ p xs k j, o = .ref p /\ i = .int k /\ H p = some (.lst xs) /\ ixN xs.length k = some j /\ ∀ H', Chg H p (.lst (xs.set j v)) H' -> Q H'
theorem a5L {X : Cx} : PSet X c3Y := fun pins s σ H o i v ov iv u Q I ro ri rv ⟨p, xs, k, j, e1, e2, h1, h2, q⟩ => b6I pins s σ H o i v ov iv u Q I ro ri rv ⟨p, xs, k, j, e1, e2, h1, h2, q _ Chg.mk0⟩
theorem a9Y {n j : Nat} (h : j < n) : ixN n (j : Int) = some j := by
 unfold ixN
 rw [if_pos (by omega), if_pos (by omega)]; simp
theorem Same.chg {H H' : Hp} {l : Addr} {o : HO} {H0 : Hp} (s : Same H0 H) (h0 : H0 l = none) (c : Chg H l o H') : Same H0 H' := fun b u e => (c.rest b (a0K e h0)).trans (s b u e)
end L2
namespace Bg
open PySem L2 Lw
theorem b3V (a b : Int) (r : List Int) : a8O (a :: b :: r) = (decide (a < b) && a8O (b :: r)) := by
 unfold a8O
 have e : (a :: b :: r).length - 1 = (b :: r).length - 1 + 1 := by simp
 rw [e, List.range_succ_eq_map, List.all_cons, List.all_map]
 rfl
theorem b0Z : ∀ ls : List Int, a8O ls = true ↔ ls.Pairwise (· < ·)
 | [] => by simp [a8O]
 | [a] => by simp [a8O]
 | a :: b :: r => by
  rw [b3V, Bool.and_eq_true, b0Z (b :: r), decide_eq_true_iff, List.pairwise_cons (a := a)]
  constructor
  ·rintro ⟨h1, h2⟩
   refine ⟨fun c hc => ?_, h2⟩
   rcases List.mem_cons.mp hc with rfl | hc
   ·exact h1
   ·exact Int.lt_trans h1 ((List.pairwise_cons.mp h2).1 c hc)
  ·rintro ⟨h1, h2⟩
   exact ⟨h1 b List.mem_cons_self, h2⟩
theorem b3W (n : Int) (ls : List Int) : setF n ls = true ↔ (∀ v ∈ ls, 0 <= v /\ v < n) /\ ls.Pairwise (· < ·) := by
 unfold setF
 rw [Bool.and_eq_true, b0Z, List.all_eq_true]
 constructor
 ·rintro ⟨h1, h2⟩
  exact ⟨fun v hv => of_decide_eq_true (h1 v hv), h2⟩
 ·rintro ⟨h1, h2⟩
  exact ⟨fun v hv => decide_eq_true (h1 v hv), h2⟩
def TieL (H : Hp) (v : V) (t : Int × Int) : Prop := ∃ p, v = .ref p /\ H p = some (.tup [.int t.1, .int t.2])
theorem TieL.v {K : Φρ} {H : Hp} {v : V} {t : Int × Int} (h : TieL H v t) : TieV K H v t := by
 obtain ⟨p, e, q⟩ := h
 exact ⟨p, e, SqT.of q⟩
theorem TieL.same {H H' : Hp} {v : V} {t : Int × Int} (s : Same H H') (h : TieL H v t) : TieL H' v t := by
 obtain ⟨p, e, q⟩ := h
 exact ⟨p, e, s _ _ q⟩
theorem TieL.chg {H H' : Hp} {l : Addr} {xs ys : List V} {v : V} {t : Int × Int} (hl : H l = some (.lst xs)) (c : Chg H l (.lst ys) H') (h : TieL H v t) : TieL H' v t := by
 obtain ⟨p, e, q⟩ := h
 exact ⟨p, e, (c.rest p (c1H q hl (by intro z; cases z))).trans q⟩
theorem a2P {α β : Type} {F : α -> β -> Prop} : ∀ {xs : List α} {ys : List β} {x : α} {y : β}, Paired F xs ys -> F x y -> Paired F (xs ++ [x]) (ys ++ [y])
 | _, _, _, _, .nil, h => .cons h .nil
 | _, _, _, _, .cons h r, q => .cons h (a2P r q)
def tieD (t : Int × Int) : PyData := .tuple [.int t.1, .int t.2]
theorem TieV.isD {K : Φρ} {H : Hp} {v : V} {t : Int × Int} (h : TieV K H v t) : IsD K H v (tieD t) := by
 obtain ⟨p, rfl, q1⟩ := h
 exact .tup q1 (.cons (.int _) (.cons (.int _) .nil))
theorem b3X {K : Φρ} {H : Hp} {α : Type} {F : V -> α -> Prop} {f : α -> PyData} (hf : ∀ v x, F v x -> IsD K H v (f x)) : ∀ {xs : List V} {ys : List α}, Paired F xs ys -> IsDs K H xs (ys.map f)
 | _, _, .nil => .nil
 | _, _, .cons h r => .cons (hf _ _ h) (b3X hf r)
def a7G (ts : List ζζ) : PyData := .list (ts.map tieD)
theorem TiesAt.isD {K : Φρ} {H : Hp} {a : Addr} {ts : List ζζ} (h : TiesAt K H a ts) : IsD K H (.ref a) (a7G ts) := by
 obtain ⟨xs, h1, h2, _⟩ := h
 exact .lst h1 (b3X (fun v x q => q.isD) h2)
def webD (n : Int) (ts : List ζζ) : PyData := .tuple [.int n, a7G ts]
theorem GraphV.isD {K : Φρ} {H : Hp} {v : V} {n : Int} {ts : List ζζ} (h : GraphV K H v n ts) : IsD K H v (webD n ts) := by
 obtain ⟨p, a, rfl, q1, q2⟩ := h
 exact .tup q1 (.cons (.int _) (.cons q2.isD .nil))
theorem b3Y {α : Type} {f : α -> PyData} (h : ∀ x, (f x).canLay0 = true) : ∀ l : List α, PyData.canLayAll0 (l.map f) = true
 | [] => rfl
 | x :: r => by rw [List.map_cons, PyData.canLayAll0, h x, b3Y h r]; rfl
theorem a5M {α : Type} {f : α -> PyData} {k : Nat} (h : ∀ x, (f x).depth <= k) : ∀ l : List α, PyData.depthAll (l.map f) <= k
 | [] => Nat.zero_le _
 | x :: r => by
  rw [List.map_cons, PyData.depthAll]
  exact Nat.max_le.mpr ⟨h x, a5M h r⟩
theorem b9H (t : Int × Int) : (tieD t).canLay0 = true := rfl
theorem a8Q (t : Int × Int) : (tieD t).depth <= 1 := by
 unfold tieD
 simp [PyData.depth, PyData.depthAll]
theorem a3I (ts : List ζζ) : SeqAt.shaped (a7G ts) = true := by
 unfold SeqAt.shaped a7G
 rw [PyData.canLay0, b3Y b9H, PyData.depth, Bool.true_and]
 exact decide_eq_true (by have := a5M a8Q ts; omega)
theorem a4E (n : Int) (ts : List ζζ) : SeqAt.shaped (webD n ts) = true := by
 have h := a3I ts
 unfold SeqAt.shaped at h ⊢
 rw [Bool.and_eq_true] at h
 have h2 : (a7G ts).depth <= 2 := by
  unfold a7G
  rw [PyData.depth]
  have := a5M a8Q ts; omega
 unfold webD
 rw [PyData.canLay0, PyData.canLayAll0, PyData.canLayAll0, h.1, PyData.depth, PyData.depthAll, PyData.depthAll, PyData.depthAll, PyData.depth]
 simp only [PyData.canLay0, PyData.canLayAll0, Bool.and_true, Bool.true_and]
 refine decide_eq_true ?_
 omega
theorem a5D {d : PyData} (h : SeqAt.shaped d = true) : PyData.eqv d d = true := SeqAt.eqv_refl d (SeqAt.canLay_of_shaped h)
end Bg
set_option maxHeartbeats 4100000
namespace L2
open PySem PySem.Spec PyProof.Rows
section
variable {X : Cx} {K : Φρ} {a b : Expr} {rest : List Expr} {pos : Pos} {ta tb : TE}
end
end L2
set_option maxHeartbeats 4100000
namespace L2
open PySem PySem.Spec PyProof.Rows
section
variable {K : Φρ} {a : Addr} {xs : List V} {ix : List (Option Nat)} {g : TG} {tt : TT} {te : TE} {σ : St} {H1 : Hp} {Q : VK}
end
section
variable {X : Cx} {K : Φρ}
end
end L2
namespace Srt
open PySem PySem.W PyProof.Rows
def Ok (n : Nat) (key : Nat -> Int) {α : Type} : KasT α -> (α -> Prop) -> Prop
 | .ret a, Q => Q a
 | .ask i j k, Q => i < n /\ j < n /\ Ok n key (k (decide (key i < key j))) Q
section
variable {n : Nat} {key : Nat -> Int} {α β : Type}
theorem Ok.mono {Q Q' : α -> Prop} (h : ∀ a, Q a -> Q' a) : ∀ {t : KasT α}, Ok n key t Q -> Ok n key t Q'
 | .ret _, x => h _ x
 | .ask _ _ _, ⟨a, b, x⟩ => ⟨a, b, Ok.mono h x⟩
theorem Ok.bind {f : α -> KasT β} {Q : β -> Prop} : ∀ {t : KasT α}, Ok n key t (fun a => Ok n key (f a) Q) -> Ok n key (t.bind f) Q
 | .ret _, x => x
 | .ask _ _ _, ⟨a, b, x⟩ => ⟨a, b, Ok.bind x⟩
theorem Ok.wp {cmp : Nat -> Nat -> (Bool -> Shared -> Prop) -> Shared -> Prop} {s : Shared} {Q : α -> Prop} {R : α -> Shared -> Prop} (hc : ∀ i j (C : Bool -> Shared -> Prop), i < n -> j < n -> C (decide (key i < key j)) s -> cmp i j C s) (hq : ∀ a, Q a -> R a s) :
  ∀ {t : KasT α}, Ok n key t Q -> t.kasWp cmp R s
 | .ret _, x => hq _ x
 | .ask i j k, ⟨a, b, x⟩ => hc i j _ a b (Ok.wp hc hq x)
structure Pm (n : Nat) (p : Array Nat) : Prop where
 perm : p.Perm (List.range n).toArray
theorem Pm.size {p : Array Nat} (h : Pm n p) : p.size = n := by
 have := h.perm.size_eq
 simpa using this
theorem Pm.lt {p : Array Nat} (h : Pm n p) {i : Nat} (hi : i < n) : p.getD i 0 < n := by
 have hs := h.size
 have hi' : i < p.size := by omega
 have hm : p[i] ∈ (List.range n) := by
  have := (Array.perm_iff_toList_perm.mp h.perm).mem_iff (a := p[i])
  simpa using this
 have : p.getD i 0 = p[i] := by simp [Array.getD, hi']
 rw [this]; exact List.mem_range.mp hm
theorem Pm.of {p q : Array Nat} (h : Pm n p) (e : q.Perm p) : Pm n q := ⟨e.trans h.perm⟩
def KK (key : Nat -> Int) (p : Array Nat) (i : Nat) : Int := key (p.getD i 0)
theorem a6S (p : Array Nat) (i : Nat) : p.getD i 0 = (p[i]?).getD 0 := by simp [Array.getD_eq_getD_getElem?]
theorem a8R {p : Array Nat} {i j : Nat} (hj : j <= p.size) (k : Nat) : KK key (kas_rev p i j) k = if i <= k /\ k < j then KK key p (i + j - 1 - k) else KK key p k := by
 unfold KK kas_rev
 rw [a6S, getElem?_mirror_all hj]
 split <;> rw [a6S]
theorem b8J {p : Array Nat} {k d : Nat} (hk : k < p.size) (hd : d <= k) (i : Nat) : KK key (bubble p k d) i = if i = k - d then KK key p k else if k - d < i /\ i <= k then KK key p (i - 1) else KK key p i := by
 unfold KK
 rw [a6S, a6S p k, a6S p (i - 1), a6S p i, getElem?_bubble hk d hd]
 split
 ·rfl
 ·split <;> rfl
def Srtd (key : Nat -> Int) (p : Array Nat) (m : Nat) : Prop := ∀ i j, i <= j -> j < m -> KK key p i <= KK key p j
def Down (key : Nat -> Int) (p : Array Nat) (m : Nat) : Prop := ∀ i j, i <= j -> j < m -> KK key p j <= KK key p i
theorem Pm.rev {p : Array Nat} (h : Pm n p) (i j : Nat) : Pm n (kas_rev p i j) := h.of (mirror_perm _ _ _ _)
theorem b3Z {p : Array Nat} (hp : Pm n p) : ∀ (f m : Nat), 1 <= m -> m + f <= n -> Srtd key p m -> Ok n key (kas_asc p f m) (fun r => m <= r /\ r <= m + f /\ Srtd key p r /\ (r = m + f \/ KK key p r < KK key p (r - 1)))
 | 0, m, _, _, hs => ⟨Nat.le_refl _, Nat.le_refl _, hs, .inl rfl⟩
 | f + 1, m, h1, hm, hs => by
  refine ⟨hp.lt (by omega), hp.lt (by omega), ?_⟩
  by_cases c : key (p.getD m 0) < key (p.getD (m - 1) 0)
  ·rw [decide_eq_true c]; dsimp only; rw [if_pos rfl]
   exact ⟨Nat.le_refl _, by omega, hs, .inr c⟩
  ·rw [decide_eq_false c]; dsimp only; rw [if_neg Bool.false_ne_true]
   refine Ok.mono (fun r ⟨a, b, d, e⟩ => ⟨by omega, by omega, d, ?_⟩) (b3Z hp f (m + 1) (by omega) (by omega) ?_)
   ·intro i j hij hj
    by_cases hjm : j < m
    ·exact hs i j hij hjm
    ·have : j = m := by omega
     subst this
     by_cases hi : i = j
     ·subst hi; exact Int.le_refl _
     ·have q := hs i (j - 1) (by omega) (by omega)
      have c' : KK key p (j - 1) <= KK key p j := by unfold KK; omega
      omega
   ·rcases e with e | e
    ·exact .inl (by omega)
    ·exact .inr e
theorem b1A {p : Array Nat} (hp : Pm n p) {m : Nat} (h1 : 1 <= m) (hm : m <= n) (hd : Down key p m) : Ok n key (kas_tail3 m n p) (fun r => Pm n r.2 /\ 1 <= r.1 /\ r.1 <= n /\ Srtd key r.2 r.1) := by
 refine Ok.bind (Ok.mono (fun r ⟨a, b, c, _⟩ => ?_) (b3Z (hp.rev 0 m) (n - m) m h1 (by omega) ?_))
 ·intro i j hij hj
  have hs := hp.size
  rw [a8R (by omega), a8R (by omega), if_pos (by omega), if_pos (by omega)]
  exact hd _ _ (by omega) (by omega)
 ·exact ⟨hp.rev 0 m, by show 1 <= r; omega, by show r <= n; omega, c⟩
theorem a5N {p : Array Nat} {m q : Nat} (hm : m <= p.size) (he : ∀ i, m - (q + 1) <= i -> i < m -> KK key p i = KK key p (m - 1)) (k : Nat) : KK key (kas_rev p (m - (q + 1)) m) k = KK key p k := by
 rw [a8R hm]
 by_cases c : m - (q + 1) <= k /\ k < m
 ·rw [if_pos c, he k c.1 c.2, he _ (by omega) (by omega)]
 ·rw [if_neg c]
theorem a7H : ∀ (f : Nat) {p : Array Nat} (m q : Nat), Pm n p -> 1 <= m -> m + f <= n -> Down key p m -> q + 1 <= m -> (∀ i, m - (q + 1) <= i -> i < m -> KK key p i = KK key p (m - 1)) ->
  Ok n key (kas_desc f p m q) (fun r => Pm n r.1 /\ 1 <= r.2.1 /\ r.2.1 <= n /\ Down key r.1 r.2.1 /\ r.2.2 + 1 <= r.2.1 /\ ∀ i, r.2.1 - (r.2.2 + 1) <= i -> i < r.2.1 -> KK key r.1 i = KK key r.1 (r.2.1 - 1))
 | 0, p, m, q, hp, h1, hm, hd, hq, he => ⟨hp, h1, by show m <= n; omega, hd, hq, he⟩
 | f + 1, p, m, q, hp, h1, hm, hd, hq, he => by
  refine ⟨hp.lt (by omega), hp.lt (by omega), ?_⟩
  have hs := hp.size
  have one : ∀ (p' : Array Nat), (∀ k, KK key p' k = KK key p k) -> KK key p m <= KK key p (m - 1) -> Down key p' (m + 1) := fun p' hk c i j hij hj => by
   rw [hk, hk]
   by_cases hjm : j < m
   ·exact hd i j hij hjm
   ·have : j = m := by omega
    subst this
    by_cases hi : i = j
    ·subst hi; exact Int.le_refl _
    ·have := hd i (j - 1) (by omega) (by omega); omega
  by_cases c : key (p.getD m 0) < key (p.getD (m - 1) 0)
  ·rw [decide_eq_true c]; dsimp only; rw [if_pos rfl]
   have c1 : KK key p m <= KK key p (m - 1) := by unfold KK; omega
   by_cases hq0 : q > 0
   ·rw [if_pos hq0]
    exact a7H f (m + 1) 0 (hp.rev _ _) (by omega) (by omega) (one _ (a5N (by omega) he) c1) (by omega) fun i a b => by congr 1; omega
   ·rw [if_neg hq0]
    exact a7H f (m + 1) 0 hp (by omega) (by omega) (one _ (fun _ => rfl) c1) (by omega) fun i a b => by congr 1; omega
  ·rw [decide_eq_false c]; dsimp only; rw [if_neg Bool.false_ne_true]
   refine ⟨hp.lt (by omega), hp.lt (by omega), ?_⟩
   by_cases d : key (p.getD (m - 1) 0) < key (p.getD m 0)
   ·rw [decide_eq_true d]; dsimp only; rw [if_pos rfl]
    exact ⟨hp, h1, by show m <= n; omega, hd, hq, he⟩
   ·rw [decide_eq_false d]; dsimp only; rw [if_neg Bool.false_ne_true]
    have e : KK key p m = KK key p (m - 1) := by unfold KK; omega
    refine a7H f (m + 1) (q + 1) hp (by omega) (by omega) (one _ (fun _ => rfl) (by omega)) (by omega) fun i a b => ?_
    rw [show m + 1 - 1 = m by omega]
    by_cases hi : i = m
    ·subst hi; rfl
    ·rw [e]; exact he i (by omega) (by omega)
theorem a5O {p : Array Nat} (hp : Pm n p) {m : Nat} (hm : m + 1 <= n) (hd : Down key p (m + 1)) : Ok n key (kas_descPart m n p) (fun r => Pm n r.2 /\ 1 <= r.1 /\ r.1 <= n /\ Srtd key r.2 r.1) := by
 refine Ok.bind (Ok.mono (fun r ⟨a, b, c, d, e, g⟩ => ?_) (a7H (n - (m + 1)) (m + 1) 0 hp (by omega) (by omega) hd (by omega) fun i x y => by congr 1; omega))
 have hs := a.size
 by_cases q : r.2.2 > 0
 ·rw [if_pos q]
  exact b1A (a.rev _ _) b c fun i j x y => by rw [a5N (by omega) g, a5N (by omega) g]; exact d i j x y
 ·rw [if_neg q]
  exact b1A a b c d
theorem b6P {p : Array Nat} (hp : Pm n p) (h1 : 1 <= n) : Ok n key (kas_count n p) (fun r => Pm n r.2 /\ 1 <= r.1 /\ r.1 <= n /\ Srtd key r.2 r.1) := by
 refine Ok.bind (Ok.mono (fun m ⟨a, b, c, d⟩ => ?_) (b3Z hp (n - 1) 1 (Nat.le_refl _) (by omega) fun i j x y => by have : i = j := (by omega); subst this; exact Int.le_refl _))
 by_cases e : m = n
 ·rw [if_pos (by simpa using e)]
  exact ⟨hp, a, by omega, c⟩
 ·rw [if_neg (by simpa using e)]
  have lt : KK key p m < KK key p (m - 1) := by
   rcases d with d | d
   ·omega
   ·exact d
  have hs := hp.size
  by_cases g : m > 1
  ·rw [if_pos g]
   refine ⟨hp.lt (by omega), hp.lt (by omega), ?_⟩
   by_cases z : key (p.getD 0 0) < key (p.getD (m - 1) 0)
   ·rw [decide_eq_true z]; dsimp only; rw [if_pos rfl]
    exact ⟨hp, a, by show m <= n; omega, c⟩
   ·rw [decide_eq_false z]; dsimp only; rw [if_neg Bool.false_ne_true]
    refine a5O (hp.rev _ _) (by omega) ?_
    have z' : KK key p (m - 1) <= KK key p 0 := by unfold KK; omega
    have all : ∀ i, i < m -> KK key p i = KK key p 0 := fun i hi => by
     have q1 := c 0 i (by omega) hi
     have q2 := c i (m - 1) (by omega) (by omega)
     omega
    intro i j hij hj
    rw [a8R (by omega), a8R (by omega)]
    by_cases hjm : j < m
    ·rw [if_pos (by omega), if_pos (by omega)]
     have u1 := all (0 + m - 1 - j) (by omega)
     have u2 := all (0 + m - 1 - i) (by omega)
     omega
    ·have : j = m := by omega
     subst this
     rw [if_neg (by omega)]
     by_cases hi : i < j
     ·rw [if_pos (by omega)]
      have u1 := all (j - 1) (by omega)
      have u2 := all (0 + j - 1 - i) (by omega)
      omega
     ·rw [if_neg (by omega)]
      have : i = j := by omega
      subst this; exact Int.le_refl _
  ·rw [if_neg g]
   have m1 : m = 1 := by omega
   subst m1
   refine a5O hp (by omega) fun i j hij hj => ?_
   by_cases hi : i = j
   ·subst hi; exact Int.le_refl _
   ·have i0 : i = 0 := by omega
    have j1 : j = 1 := by omega
    subst i0; subst j1
    exact Int.le_of_lt lt
theorem a7I {p : Array Nat} (hp : Pm n p) {k : Nat} (hk : k < n) (hs : Srtd key p k) : ∀ (f l r : Nat), l <= r -> r <= k -> r - l <= f -> (∀ i, i < l -> KK key p i <= KK key p k) -> (∀ i, r <= i -> i < k -> KK key p k < KK key p i) ->
  Ok n key (kas_place p k f l r) (fun l => l <= k /\ (∀ i, i < l -> KK key p i <= KK key p k) /\ ∀ i, l <= i -> i < k -> KK key p k < KK key p i)
 | 0, l, r, h1, h2, h3, lo, hi => ⟨by omega, lo, fun i a b => hi i (by omega) b⟩
 | f + 1, l, r, h1, h2, h3, lo, hi => by
  unfold kas_place
  by_cases c : l ≥ r
  ·rw [if_pos c]
   exact ⟨by omega, lo, fun i a b => hi i (by omega) b⟩
  ·rw [if_neg c]
   refine ⟨hp.lt hk, hp.lt (by omega), ?_⟩
   by_cases d : key (p.getD k 0) < key (p.getD ((l + r) / 2) 0)
   ·rw [decide_eq_true d]; dsimp only; rw [if_pos rfl]
    refine a7I hp hk hs f l ((l + r) / 2) (by omega) (by omega) (by omega) lo fun i a b => ?_
    have := hs ((l + r) / 2) i a b
    have d' : KK key p k < KK key p ((l + r) / 2) := d
    omega
   ·rw [decide_eq_false d]; dsimp only; rw [if_neg Bool.false_ne_true]
    refine a7I hp hk hs f ((l + r) / 2 + 1) r (by omega) h2 (by omega) (fun i a => ?_) hi
    have := hs i ((l + r) / 2) (by omega) (by omega)
    have d' : KK key p ((l + r) / 2) <= KK key p k := by unfold KK; omega
    omega
theorem b8K : ∀ (f : Nat) {p : Array Nat} (k : Nat), Pm n p -> k + f = n -> Srtd key p k -> Ok n key (kas_bin f p k) (fun p => Pm n p /\ Srtd key p n)
 | 0, p, k, hp, hk, hs => ⟨hp, by have : k = n := (by omega); rw [<- this]; exact hs⟩
 | f + 1, p, k, hp, hk, hs => by
  refine Ok.bind (Ok.mono (fun l ⟨a, lo, hi⟩ => ?_) (a7I hp (by omega) hs k 0 k (by omega) (Nat.le_refl _) (by omega) (fun i h => by omega) fun i h1 h2 => by omega))
  have hz := hp.size
  refine b8K f (k + 1) (hp.of (bubble_perm _ _ _)) (by omega) fun i j hij hj => ?_
  rw [b8J (by omega) (by omega), b8J (by omega) (by omega)]
  rw [show k - (k - l) = l by omega]
  by_cases i1 : i = l
  ·rw [if_pos i1]
   by_cases j1 : j = l
   ·rw [if_pos j1]; exact Int.le_refl _
   ·rw [if_neg j1, if_pos (by omega)]
    exact Int.le_of_lt (hi (j - 1) (by omega) (by omega))
  ·rw [if_neg i1]
   by_cases i2 : l < i /\ i <= k
   ·rw [if_pos i2, if_neg (by omega), if_pos (by omega)]
    exact hs (i - 1) (j - 1) (by omega) (by omega)
   ·rw [if_neg i2]
    by_cases j1 : j = l
    ·rw [if_pos j1]; exact lo i (by omega)
    ·rw [if_neg j1]
     by_cases j2 : l < j /\ j <= k
     ·rw [if_pos j2]; exact hs i (j - 1) (by omega) (by omega)
     ·rw [if_neg j2]; exact hs i j hij (by omega)
theorem b9I (h1 : 1 <= n) : Ok n key (kas_sort n) (fun p => Pm n p /\ Srtd key p n) := by
 refine Ok.bind (Ok.mono (fun r ⟨a, b, c, d⟩ => ?_) (b6P ⟨Array.Perm.refl _⟩ h1))
 by_cases e : r.1 < n
 ·rw [if_pos e]
  refine b8K _ _ a (by omega) ?_
  rw [show max r.1 1 = r.1 by omega]
  exact d
 ·rw [if_neg e]
  exact ⟨a, by have : r.1 = n := (by omega); rw [<- this]; exact d⟩
end
end Srt
set_option maxHeartbeats 4100000
namespace Srt
open PySem PyProof.Rows PySem.Calls PySem.W
section
variable {prog : Program} {wo : World} {A : Around} {E : Value -> Shared -> Prop} {s : Shared}
def Asks (prog : Program) (wo : World) (A : Around) (κ : SortKind) (zs : List Value) (key : Nat -> Int) (s : Shared) : Prop :=
 (∀ (E : Value -> Shared -> Prop) (R : SortKind -> Shared -> Prop), R κ s -> wpAny (model prog wo) A (keyKind' zs.toArray) R E s) /\
 ∀ (i j : Nat) (C : Bool -> Shared -> Prop), i < zs.length -> j < zs.length -> C (decide (key i < key j)) s -> kas_ask prog wo A κ zs i j C s
abbrev a9Z (zs : List Value) (p : Array Nat) : Array Value := List.toArray (p.toList.map fun i => zs.getD i Value.none)
theorem c2B (zs : List Value) : a9Z zs (List.range zs.length).toArray = zs.toArray := by
 unfold a9Z
 congr 1
 apply List.ext_getElem?
 intro i
 by_cases h : i < zs.length
 ·simp [h]
 ·simp [h]
theorem a8S {a : Addr} {zs : List Value} {n : Nat} {κ : SortKind} {key : Nat -> Int} {P : PySem.Fin -> Shared -> Prop} (oa : s.heap.get? a = some (seqObj "list" zs.toArray n)) (h64 : zs.length < 64)
  (hk : 2 <= zs.length -> ∀ h', (∀ b o, b ≠ a -> s.heap.get? b = some o -> h'.get? b = some o) -> Asks prog wo A κ zs key { s with heap := h' })
  (h : ∀ p, Pm zs.length p -> Srtd key p zs.length -> P (.done (.ret .none)) { s with heap := sortedHeap s.heap a zs (a9Z zs p) }) :
  wpAny (model prog wo) A (Builtin.«list.sort» ⟨[.ref a], []⟩) P E s := by
 rw [list_sort_plain]
 have la : a < s.heap.objs.size := Heap.lt_size oa
 refine wpAny_bind (listItems_at oa rfl ?_)
 refine wpAny_bind (listUpdate_at oa rfl ?_ (by rw [List.size_toArray, sizeLine_eq]; omega) (Nat.zero_le _))
 obtain ⟨ep, oa1⟩ : ∃ ep, (s.heap.update a (Obj.mapSeq fun _ => #[])).get? a = some (seqObj "list" #[] ep) := ⟨_, get?_update_seq oa (fun _ => #[])⟩
 refine wpAny_bind (seqEpoch_at oa1 rfl ?_)
 refine wpAny_bind (wpAny_newTuple ?_ (by show zs.length <= _; rw [sizeLine_eq]; omega))
 refine wpAny_bind (wpAny_newList (wpAny_holding ?_) (Nat.zero_le _))
 have oa6 : (((s.heap.update a (Obj.mapSeq fun _ => #[])).push (seqObj "tuple" zs.toArray 0)).push (seqObj "list" #[] 0)).get? a = some (seqObj "list" #[] ep) := by
  rw [Heap.get?_push_ne _ _ _ (by rw [size_push', Heap.size_update]; exact Nat.ne_of_lt (Nat.lt_succ_of_lt la)), Heap.get?_push_ne _ _ _ (by rw [Heap.size_update]; exact Nat.ne_of_lt la)]
  exact oa1
 show wpAny (model prog wo) A _ P E { s with heap := ((s.heap.update a (Obj.mapSeq fun _ => #[])).push (seqObj "tuple" zs.toArray 0)).push (seqObj "list" #[] 0) }
 dsimp only
 have lz : zs.toArray.size = zs.length := by simp
 by_cases g2 : zs.toArray.size < 2
 ·rw [if_pos g2, if_pos g2]
  refine wpAny_bind (wpAny_pure ?_); rw [StateT.run_pure]; refine wpAny_bind (wpAny_pure ?_); dsimp only
  refine wpAny_bind (seqEpoch_at oa6 rfl ?_)
  refine wpAny_bind (listUpdate_at oa6 rfl ?_ (Nat.zero_le _) (by rw [Array.size_map]; show (pairsOf zs).size <= _; rw [pairsOf_size, sizeLine_eq]; omega))
  simp only [if_false, Bool.false_eq_true, bne_self_eq_false]
  have q := h (List.range zs.length).toArray ⟨Array.Perm.refl _⟩ (fun i j hij hj => by have : i = j := (by omega); subst this; exact Int.le_refl _)
  rw [c2B] at q
  refine wpAny_pure ?_
  have e : (arrOf (SortSt.mk' general' (zs.toArray.zip zs.toArray) #[] 7 none)).map (·.2) = zs.toArray := by
   show (zs.toArray.zip zs.toArray).map (·.2) = zs.toArray
   rw [Array.map_snd_zip]
   exact Nat.le_refl _
  rw [e]
  exact q
 ·rw [if_neg g2, if_neg g2]
  have h2' : 2 <= zs.length := by omega
  obtain ⟨ak, ac⟩ := hk h2' (((s.heap.update a (Obj.mapSeq fun _ => #[])).push (seqObj "tuple" zs.toArray 0)).push (seqObj "list" #[] 0)) fun b o hb e => Heap.get?_push_of_some _ (Heap.get?_push_of_some _ (by rw [Heap.get?_update_ne _ _ _ _ hb]; exact e))
  refine wpAny_bind (ak _ _ ?_)
  have ask : (kas_sort zs.length).kasWp (kas_ask prog wo A κ zs) (fun p s' => s' = { s with heap := ((s.heap.update a (Obj.mapSeq fun _ => #[])).push (seqObj "tuple" zs.toArray 0)).push (seqObj "list" #[] 0) } /\ Pm zs.length p /\ Srtd key p zs.length)
    { s with heap := ((s.heap.update a (Obj.mapSeq fun _ => #[])).push (seqObj "tuple" zs.toArray 0)).push (seqObj "list" #[] 0) } :=
   Ok.wp (n := zs.length) (key := key) ac (fun p hp => ⟨rfl, hp⟩) (b9I (by omega))
  rw [kas_ask_eq] at ask
  have est : SortSt.mk' κ (zs.toArray.zip zs.toArray) #[] 7 none = kas_st κ (pairsOf zs) (List.toArray (List.range zs.length)) := by
   have e := kas_range (pairsOf zs)
   rw [pairsOf_size] at e
   show SortSt.mk' κ (pairsOf zs) #[] 7 none = SortSt.mk' κ ((List.toArray (List.range zs.length)).map (kas_item (pairsOf zs))) #[] 7 none
   rw [e]
  have rn := kas_runs (E := E) (Q := fun _ st' s' => ∃ p : Array Nat, p.size = zs.length /\ arrOf st' = p.map (kas_item (pairsOf zs)) /\ failedOf st' = none /\ (s' = { s with heap := ((s.heap.update a (Obj.mapSeq fun _ => #[])).push (seqObj "tuple" zs.toArray 0)).push (seqObj "list" #[] 0) } /\ Pm zs.length p /\ Srtd key p zs.length))
   h2' h64 (fun p' st' s' a1 a2 a3 a4 => ⟨p', a1, a2, a3, a4⟩) ask
  rw [<- est] at rn
  refine wpAny_bind (wpAny_mono rn ?_ fun _ _ e => e)
  rintro ⟨⟨⟩, st'⟩ s' ⟨p, hp, ra, hf, rfl, pm, sr⟩
  dsimp only
  have hout : (arrOf st').map (·.2) = a9Z zs p := by
   apply Array.toList_inj.mp
   rw [ra, Array.map_map, Array.toList_map]
   exact List.map_congr_left fun i _ => by show (kas_item (pairsOf zs) i).2 = _; rw [kas_item_eq]
  have hso : (a9Z zs p).size = zs.length := by rw [List.size_toArray, List.length_map, Array.length_toList, hp]
  rw [hout]
  refine wpAny_bind (seqEpoch_at oa6 rfl ?_)
  refine wpAny_bind (listUpdate_at oa6 rfl ?_ (Nat.zero_le _) (Nat.le_trans (Nat.le_of_eq hso) (by rw [sizeLine_eq]; omega)))
  rw [hf]
  simp only [if_false, Bool.false_eq_true, bne_self_eq_false]
  exact wpAny_pure (h p pm sr)
theorem b4A {l : Addr} {zs : List Value} {κ : SortKind} {key : Nat -> Int} {R : Value -> Shared -> Prop} (il : s.heap.IsList l zs.toArray) (h64 : zs.length < 64)
  (hk : 2 <= zs.length -> ∀ (A' : Around) (h' : Heap), (∀ b o, s.heap.get? b = some o -> h'.get? b = some o) -> Asks prog wo A' κ zs key { s with heap := h' })
  (h : ∀ p, Pm zs.length p -> Srtd key p zs.length -> R (.ref (s.heap.objs.size + 1)) { s with heap := sortedAll s.heap zs (a9Z zs p) }) :
  wpAny (model prog wo) A (call (.builtin "sorted") [.ref l]) R E s := by
 apply Calls.call_function_entry kind_sorted plain_sorted entry_sorted (args_sorted1 _)
 unfold Builtin.«sorted»
 refine wpAny_bind (m := checkCount "sorted" 1 1 _) (wpAny_pure ?_); refine wpAny_bind (collect_list il ?_ (by rw [sizeLine_eq]; omega))
 refine wpAny_bind (wpAny_newList ?_ (by rw [sizeLine_eq]; omega))
 have lz : ((s.heap.push (seqObj "list" #[] 0)).update s.heap.objs.size (Obj.mapSeq (· ++ zs.toArray))).objs.size = s.heap.objs.size + 1 := by
  rw [Heap.size_update]; exact size_push' _ _
 have oL : (((s.heap.push (seqObj "list" #[] 0)).update s.heap.objs.size (Obj.mapSeq (· ++ zs.toArray))).push (seqObj "list" zs.toArray 0)).get? (s.heap.objs.size + 1) = some (seqObj "list" zs.toArray 0) := by
  rw [<- lz]; exact Heap.get?_push_size _ rfl
 show wpAny _ _ _ _ _ { s with heap := ((s.heap.push (seqObj "list" #[] 0)).update s.heap.objs.size (Obj.mapSeq (· ++ zs.toArray))).push (seqObj "list" zs.toArray 0) }
 rw [lz]
 refine wpAny_bind (wpAny_holding (wpAny_call_entry slot_list_sort ⟨_, oL, rfl⟩ entry_list_sort (a8S (κ := κ) (key := key) oL h64 (fun g2 h' kp => hk g2 _ h' fun b o e => ?_) fun p a1 a2 => ⟨_, rfl, ?_⟩) (args_list_sort _)))
 ·have lb : b < s.heap.objs.size := Heap.lt_size e
  refine kp b o (Nat.ne_of_lt (Nat.lt_succ_of_lt lb)) ?_
  rw [Heap.get?_push_ne _ _ _ (by rw [lz]; exact Nat.ne_of_lt (Nat.lt_succ_of_lt lb)), Heap.get?_update_ne _ _ _ _ (Nat.ne_of_lt lb), Heap.get?_push_ne _ _ _ (Nat.ne_of_lt lb)]
  exact e
 ·exact wpAny_pure ⟨_, rfl, h p a1 a2⟩
end
end Srt
set_option maxHeartbeats 4100000
namespace Srt
open PySem PyProof.Rows PySem.Calls PySem.W
theorem a8T {α : Type} {p q : α -> Bool} (h : ∀ x, p x = true -> q x = true) (l : List α) : l.countP p <= l.countP q := by
 induction l with
 | nil => exact Nat.le_refl _
 | cons a r ih =>
  rw [List.countP_cons, List.countP_cons]
  by_cases c : p a = true
  ·rw [if_pos c, if_pos (h a c)]; omega
  ·rw [if_neg c]; omega
theorem a8U {α : Type} {p q : α -> Bool} (h : ∀ x, p x = true -> q x = true) {x : α} : ∀ {l : List α}, x ∈ l -> p x = false -> q x = true -> l.countP p < l.countP q
 | a :: r, hx, h1, h2 => by
  rw [List.countP_cons, List.countP_cons]
  have le := a8T h r
  rcases List.mem_cons.mp hx with rfl | hx
  ·rw [if_neg (by rw [h1]; exact Bool.false_ne_true), if_pos h2]; omega
  ·have ih := a8U h hx h1 h2
   by_cases c : p a = true
   ·rw [if_pos c, if_pos (h a c)]; omega
   ·rw [if_neg c]; omega
def rank (ls : List (List Int)) (i : Nat) : Int := (ls.countP fun z => decide (z < ls.getD i []) : Nat)
theorem c3Z {x y z : List Int} (h : z < y) (h2 : ¬ x < y) : z < x := by
 by_cases c : z < x
 ·exact c
 ·exact absurd (List.lt_of_le_of_lt (List.not_lt.mp c) h) h2
theorem b4B {ls : List (List Int)} {i j : Nat} (hi : i < ls.length) : decide (rank ls i < rank ls j) = decide (ls.getD i [] < ls.getD j []) := by
 have hm : ls.getD i [] ∈ ls := by
  rw [τα, List.getElem?_eq_getElem hi]; exact List.getElem_mem hi
 unfold rank
 by_cases c : ls.getD i [] < ls.getD j []
 ·rw [decide_eq_true c]
  refine decide_eq_true (Int.ofNat_lt.mpr (a8U (fun z hz => ?_) hm ?_ ?_))
  ·exact decide_eq_true (List.lt_trans (of_decide_eq_true hz) c)
  ·exact decide_eq_false (List.lt_irrefl _)
  ·exact decide_eq_true c
 ·rw [decide_eq_false c]
  refine decide_eq_false fun z => ?_
  have := a8T (p := fun z => decide (z < ls.getD j [])) (q := fun z => decide (z < ls.getD i [])) (fun z hz => decide_eq_true (c3Z (of_decide_eq_true hz) c)) ls
  omega
section
variable {prog : Program} {w : World} {A : Around} {E : Value -> Shared -> Prop} {s : Shared} {Q : Bool -> Shared -> Prop}
theorem b1B : ∀ {xs ys : List Value} {ns ms : List Int} (i : Nat), IntsAre xs ns -> IntsAre ys ms -> Q (decide (ns < ms)) s -> KatLex prog w A true (decide (xs.length < ys.length)) Q (xs.zip ys) i s
 | _, _, _, _, i, .nil, .nil, h => by
  refine kat_nil ?_
  exact h
 | _, _, _, _, i, .nil, .cons (vs := ys) (ns := ms) m u y, h => by
  refine kat_nil ?_
  have e : decide (([] : List Int) < m :: ms) = true := decide_eq_true (List.Lex.nil)
  rw [e] at h
  have e2 : decide (([] : List Value).length < (Value.int m u :: ys).length) = true := by simp
  rw [e2]; exact h
 | _, _, _, _, i, .cons (vs := xs) (ns := ns) n t x, .nil, h => by
  refine kat_nil ?_
  have e : decide (n :: ns < ([] : List Int)) = false := decide_eq_false (List.not_lt_nil _)
  rw [e] at h
  have e2 : decide ((Value.int n t :: xs).length < ([] : List Value).length) = false := by simp
  rw [e2]; exact h
 | _, _, _, _, i, .cons (vs := xs) (ns := ns) n t x, .cons (vs := ys) (ns := ms) m u y, h => by
  have ef : decide ((Value.int n t :: xs).length < (Value.int m u :: ys).length) = decide (xs.length < ys.length) := by
   simp only [List.length_cons, Nat.add_lt_add_iff_right]
  rw [ef]
  refine kat_cons (wpAny_eqBool_int ?_)
  by_cases c : n = m
  ·subst c
   rw [beq_self_eq_true]
   refine kat_yes (b1B (i + 1) x y ?_)
   have e : decide (n :: ns < n :: ms) = decide (ns < ms) := by
    have : (n :: ns < n :: ms) ↔ ns < ms := by rw [List.cons_lt_cons_iff]; simp
    simp only [this]
   rw [e] at h; exact h
  ·rw [beq_eq_false_iff_ne.mpr c]
   refine kat_no ?_
   have e : decide (n :: ns < m :: ms) = decide (n < m) := by
    have : (n :: ns < m :: ms) ↔ n < m := by rw [List.cons_lt_cons_iff]; simp [c]
    simp only [this]
   rw [e] at h
   cases z : (true && i == 0) with
   | true => exact oneLt_int h
   | false => exact kat_one _ _ (lt_int h)
structure TupI (h : Heap) (v : Value) (ns : List Int) : Prop where
 at' : ∃ a o xs n, v = .ref a /\ h.get? a = some o /\ o.cls = .type "tuple" /\ o.data = .seq xs n /\ IntsAre xs.toList ns
 ne : ns ≠ []
inductive TupsI (h : Heap) : List Value -> List (List Int) -> Prop
 | nil : TupsI h [] []
 | cons {v ns vs ls} : TupI h v ns -> TupsI h vs ls -> TupsI h (v :: vs) (ns :: ls)
theorem TupsI.keep {h h' : Heap} (k : ∀ b o, h.get? b = some o -> h'.get? b = some o) : ∀ {vs ls}, TupsI h vs ls -> TupsI h' vs ls
 | _, _, .nil => .nil
 | _, _, .cons ⟨⟨a, o, xs, n, e, ho, r⟩, ne⟩ t => .cons ⟨⟨a, o, xs, n, e, k _ _ ho, r⟩, ne⟩ (TupsI.keep k t)
theorem TupsI.len {h : Heap} : ∀ {vs ls}, TupsI h vs ls -> vs.length = ls.length
 | _, _, .nil => rfl
 | _, _, .cons _ t => by rw [List.length_cons, List.length_cons, t.len]
theorem TupsI.get {h : Heap} : ∀ {vs ls}, TupsI h vs ls -> ∀ {i}, i < vs.length -> TupI h (vs.getD i .none) (ls.getD i [])
 | _, _, .cons a t, 0, _ => a
 | _, _, .cons a t, i + 1, hi => by
  have := t.get (i := i) (by simpa using hi)
  simpa using this
theorem TupsI.kat {h : Heap} : ∀ {vs ls}, TupsI h vs ls -> ∃ fs, KatTups h vs fs /\ fs.length = vs.length /\ ∀ v ∈ fs, ∃ n t, v = Value.int n t
 | _, _, .nil => ⟨[], KatTups.nil, rfl, fun v hv => absurd hv List.not_mem_nil⟩
 | _, _, .cons (ns := ns) ⟨⟨a, o, xs, n, e, ho, hc, hd, hi⟩, ne⟩ t => by
  obtain ⟨fs, k, l, q⟩ := t.kat
  subst e
  obtain ⟨xl⟩ := xs
  have hi : IntsAre xl ns := hi
  cases hi with
  | nil => exact absurd rfl ne
  | cons m u r =>
   refine ⟨.int m u :: fs, KatTups.cons ho hc hd rfl k, by rw [List.length_cons, List.length_cons, l], fun v hv => ?_⟩
   rcases List.mem_cons.mp hv with rfl | hv
   ·exact ⟨m, u, rfl⟩
   ·exact q v hv
theorem b4C {vs : List Value} {ls : List (List Int)} (h : TupsI s.heap vs ls) (h2 : 2 <= vs.length) : Asks prog w A (tuples' true) vs (rank ls) s := by
 refine ⟨fun E Q q => ?_, fun i j C hi hj q => ?_⟩
 ·obtain ⟨fs, k, l, ty⟩ := h.kat
  refine kat_kind (T := .type "int") k (by omega) (fun v hv => ?_) rfl q
  obtain ⟨n, t, rfl⟩ := ty v hv
  exact Looks.of_pure rfl
 ·obtain ⟨⟨a, o, xs, n, e1, ho, hc, hd, hx⟩, _⟩ := h.get hi
  obtain ⟨⟨a', o', ys, n', e2, ho', hc', hd', hy⟩, _⟩ := h.get hj
  unfold kas_ask
  rw [e1, e2]
  refine kat_lt ho hd ho' hd' ?_
  rw [b4B (by rw [<- h.len]; exact hi)] at q
  exact b1B 0 hx hy q
end
end Srt
set_option maxHeartbeats 4100000
namespace L2
open PySem PySem.Spec PyProof.Rows Bg Srt
def TupV (K : Φρ) (H : Hp) (v : V) (ns : List Int) : Prop := ∃ p, v = .ref p /\ SqT K H p (ns.map V.int)
def c2C (K : Φρ) : List V -> Hp -> VK -> Prop := fun xs H Q => ∃ l vs, ∃ ls : List (List Int), xs = [.ref l] /\ SqL K H l vs /\ Paired (TupV K H) vs ls /\ (∀ ns ∈ ls, ns ≠ []) /\ vs.length < 64 /\
 ∀ (q : List Nat) p H', q.Perm (List.range vs.length) -> (q.map fun i => ls.getD i []).Pairwise (fun a b => ¬ b < a) -> New H p (.lst (q.map fun i => vs.getD i .non)) H' -> Q (.ref p) H'
theorem a3J : ∀ {ns : List Int} {us : List Value}, Vals (ns.map V.int) us -> IntsAre us ns
 | [], _, .nil => .nil
 | n :: ns, _, .cons r t => by
  obtain ⟨k, rfl⟩ := r
  exact .cons n k (a3J t)
section
variable {X : Cx} {K : Φρ}
theorem b4D {pins : List (Addr × Obj)} {σ : St} {H : Hp} {s : Shared} (I : Inv X pins σ H s) : ∀ {vs : List V} {us : List Value} {ls : List (List Int)}, Vals vs us -> Paired (TupV X.K H) vs ls -> (∀ ns ∈ ls, ns ≠ []) -> TupsI s.heap us ls
 | _, _, _, .nil, p, _ => by
  cases p
  exact .nil
 | _, _, _, .cons r t, p, ne => by
  cases p with
  | cons a b =>
   obtain ⟨pt, rfl, hT⟩ := a
   obtain ⟨its, ri, ⟨o, ho, hc, n, hd⟩, _⟩ := I.tuple hT
   cases r
   exact .cons ⟨⟨pt, o, its.toArray, n, rfl, ho, hc, hd, by simpa using a3J ri⟩, ne _ List.mem_cons_self⟩ (b4D I t b fun ns h => ne ns (List.mem_cons_of_mem _ h))
theorem a8V : ∀ {vs : List V} {us : List Value}, Vals vs us -> ∀ i, i < vs.length -> RelV (vs.getD i .non) (us.getD i .none)
 | _, _, .cons r t, 0, _ => r
 | _, _, .cons r t, i + 1, hi => by
  have := a8V t i (by simpa using hi)
  simpa using this
theorem b1C {vs : List V} {us : List Value} (r : Vals vs us) : ∀ (q : List Nat), (∀ i ∈ q, i < vs.length) -> Vals (q.map fun i => vs.getD i .non) (q.map fun i => us.getD i .none)
 | [], _ => .nil
 | i :: q, h => .cons (a8V r i (h i List.mem_cons_self)) (b1C r q fun j hj => h j (List.mem_cons_of_mem _ hj))
theorem a8W (e : X.K = K) : CallR X (.builtin "sorted") (c2C K) := by
 subst e
 intro pins s σ H xs us Q I r h
 obtain ⟨l, vs, ls, rfl, hL, hP, ne, h64, q⟩ := h
 obtain ⟨u, rfl, rx⟩ := a4X r
 cases rx
 obtain ⟨its, r', pl, hz⟩ := I.list hL
 have hlen := r'.length
 have ht := b4D I r' hP ne
 have hl2 := ht.len
 refine b4A (κ := tuples' true) (key := rank ls) pl.isList (by omega) (fun h2 A' h' kp => b4C (ht.keep kp) h2) fun p pm sr => ?_
 obtain ⟨c, hc⟩ := sortedAll_at s.heap its (a9Z its p)
 have hs := pm.size
 have mem : ∀ i ∈ p.toList, i < its.length := fun i hi => by
  have := (Array.perm_iff_toList_perm.mp pm.perm).mem_iff (a := i)
  have h1 := this.mp hi
  simpa using h1
 have z : (p.toList.map fun i => vs.getD i V.non).length = its.length := by rw [List.length_map, Array.length_toList]; exact hs
 refine ⟨.ref (s.heap.objs.size + 1), _, I.laid (t' := s.toks) (o := .lst (p.toList.map fun i => vs.getD i V.non)) (fun b o eo => sortedAll_old eo) (Nat.le_succ _) ?_, rfl, ?_⟩
 ·exact ⟨by rw [z, <- hlen]; exact hz, _, c, b1C r' p.toList (fun i hi => by rw [hlen]; exact mem i hi), hc⟩
 ·refine q p.toList _ _ ?_ ?_ (New.mk0 (I.hok.fresh (Nat.le_succ _)))
  ·have := Array.perm_iff_toList_perm.mp pm.perm
   rw [hlen]; exact this
  ·rw [List.pairwise_iff_getElem]
   intro i j hi hj hij
   rw [List.length_map, Array.length_toList, hs] at hi hj
   have q1 := sr i j (Nat.le_of_lt hij) hj
   unfold Srt.KK at q1
   have li := pm.lt hi
   have lj := pm.lt hj
   rw [List.getElem_map, List.getElem_map]
   have e1 : p.getD i 0 = p.toList[i]'(by rw [Array.length_toList, hs]; exact hi) := by simp [Array.getD, hs, hi]
   have e2 : p.getD j 0 = p.toList[j]'(by rw [Array.length_toList, hs]; exact hj) := by simp [Array.getD, hs, hj]
   rw [<- e1, <- e2]
   intro c
   have z1 := b4B (ls := ls) (i := p.getD j 0) (j := p.getD i 0) (by omega)
   rw [decide_eq_true c] at z1
   have := of_decide_eq_true z1
   omega
end
end L2
set_option maxHeartbeats 4100000
namespace L2
open PySem PySem.Spec PyProof.Rows
section
variable {X : Cx} {K : Φρ}
end
end L2
set_option maxHeartbeats 4100000
namespace L2
open PySem PySem.Spec PyProof.Rows
theorem b4E (a b : Value) : argsOk "max" ⟨[a], [("default", b)]⟩ := by unfold argsOk; kernel_rfl
section
variable {prog : Program} {w : World} {A : Around} {R : Result -> Shared -> Prop} {I : Addr} {fp wr : List Addr} {n : Nat} {P : Nat -> Value -> Prop} {St : Nat -> Heap -> Prop} {kw : List (Str × Value)}
theorem b4F (W : Walks prog w A.in1 I fp wr n P St) (bt : Nat -> Nat -> Bool) (hcmp : CmpOf prog w A.in1 .Gt P bt) (S : Addr) (hSf : S ∉ fp) :
  ∀ (k j : Nat) (s : Shared) (vb : Value) (c : Nat), n - (j + 1) = k -> j + 1 <= n -> St (j + 1) s.heap -> P (argBest bt j) vb -> s.heap.get? S = some { cls := .type "list", dict := none, data := .seq #[vb, vb] c, slots := #[] } ->
  (∀ v h' tk, P (argBest bt (n - 1)) v -> (∀ b o, b ∉ wr -> b ≠ S -> s.heap.get? b = some o -> h'.get? b = some o) -> R (.ok (.ret v)) { s with heap := h', toks := tk }) ->
  codeAny (model prog w) A (.builtin "max.loop" ⟨[.ref I, .none, .ref S], kw⟩) R s := by
 have hSw : S ∉ wr := fun h => hSf (W.sub _ h)
 have hname : (toString "max" ++ toString ".loop" : String) = "max.loop" := by decide
 intro k
 induction k with
 | zero =>
  intro j s vb c hk hj hst hPb hS hR
  have hin : j + 1 = n := by omega
  refine codeAny_builtin PySem.F.entry_max_loop ?_
  rw [Around.under_plainId PySem.F.plain_max_loop _]
  refine wpAny_bind (wpAny_seqItems hS rfl ?_)
  show wpAny _ A.in1 (tryCatch (pyNext (.ref I)) _ >>= _) _ _ s
  refine wpAny_bind (wpAny_tryCatch (W.done s _ _ (hin ▸ hst) fun h' tk hk' => ?_))
  have hS' := hk' S _ hSw hS
  show wpAny _ A.in1 (updateSeq S (fun _ => #[]) >>= _) _ _ _
  refine wpAny_bind ?_
  refine wpAny_updateSeq hS' rfl (wpAny_bind (wpAny_letGo (wpAny_pure ?_)))
  exact hR vb _ tk (by rw [<- hin]; exact hPb) fun b o hbw hbS e => (Heap.get?_update_other _ _ (Ne.symm hbS)).trans (hk' b o hbw e)
 | succ k ih =>
  intro j s vb c hk hj hst hPb hS hR
  have hlt : j + 1 < n := by omega
  refine codeAny_builtin PySem.F.entry_max_loop ?_
  rw [Around.under_plainId PySem.F.plain_max_loop _]
  refine wpAny_bind (wpAny_seqItems hS rfl ?_)
  show wpAny _ A.in1 (tryCatch (pyNext (.ref I)) _ >>= _) _ _ s
  refine wpAny_bind (wpAny_tryCatch (W.item (j + 1) s _ _ hlt hst fun v h' tk hP hst' hk' => ?_))
  have hS' := hk' S _ hSw hS
  show wpAny _ A.in1 (tryCatch (holding [v, v] (richCompare .Gt v vb >>= _)) _ >>= _) _ _ _
  refine wpAny_bind (wpAny_tryCatch (wpAny_holding (wpAny_bind (hcmp (j + 1) (argBest bt j) v vb _ _ _ hP hPb ?_))))
  refine wpAny_bind (wpAny_holding (wpAny_truthy_bool ?_))
  refine wpAny_bind (wpAny_letGo (wpAny_pure ?_))
  cases hb : bt (j + 1) (argBest bt j) with
  | true =>
   simp only [if_true]
   refine wpAny_bind ?_
   refine wpAny_updateSeq hS' rfl (wpAny_bind (wpAny_letGo ?_))
   rw [hname]
   refine wpAny_pure ⟨plainId_quiet PySem.F.plain_max_loop _, ih (j + 1) _ v _ (by omega) hlt (W.frame _ _ _ hst' fun b hbf o e => ?_) (by simp only [argBest, hb, if_true]; exact hP) (Heap.get?_update_self _ hS' rfl) fun v' h'' tk'' hP' hk'' => ?_⟩
   ·exact (Heap.get?_update_other _ _ (fun h : S = b => hSf (by rw [h]; exact hbf))).trans e
   ·exact hR v' h'' tk'' hP' fun b o hbw hbS e => hk'' b o hbw hbS ((Heap.get?_update_other _ _ (Ne.symm hbS)).trans (hk' b o hbw e))
  | false =>
   simp only [Bool.false_eq_true, if_false]
   refine wpAny_bind (wpAny_letGo ?_)
   rw [hname]
   refine wpAny_pure ⟨plainId_quiet PySem.F.plain_max_loop _, ih (j + 1) _ vb c (by omega) hlt hst' (by simp only [argBest, hb, Bool.false_eq_true, if_false]; exact hPb) hS' fun v' h'' tk'' hP' hk'' => ?_⟩
   exact hR v' h'' tk'' hP' fun b o hbw hbS e => hk'' b o hbw hbS (hk' b o hbw e)
theorem b2J (W : Walks prog w A.in1 I fp wr n P St) (bt : Nat -> Nat -> Bool) (hcmp : CmpOf prog w A.in1 .Gt P bt) (S : Addr) (hSf : S ∉ fp) (hn : 0 < n) {s : Shared} {c : Nat} (hst : St 0 s.heap)
  (hS : s.heap.get? S = some { cls := .type "list", dict := none, data := .seq #[] c, slots := #[] })
  (hR : ∀ v h' tk, P (argBest bt (n - 1)) v -> (∀ b o, b ∉ wr -> b ≠ S -> s.heap.get? b = some o -> h'.get? b = some o) -> R (.ok (.ret v)) { s with heap := h', toks := tk }) :
  codeAny (model prog w) A (.builtin "max.loop" ⟨[.ref I, .none, .ref S], kw⟩) R s := by
 have hSw : S ∉ wr := fun h => hSf (W.sub _ h)
 have hname : (toString "max" ++ toString ".loop" : String) = "max.loop" := by decide
 refine codeAny_builtin PySem.F.entry_max_loop ?_
 rw [Around.under_plainId PySem.F.plain_max_loop _]
 refine wpAny_bind (wpAny_seqItems hS rfl ?_)
 show wpAny _ A.in1 (tryCatch (pyNext (.ref I)) _ >>= _) _ _ s
 refine wpAny_bind (wpAny_tryCatch (W.item 0 s _ _ hn hst fun v h' tk hP hst' hk' => ?_))
 have hS' := hk' S _ hSw hS
 show wpAny _ A.in1 (updateSeq S (fun _ => #[v, v]) >>= _) _ _ _
 refine wpAny_bind ?_
 refine wpAny_updateSeq hS' rfl ?_
 rw [hname]
 refine wpAny_pure ⟨plainId_quiet PySem.F.plain_max_loop _, b4F W bt hcmp S hSf _ 0 _ v _ rfl hn (W.frame _ _ _ hst' fun b hbf o e => ?_) hP (Heap.get?_update_self _ hS' rfl) fun v' h'' tk'' hP' hk'' => ?_⟩
 ·exact (Heap.get?_update_other _ _ (fun h : S = b => hSf (by rw [h]; exact hbf))).trans e
 ·exact hR v' h'' tk'' hP' fun b o hbw hbS e => hk'' b o hbw hbS ((Heap.get?_update_other _ _ (Ne.symm hbS)).trans (hk' b o hbw e))
theorem b4G (W : Walks prog w A.in1 I fp wr n P St) (n0 : n = 0) (S : Addr) (hSf : S ∉ fp) {s : Shared} {c : Nat} {nm : Str} {d : Value} (hst : St 0 s.heap)
  (hS : s.heap.get? S = some { cls := .type "list", dict := none, data := .seq #[] c, slots := #[] })
  (hR : ∀ h' tk, (∀ b o, b ∉ wr -> b ≠ S -> s.heap.get? b = some o -> h'.get? b = some o) -> R (.ok (.ret d)) { s with heap := h', toks := tk }) :
  codeAny (model prog w) A (.builtin "max.loop" ⟨[.ref I, .none, .ref S], [(nm, d)]⟩) R s := by
 subst n0
 have hSw : S ∉ wr := fun h => hSf (W.sub _ h)
 refine codeAny_builtin PySem.F.entry_max_loop ?_
 rw [Around.under_plainId PySem.F.plain_max_loop _]
 refine wpAny_bind (wpAny_seqItems hS rfl ?_)
 show wpAny _ A.in1 (tryCatch (pyNext (.ref I)) _ >>= _) _ _ s
 refine wpAny_bind (wpAny_tryCatch (W.done s _ _ hst fun h' tk hk' => ?_))
 have fin := hR h' tk fun b o hbw hbS e => hk' b o hbw e
 repeat (first | exact fin | wp_step)
end
section
variable {prog : Program} {w : World} {A : Around} {E : Value -> Shared -> Prop} {s : Shared} {xs : Array (Int × Tok)} {l : Addr}
theorem b4H {d : Value} {Q : Value -> Shared -> Prop} (hh : A.handled = none) (hl : s.heap.IsList l (intItems xs))
  (h : ∀ v h' tk, (0 < xs.size -> (intItems xs)[argBest (fun i j => decide (numAt xs i > numAt xs j)) (xs.size - 1)]? = some v) -> (xs.size = 0 -> v = d) -> (∀ b o, s.heap.get? b = some o -> h'.get? b = some o) -> Q v { s with heap := h', toks := tk }) :
  wpAny (model prog w) A (call (.builtin "max") [.ref l] [("default", d)]) Q E s := by
 have hname : (toString "max" ++ toString ".loop" : String) = "max.loop" := by decide
 refine wpAny_call (codeAny_call_builtin PySem.F.plain_max PySem.F.entry_max ?_)
 simp only [checkBuiltinCall, PySem.F.kind_max]
 have ha := b4E (.ref l) d
 have go : wpAny (model prog w) A.in1 (Builtin.«max» ⟨[.ref l], [("default", d)]⟩) (fun fin s' => match fin with
   | .done f => (match (Except.ok f : Result) with | .ok (.ret v) => Q v s' | .ok _ => False | .error e => E e s')
   | .again c' => c'.quiet = true /\ codeAny (model prog w) A c' (fun r s' => match r with | .ok (.ret v) => Q v s' | .ok _ => False | .error e => E e s') s') E s := by
  show wpAny _ A.in1 (Builtin.Builtins.bindParams "max" ["key", "default"] 0 ⟨[], [("default", d)]⟩ >>= _) _ _ s
  refine wpAny_bind (wpAny_of_eq (show Builtin.Builtins.bindParams "max" ["key", "default"] 0 ⟨[], [("default", d)]⟩ = pure [none, some d] from by kernel_rfl) ?_)
  refine wpAny_bind (wpAny_pure ?_)
  refine wpAny_bind (iter_intList hl fun s₂ e st hfp hlI => ?_)
  subst e
  refine wpAny_bind (wpAny_newObj_type ?_)
  have W := Walks.list (prog := prog) (w := w) (A := A.in1) hh s.heap.objs.size l hlI (intItems xs)
  have hSf : (s.heap.push { cls := .type "list_iterator", data := .fields #[.ref l, .int 0 0] }).objs.size ∉ [s.heap.objs.size, l] := fun hm => Nat.lt_irrefl _ (hfp _ hm)
  have esz : (intItems xs).size = xs.size := by simp [intItems]
  rw [hname]
  refine wpAny_pure ⟨plainId_quiet PySem.F.plain_max_loop _, ?_⟩
  have keep2 : ∀ {h' : Heap}, (∀ b o, b ∉ [s.heap.objs.size] -> b ≠ (s.heap.push { cls := .type "list_iterator", data := .fields #[.ref l, .int 0 0] }).objs.size ->
    ((s.heap.push { cls := .type "list_iterator", data := .fields #[.ref l, .int 0 0] }).push { cls := .type "list", data := .seq #[] }).get? b = some o -> h'.get? b = some o) -> ∀ b o, s.heap.get? b = some o -> h'.get? b = some o := fun {h'} hk =>
   old_kept (h' := h') fun b o hb e => hk b o hb (Nat.ne_of_lt (Heap.lt_size e)) (Heap.get?_push_of_some _ e)
  by_cases hz : 0 < xs.size
  ·refine b2J W _ (CmpOf.ints_gt (numAt xs) (fun _ _ => intItems_at)) _ hSf (by rw [esz]; exact hz) (W.frame _ _ _ st fun b _ o e => Heap.get?_push_of_some _ e) (Heap.get?_push_size _ rfl) fun v h' tk hP hk => ?_
   exact h v h' tk (fun _ => by rw [esz] at hP; exact hP) (fun z => by omega) (keep2 hk)
  ·have z0 : xs.size = 0 := by omega
   refine b4G W (by rw [esz]; exact z0) _ hSf (W.frame _ _ _ st fun b _ o e => Heap.get?_push_of_some _ e) (Heap.get?_push_size _ rfl) fun h' tk hk => ?_
   exact h d h' tk (fun c => absurd c hz) (fun _ => rfl) (keep2 hk)
 cases hsig : Manifest.signature? "max" with
 | none => exact wpAny_pure go
 | some sig =>
  simp only [argsOk, hsig] at ha
  have h2 : Bind.checkArgs "max" sig ⟨[.ref l], [("default", d)]⟩ = pure () := ha
  show wpAny _ A.in1 (Bind.checkArgs "max" sig ⟨[.ref l], [("default", d)]⟩) _ _ s
  rw [h2]; exact wpAny_pure go
end
section
variable {X : Cx} {K : Φρ}
def c4A (K : Φρ) (ta tk : TA) : TE := fun σ H Q => ta σ H fun vs H1 => tk σ H1 fun ws H2 => ∃ p ns d, vs = [.ref p] /\ ws = [.int d] /\ SqL K H2 p (List.map V.int ns) /\ (ns = [] -> Q (.int d) H2) /\ ∀ M, M ∈ ns -> (∀ a ∈ ns, a <= M) -> Q (.int M) H2
theorem b4I {e ed : Expr} {ta tk : TA} {p pos kpos : Pos} (eK : X.K = K) (cm : X.calm = true) (hm : X.mg "max" = none) (ha : PA X [e] ta) (hk : PK X [⟨some "default", ed, kpos⟩] tk) (hg : Gl X "max" := by rfl)
  (he : backTo pos (starEach [e] X.env) = (false, eval e X.env) :: backTo pos (starEach [] X.env) := by rfl) (hplain : (backTo pos (starEach [e] X.env)).any (·.1) = false := by rfl) :
  PE X (.Call (.Name "max" p) [e] [⟨some "default", ed, kpos⟩] pos) (c4A K ta tk) := by
 subst eK
 intro pins s σ H Q I h
 refine wpAny_Call_Name_kw (a4I I hg hm (show bootBuiltins "max" = some (.builtin "max") by decide +kernel) ?_)
 refine PyProof.Rows.callWith_kw (id := "max") (thn (ha pos pins s σ H _ I h) fun us s1 ⟨vs, H1, I1, r, q⟩ => ?_) he hplain
 refine thn (hk pos pins s1 σ H1 _ I1 q) fun ws s2 ⟨zs, H2, I2, rz, q2⟩ => ?_
 obtain ⟨pl, ns, d, rfl, rfl, hL, q0, q1⟩ := q2
 obtain ⟨u, rfl, rx⟩ := a4X r
 cases rx
 obtain ⟨u2, rfl, ry⟩ := a4X rz
 obtain ⟨td', rfl⟩ := (show ∃ t, u2 = Value.int d t from ry)
 obtain ⟨its, r', pl', hz⟩ := I2.list hL
 have hi := a3J r'
 obtain ⟨zs, ez⟩ := hi.allInts.items
 have esz : zs.size = ns.length := by
  have := congrArg Array.size ez
  rw [List.size_toArray] at this
  have e2 : (intItems zs).size = zs.size := by simp [intItems]
  have := hi.length
  omega
 have en : zs.toList.map (·.1) = ns := by
  rw [<- nums_intItems, <- ez]
  exact hi.numsOf
 refine b4H (xs := zs) (I2.ok.hd cm) (by rw [<- ez]; exact pl'.isList) fun v h' tk hv hv0 hk => ?_
 by_cases c : 0 < zs.size
 ·obtain ⟨t, rfl⟩ := intItems_at (hv c)
  obtain ⟨h1, h2⟩ := argBest_gt (numAt zs) (zs.size - 1)
  refine ⟨.int _, H2, I2.kept hk, ⟨t, rfl⟩, q1 _ ?_ fun a ha => ?_⟩
  ·rw [numAt_eq, <- en]; exact getD_mem (by rw [List.length_map, Array.length_toList]; omega)
  ·rw [<- en] at ha
   obtain ⟨j, hj, rfl⟩ := mem_getD ha
   rw [List.length_map, Array.length_toList] at hj
   rw [<- numAt_eq]; exact h2 j (by omega)
 ·have z0 : zs.size = 0 := by omega
  rw [hv0 z0]
  refine ⟨.int d, H2, I2.kept hk, ⟨_, rfl⟩, q0 ?_⟩
  exact List.eq_nil_of_length_eq_zero (by omega)
end
end L2
set_option maxHeartbeats 4100000
namespace L2
open PySem PySem.Spec PyProof.Rows
theorem b4J (a b : Value) : argsOk "min" ⟨[a], [("default", b)]⟩ := by unfold argsOk; kernel_rfl
section
variable {prog : Program} {w : World} {A : Around} {R : Result -> Shared -> Prop} {I : Addr} {fp wr : List Addr} {n : Nat} {P : Nat -> Value -> Prop} {St : Nat -> Heap -> Prop} {kw : List (Str × Value)}
theorem b4K (W : Walks prog w A.in1 I fp wr n P St) (bt : Nat -> Nat -> Bool) (hcmp : CmpOf prog w A.in1 .Lt P bt) (S : Addr) (hSf : S ∉ fp) :
  ∀ (k j : Nat) (s : Shared) (vb : Value) (c : Nat), n - (j + 1) = k -> j + 1 <= n -> St (j + 1) s.heap -> P (argBest bt j) vb -> s.heap.get? S = some { cls := .type "list", dict := none, data := .seq #[vb, vb] c, slots := #[] } ->
  (∀ v h' tk, P (argBest bt (n - 1)) v -> (∀ b o, b ∉ wr -> b ≠ S -> s.heap.get? b = some o -> h'.get? b = some o) -> R (.ok (.ret v)) { s with heap := h', toks := tk }) ->
  codeAny (model prog w) A (.builtin "min.loop" ⟨[.ref I, .none, .ref S], kw⟩) R s := by
 have hSw : S ∉ wr := fun h => hSf (W.sub _ h)
 have hname : (toString "min" ++ toString ".loop" : String) = "min.loop" := by decide
 intro k
 induction k with
 | zero =>
  intro j s vb c hk hj hst hPb hS hR
  have hin : j + 1 = n := by omega
  refine codeAny_builtin PySem.F.entry_min_loop ?_
  rw [Around.under_plainId PySem.F.plain_min_loop _]
  refine wpAny_bind (wpAny_seqItems hS rfl ?_)
  show wpAny _ A.in1 (tryCatch (pyNext (.ref I)) _ >>= _) _ _ s
  refine wpAny_bind (wpAny_tryCatch (W.done s _ _ (hin ▸ hst) fun h' tk hk' => ?_))
  have hS' := hk' S _ hSw hS
  show wpAny _ A.in1 (updateSeq S (fun _ => #[]) >>= _) _ _ _
  refine wpAny_bind ?_
  refine wpAny_updateSeq hS' rfl (wpAny_bind (wpAny_letGo (wpAny_pure ?_)))
  exact hR vb _ tk (by rw [<- hin]; exact hPb) fun b o hbw hbS e => (Heap.get?_update_other _ _ (Ne.symm hbS)).trans (hk' b o hbw e)
 | succ k ih =>
  intro j s vb c hk hj hst hPb hS hR
  have hlt : j + 1 < n := by omega
  refine codeAny_builtin PySem.F.entry_min_loop ?_
  rw [Around.under_plainId PySem.F.plain_min_loop _]
  refine wpAny_bind (wpAny_seqItems hS rfl ?_)
  show wpAny _ A.in1 (tryCatch (pyNext (.ref I)) _ >>= _) _ _ s
  refine wpAny_bind (wpAny_tryCatch (W.item (j + 1) s _ _ hlt hst fun v h' tk hP hst' hk' => ?_))
  have hS' := hk' S _ hSw hS
  show wpAny _ A.in1 (tryCatch (holding [v, v] (richCompare .Lt v vb >>= _)) _ >>= _) _ _ _
  refine wpAny_bind (wpAny_tryCatch (wpAny_holding (wpAny_bind (hcmp (j + 1) (argBest bt j) v vb _ _ _ hP hPb ?_))))
  refine wpAny_bind (wpAny_holding (wpAny_truthy_bool ?_))
  refine wpAny_bind (wpAny_letGo (wpAny_pure ?_))
  cases hb : bt (j + 1) (argBest bt j) with
  | true =>
   simp only [if_true]
   refine wpAny_bind ?_
   refine wpAny_updateSeq hS' rfl (wpAny_bind (wpAny_letGo ?_))
   rw [hname]
   refine wpAny_pure ⟨plainId_quiet PySem.F.plain_min_loop _, ih (j + 1) _ v _ (by omega) hlt (W.frame _ _ _ hst' fun b hbf o e => ?_) (by simp only [argBest, hb, if_true]; exact hP) (Heap.get?_update_self _ hS' rfl) fun v' h'' tk'' hP' hk'' => ?_⟩
   ·exact (Heap.get?_update_other _ _ (fun h : S = b => hSf (by rw [h]; exact hbf))).trans e
   ·exact hR v' h'' tk'' hP' fun b o hbw hbS e => hk'' b o hbw hbS ((Heap.get?_update_other _ _ (Ne.symm hbS)).trans (hk' b o hbw e))
  | false =>
   simp only [Bool.false_eq_true, if_false]
   refine wpAny_bind (wpAny_letGo ?_)
   rw [hname]
   refine wpAny_pure ⟨plainId_quiet PySem.F.plain_min_loop _, ih (j + 1) _ vb c (by omega) hlt hst' (by simp only [argBest, hb, Bool.false_eq_true, if_false]; exact hPb) hS' fun v' h'' tk'' hP' hk'' => ?_⟩
   exact hR v' h'' tk'' hP' fun b o hbw hbS e => hk'' b o hbw hbS (hk' b o hbw e)
theorem b2K (W : Walks prog w A.in1 I fp wr n P St) (bt : Nat -> Nat -> Bool) (hcmp : CmpOf prog w A.in1 .Lt P bt) (S : Addr) (hSf : S ∉ fp) (hn : 0 < n) {s : Shared} {c : Nat} (hst : St 0 s.heap)
  (hS : s.heap.get? S = some { cls := .type "list", dict := none, data := .seq #[] c, slots := #[] })
  (hR : ∀ v h' tk, P (argBest bt (n - 1)) v -> (∀ b o, b ∉ wr -> b ≠ S -> s.heap.get? b = some o -> h'.get? b = some o) -> R (.ok (.ret v)) { s with heap := h', toks := tk }) :
  codeAny (model prog w) A (.builtin "min.loop" ⟨[.ref I, .none, .ref S], kw⟩) R s := by
 have hSw : S ∉ wr := fun h => hSf (W.sub _ h)
 have hname : (toString "min" ++ toString ".loop" : String) = "min.loop" := by decide
 refine codeAny_builtin PySem.F.entry_min_loop ?_
 rw [Around.under_plainId PySem.F.plain_min_loop _]
 refine wpAny_bind (wpAny_seqItems hS rfl ?_)
 show wpAny _ A.in1 (tryCatch (pyNext (.ref I)) _ >>= _) _ _ s
 refine wpAny_bind (wpAny_tryCatch (W.item 0 s _ _ hn hst fun v h' tk hP hst' hk' => ?_))
 have hS' := hk' S _ hSw hS
 show wpAny _ A.in1 (updateSeq S (fun _ => #[v, v]) >>= _) _ _ _
 refine wpAny_bind ?_
 refine wpAny_updateSeq hS' rfl ?_
 rw [hname]
 refine wpAny_pure ⟨plainId_quiet PySem.F.plain_min_loop _, b4K W bt hcmp S hSf _ 0 _ v _ rfl hn (W.frame _ _ _ hst' fun b hbf o e => ?_) hP (Heap.get?_update_self _ hS' rfl) fun v' h'' tk'' hP' hk'' => ?_⟩
 ·exact (Heap.get?_update_other _ _ (fun h : S = b => hSf (by rw [h]; exact hbf))).trans e
 ·exact hR v' h'' tk'' hP' fun b o hbw hbS e => hk'' b o hbw hbS ((Heap.get?_update_other _ _ (Ne.symm hbS)).trans (hk' b o hbw e))
theorem b4L (W : Walks prog w A.in1 I fp wr n P St) (n0 : n = 0) (S : Addr) (hSf : S ∉ fp) {s : Shared} {c : Nat} {nm : Str} {d : Value} (hst : St 0 s.heap)
  (hS : s.heap.get? S = some { cls := .type "list", dict := none, data := .seq #[] c, slots := #[] })
  (hR : ∀ h' tk, (∀ b o, b ∉ wr -> b ≠ S -> s.heap.get? b = some o -> h'.get? b = some o) -> R (.ok (.ret d)) { s with heap := h', toks := tk }) :
  codeAny (model prog w) A (.builtin "min.loop" ⟨[.ref I, .none, .ref S], [(nm, d)]⟩) R s := by
 subst n0
 have hSw : S ∉ wr := fun h => hSf (W.sub _ h)
 refine codeAny_builtin PySem.F.entry_min_loop ?_
 rw [Around.under_plainId PySem.F.plain_min_loop _]
 refine wpAny_bind (wpAny_seqItems hS rfl ?_)
 show wpAny _ A.in1 (tryCatch (pyNext (.ref I)) _ >>= _) _ _ s
 refine wpAny_bind (wpAny_tryCatch (W.done s _ _ hst fun h' tk hk' => ?_))
 have fin := hR h' tk fun b o hbw hbS e => hk' b o hbw e
 repeat (first | exact fin | wp_step)
end
section
variable {prog : Program} {w : World} {A : Around} {E : Value -> Shared -> Prop} {s : Shared} {xs : Array (Int × Tok)} {l : Addr}
theorem b4M {d : Value} {Q : Value -> Shared -> Prop} (hh : A.handled = none) (hl : s.heap.IsList l (intItems xs))
  (h : ∀ v h' tk, (0 < xs.size -> (intItems xs)[argBest (fun i j => decide (numAt xs i < numAt xs j)) (xs.size - 1)]? = some v) -> (xs.size = 0 -> v = d) -> (∀ b o, s.heap.get? b = some o -> h'.get? b = some o) -> Q v { s with heap := h', toks := tk }) :
  wpAny (model prog w) A (call (.builtin "min") [.ref l] [("default", d)]) Q E s := by
 have hname : (toString "min" ++ toString ".loop" : String) = "min.loop" := by decide
 refine wpAny_call (codeAny_call_builtin PySem.F.plain_min PySem.F.entry_min ?_)
 simp only [checkBuiltinCall, PySem.F.kind_min]
 have ha := b4J (.ref l) d
 have go : wpAny (model prog w) A.in1 (Builtin.«min» ⟨[.ref l], [("default", d)]⟩) (fun fin s' => match fin with
   | .done f => (match (Except.ok f : Result) with | .ok (.ret v) => Q v s' | .ok _ => False | .error e => E e s')
   | .again c' => c'.quiet = true /\ codeAny (model prog w) A c' (fun r s' => match r with | .ok (.ret v) => Q v s' | .ok _ => False | .error e => E e s') s') E s := by
  show wpAny _ A.in1 (Builtin.Builtins.bindParams "min" ["key", "default"] 0 ⟨[], [("default", d)]⟩ >>= _) _ _ s
  refine wpAny_bind (wpAny_of_eq (show Builtin.Builtins.bindParams "min" ["key", "default"] 0 ⟨[], [("default", d)]⟩ = pure [none, some d] from by kernel_rfl) ?_)
  refine wpAny_bind (wpAny_pure ?_)
  refine wpAny_bind (iter_intList hl fun s₂ e st hfp hlI => ?_)
  subst e
  refine wpAny_bind (wpAny_newObj_type ?_)
  have W := Walks.list (prog := prog) (w := w) (A := A.in1) hh s.heap.objs.size l hlI (intItems xs)
  have hSf : (s.heap.push { cls := .type "list_iterator", data := .fields #[.ref l, .int 0 0] }).objs.size ∉ [s.heap.objs.size, l] := fun hm => Nat.lt_irrefl _ (hfp _ hm)
  have esz : (intItems xs).size = xs.size := by simp [intItems]
  rw [hname]
  refine wpAny_pure ⟨plainId_quiet PySem.F.plain_min_loop _, ?_⟩
  have keep2 : ∀ {h' : Heap}, (∀ b o, b ∉ [s.heap.objs.size] -> b ≠ (s.heap.push { cls := .type "list_iterator", data := .fields #[.ref l, .int 0 0] }).objs.size ->
    ((s.heap.push { cls := .type "list_iterator", data := .fields #[.ref l, .int 0 0] }).push { cls := .type "list", data := .seq #[] }).get? b = some o -> h'.get? b = some o) -> ∀ b o, s.heap.get? b = some o -> h'.get? b = some o := fun {h'} hk =>
   old_kept (h' := h') fun b o hb e => hk b o hb (Nat.ne_of_lt (Heap.lt_size e)) (Heap.get?_push_of_some _ e)
  by_cases hz : 0 < xs.size
  ·refine b2K W _ (CmpOf.ints_lt (numAt xs) (fun _ _ => intItems_at)) _ hSf (by rw [esz]; exact hz) (W.frame _ _ _ st fun b _ o e => Heap.get?_push_of_some _ e) (Heap.get?_push_size _ rfl) fun v h' tk hP hk => ?_
   exact h v h' tk (fun _ => by rw [esz] at hP; exact hP) (fun z => by omega) (keep2 hk)
  ·have z0 : xs.size = 0 := by omega
   refine b4L W (by rw [esz]; exact z0) _ hSf (W.frame _ _ _ st fun b _ o e => Heap.get?_push_of_some _ e) (Heap.get?_push_size _ rfl) fun h' tk hk => ?_
   exact h d h' tk (fun c => absurd c hz) (fun _ => rfl) (keep2 hk)
 cases hsig : Manifest.signature? "min" with
 | none => exact wpAny_pure go
 | some sig =>
  simp only [argsOk, hsig] at ha
  have h2 : Bind.checkArgs "min" sig ⟨[.ref l], [("default", d)]⟩ = pure () := ha
  show wpAny _ A.in1 (Bind.checkArgs "min" sig ⟨[.ref l], [("default", d)]⟩) _ _ s
  rw [h2]; exact wpAny_pure go
end
section
variable {X : Cx} {K : Φρ}
def c4B (K : Φρ) (ta tk : TA) : TE := fun σ H Q => ta σ H fun vs H1 => tk σ H1 fun ws H2 => ∃ p ns d, vs = [.ref p] /\ ws = [.int d] /\ SqL K H2 p (List.map V.int ns) /\ (ns = [] -> Q (.int d) H2) /\ ∀ M, M ∈ ns -> (∀ a ∈ ns, M <= a) -> Q (.int M) H2
theorem b9J {e ed : Expr} {ta tk : TA} {p pos kpos : Pos} (eK : X.K = K) (cm : X.calm = true) (hm : X.mg "min" = none) (ha : PA X [e] ta) (hk : PK X [⟨some "default", ed, kpos⟩] tk) (hg : Gl X "min" := by rfl)
  (he : backTo pos (starEach [e] X.env) = (false, eval e X.env) :: backTo pos (starEach [] X.env) := by rfl) (hplain : (backTo pos (starEach [e] X.env)).any (·.1) = false := by rfl) :
  PE X (.Call (.Name "min" p) [e] [⟨some "default", ed, kpos⟩] pos) (c4B K ta tk) := by
 subst eK
 intro pins s σ H Q I h
 refine wpAny_Call_Name_kw (a4I I hg hm (show bootBuiltins "min" = some (.builtin "min") by decide +kernel) ?_)
 refine PyProof.Rows.callWith_kw (id := "min") (thn (ha pos pins s σ H _ I h) fun us s1 ⟨vs, H1, I1, r, q⟩ => ?_) he hplain
 refine thn (hk pos pins s1 σ H1 _ I1 q) fun ws s2 ⟨zs, H2, I2, rz, q2⟩ => ?_
 obtain ⟨pl, ns, d, rfl, rfl, hL, q0, q1⟩ := q2
 obtain ⟨u, rfl, rx⟩ := a4X r
 cases rx
 obtain ⟨u2, rfl, ry⟩ := a4X rz
 obtain ⟨td', rfl⟩ := (show ∃ t, u2 = Value.int d t from ry)
 obtain ⟨its, r', pl', hz⟩ := I2.list hL
 have hi := a3J r'
 obtain ⟨zs, ez⟩ := hi.allInts.items
 have esz : zs.size = ns.length := by
  have := congrArg Array.size ez
  rw [List.size_toArray] at this
  have e2 : (intItems zs).size = zs.size := by simp [intItems]
  have := hi.length
  omega
 have en : zs.toList.map (·.1) = ns := by
  rw [<- nums_intItems, <- ez]
  exact hi.numsOf
 refine b4M (xs := zs) (I2.ok.hd cm) (by rw [<- ez]; exact pl'.isList) fun v h' tk hv hv0 hk => ?_
 by_cases c : 0 < zs.size
 ·obtain ⟨t, rfl⟩ := intItems_at (hv c)
  obtain ⟨h1, h2⟩ := argBest_lt (numAt zs) (zs.size - 1)
  refine ⟨.int _, H2, I2.kept hk, ⟨t, rfl⟩, q1 _ ?_ fun a ha => ?_⟩
  ·rw [numAt_eq, <- en]; exact getD_mem (by rw [List.length_map, Array.length_toList]; omega)
  ·rw [<- en] at ha
   obtain ⟨j, hj, rfl⟩ := mem_getD ha
   rw [List.length_map, Array.length_toList] at hj
   rw [<- numAt_eq]; exact h2 j (by omega)
 ·have z0 : zs.size = 0 := by omega
  rw [hv0 z0]
  refine ⟨.int d, H2, I2.kept hk, ⟨_, rfl⟩, q0 ?_⟩
  exact List.eq_nil_of_length_eq_zero (by omega)
end
end L2
namespace L2
open PySem PySem.Spec PySem.Calls PyProof.Rows
section
variable {X : Cx}
def c4C : V -> List V -> Hp -> VK -> Prop := fun x vs H Q => ∃ (l : Addr) (ns : List Int) (v : Int) (j : Nat), x = .ref l /\ vs = [.int v] /\ H l = some (.lst (List.map V.int ns)) /\ ns[j]? = some v /\ (∀ m : Nat, m < j -> ns[m]? ≠ some v) /\ ns.length <= 1000 /\ Q (.int (j : Int)) H
def isV (v : Int) : Value -> Bool
 | .int a _ => a == v
 | _ => false
theorem b4N : MtM X "list.index" c4C := by
 intro pins s σ H x vs w us Q I rx rv h
 obtain ⟨l, ns, v, j, rfl, rfl, hH, hj, hno, hz, q⟩ := h
 cases rx
 obtain ⟨u, rfl, ru⟩ := a4X rv
 obtain ⟨t, rfl⟩ := (show ∃ t, u = Value.int v t from ru)
 obtain ⟨z, its, n, r, hl, e⟩ := I.lstM hH
 have hi := a3J r
 have len := hi.length
 have at_ : ∀ m (hm : m < its.length), ∃ k tk, its[m] = Value.int k tk /\ ns[m]? = some k := fun m hm => by
  have hm2 : m < ns.length := by omega
  obtain ⟨tk, e⟩ := hi.get m ns[m] (List.getElem?_eq_getElem hm2)
  rw [List.getElem?_eq_getElem hm] at e
  injection e with e
  exact ⟨ns[m], tk, e, List.getElem?_eq_getElem hm2⟩
 have jl : j < its.length := by have := (List.getElem?_eq_some_iff.mp hj).1; omega
 refine call_meets F.slot_list_index ⟨_, e, rfl⟩ F.entry_list_index (F.args_list_index_2 _ _) (MeetsSeq.list_index l its.toArray n (.int v t) (isV v) (fun y hy => ?_) j (by simpa using jl) (by omega) ?_ fun m hm hmj => ?_) ⟨e, ?_⟩
 ·obtain ⟨m, hm, em⟩ := List.getElem_of_mem (show y ∈ its by simpa using hy)
  obtain ⟨k, tk, e1, _⟩ := at_ m hm
  rw [<- em, e1]
  exact MeetsSeq.EqGives.int k v tk t
 ·obtain ⟨k, tk, e1, e2⟩ := at_ j jl
  rw [hj] at e2
  injection e2 with e2
  simp only [List.getElem_toArray]
  rw [e1, <- e2]
  exact beq_self_eq_true v
 ·have hm' : m < its.length := by simpa using hm
  obtain ⟨k, tk, e1, e2⟩ := at_ m hm'
  simp only [List.getElem_toArray]
  rw [e1]
  show (k == v) = false
  have : k ≠ v := fun z => hno m hmj (by rw [e2, z])
  simpa using this
 ·exact ⟨.int j, H, I.tok _, ⟨_, rfl⟩, q⟩
end
end L2
namespace L2
open PySem PySem.Spec PyProof.Rows
section
variable {X : Cx}
def c4D : V -> List V -> Hp -> VK -> Prop := fun x vs H Q => ∃ m : Nat, x = .int (m : Int) /\ vs = [] /\ Q (.int ((Builtin.Int.intBits (m : Int) : Nat) : Int)) H
theorem b9K : MtR X "int.bit_length" c4D := by
 intro pins s σ H x xs v us Q I rx rs h
 obtain ⟨m, rfl, rfl, q⟩ := h
 obtain ⟨t, rfl⟩ := (show ∃ t, v = Value.int (m : Int) t from rx)
 cases rs
 exact call_int_bit_length ⟨.int _, H, I.tok _, ⟨_, rfl⟩, q⟩
end
theorem b4O (a b : Nat) : Builtin.bitAnd (a : Int) (b : Int) = ((a &&& b : Nat) : Int) := by
 unfold Builtin.bitAnd
 simp
theorem b4P (a b : Nat) : Builtin.bitOr (a : Int) (b : Int) = ((a ||| b : Nat) : Int) := by
 unfold Builtin.bitOr Builtin.bitAnd Builtin.bitNot
 rw [decide_eq_false (show ¬ (0 : Int) <= -(a : Int) - 1 by omega), decide_eq_false (show ¬ (0 : Int) <= -(b : Int) - 1 by omega)]
 dsimp only
 rw [show (-(-(a : Int) - 1) - 1).toNat = a by omega, show (-(-(b : Int) - 1) - 1).toNat = b by omega]
 omega
theorem b4Q {m k : Nat} (h : m < 2 ^ k) : Builtin.Int.intBits (m : Int) <= k := by
 unfold Builtin.Int.intBits
 split
 ·exact Nat.zero_le _
 ·rename_i c
  have hm : m ≠ 0 := fun z => c (by rw [z]; rfl)
  rw [Int.natAbs_natCast]
  exact (Nat.log2_lt hm).mpr h
theorem b4R {m v : Nat} (h : m.testBit v = true) : v < Builtin.Int.intBits (m : Int) := by
 unfold Builtin.Int.intBits
 have hm : m ≠ 0 := fun z => by rw [z] at h; simp at h
 have hc : ¬ (((m : Int) == 0) = true) := by simpa using hm
 rw [if_neg hc, Int.natAbs_natCast]
 have := Nat.ge_two_pow_of_testBit h
 exact Nat.lt_succ_of_le ((Nat.le_log2 hm).mpr this)
def a1U (m : Nat) : List Nat := (List.range 10).filter (m.testBit ·)
theorem b0A {m : Nat} (h : m < 2 ^ 10) : (List.range (Builtin.Int.intBits (m : Int))).filter (m.testBit ·) = a1U m := by
 unfold a1U
 have hk := b4Q h
 obtain ⟨d, ed⟩ : ∃ d, 10 = Builtin.Int.intBits (m : Int) + d := ⟨10 - Builtin.Int.intBits (m : Int), by omega⟩
 rw [ed, List.range_add, List.filter_append]
 have : ((List.range d).map (fun x => Builtin.Int.intBits (m : Int) + x)).filter (m.testBit ·) = [] := by
  rw [List.filter_eq_nil_iff]
  intro x hx hb
  obtain ⟨y, _, rfl⟩ := List.mem_map.mp hx
  have := b4R hb
  omega
 rw [this, List.append_nil]
theorem a7J (m v : Nat) : (m &&& 2 ^ v = 0) ↔ m.testBit v = false := by
 constructor
 ·intro h
  have : (m &&& 2 ^ v).testBit v = false := by rw [h]; simp
  rw [Nat.testBit_and, Nat.testBit_two_pow_self, Bool.and_true] at this
  exact this
 ·intro h
  refine Nat.eq_of_testBit_eq fun i => ?_
  rw [Nat.testBit_and, Nat.zero_testBit, Nat.testBit_two_pow]
  by_cases c : v = i
  ·subst c; rw [h]; rfl
  ·rw [decide_eq_false c, Bool.and_false]
theorem b9L {m v : Nat} (h : m.testBit v = true) : ∀ u, (m - 2 ^ v).testBit u = (m.testBit u && !decide (u = v)) := by
 induction v generalizing m with
 | zero =>
  intro u
  have h1 : m % 2 = 1 := by rw [Nat.testBit_zero] at h; exact of_decide_eq_true h
  cases u with
  | zero =>
   rw [Nat.testBit_zero, Nat.testBit_zero]
   have : (m - 2 ^ 0) % 2 = 0 := by omega
   rw [this]; simp
  | succ u =>
   rw [Nat.testBit_succ, Nat.testBit_succ]
   have : (m - 2 ^ 0) / 2 = m / 2 := by omega
   rw [this]; simp
 | succ v ih =>
  intro u
  rw [Nat.testBit_succ] at h
  have le : 2 ^ v <= m / 2 := Nat.ge_two_pow_of_testBit h
  have e2 : 2 ^ (v + 1) = 2 * 2 ^ v := by rw [Nat.pow_succ, Nat.mul_comm]
  cases u with
  | zero =>
   rw [Nat.testBit_zero, Nat.testBit_zero]
   have : (m - 2 ^ (v + 1)) % 2 = m % 2 := by omega
   rw [this]; simp
  | succ u =>
   rw [Nat.testBit_succ, Nat.testBit_succ]
   have : (m - 2 ^ (v + 1)) / 2 = m / 2 - 2 ^ v := by omega
   rw [this, ih h u]
   simp
structure BagsM (n : Nat) (ms : List Nat) (R : Nat -> Nat -> Bool) : Prop where
 len : ms.length = n
 n10 : n <= 10
 lt : ∀ m ∈ ms, m < 2 ^ 10
 bit : ∀ v < n, ∀ u, (ms.getD v 0).testBit u = R v u
 far : ∀ v u, R v u = true -> v < n /\ u < n
theorem BagsM.get {n : Nat} {ms : List Nat} {R : Nat -> Nat -> Bool} (b : BagsM n ms R) {v : Nat} (h : v < n) : ms[v]? = some (ms.getD v 0) := by
 have : v < ms.length := by rw [b.len]; exact h
 rw [τα, List.getElem?_eq_getElem this]; rfl
theorem BagsM.mlt {n : Nat} {ms : List Nat} {R : Nat -> Nat -> Bool} (b : BagsM n ms R) {v : Nat} (h : v < n) : ms.getD v 0 < 2 ^ 10 := b.lt _ (List.mem_of_getElem? (b.get h))
theorem a6T {m k : Nat} (h : ∀ u, m.testBit u = true -> u < k) : m < 2 ^ k := Nat.lt_pow_two_of_testBit m fun i hi => by
 cases e : m.testBit i with
 | false => rfl
 | true => have := h i e; omega
def a7K (v : Nat) (R : Nat -> Nat -> Bool) : Nat -> Nat -> Bool := fun x u => if x = v then false else if R x v = true then (R x u || R v u) && !decide (u = v) else R x u
def a7L (v : Nat) (ms : List Nat) : List Nat := (ms.map fun m => if m &&& 2 ^ v = 0 then m else (m ||| ms.getD v 0) - 2 ^ v).set v 0
theorem b4S {n : Nat} {ms : List Nat} {R : Nat -> Nat -> Bool} {v : Nat} (b : BagsM n ms R) (hv : v < n) : BagsM n (a7L v ms) (a7K v R) := by
 have far : ∀ x u, a7K v R x u = true -> x < n /\ u < n := fun x u h => by
  unfold a7K at h
  split at h
  ·cases h
  ·split at h
   ·rename_i c
    rw [Bool.and_eq_true, Bool.or_eq_true] at h
    rcases h.1 with z | z
    ·exact b.far _ _ z
    ·exact ⟨(b.far _ _ c).1, (b.far _ _ z).2⟩
   ·exact b.far _ _ h
 have bit : ∀ x < n, ∀ u, ((a7L v ms).getD x 0).testBit u = a7K v R x u := fun x hx u => by
  unfold a7L a7K
  by_cases c : x = v
  ·subst c
   rw [if_pos rfl, τα, List.getElem?_set_self (by rw [List.length_map, b.len]; exact hx)]
   simp
  ·rw [if_neg c, τα, List.getElem?_set_ne (Ne.symm c), List.getElem?_map, b.get hx]
   simp only [Option.map_some, Option.getD_some]
   have ab := a7J (ms.getD x 0) v
   rw [b.bit x hx] at ab
   by_cases d : R x v = true
   ·rw [if_pos d, if_neg (fun z => by rw [ab.mp z] at d; cases d)]
    have ht : (ms.getD x 0 ||| ms.getD v 0).testBit v = true := by rw [Nat.testBit_or, b.bit x hx, d]; rfl
    rw [b9L ht, Nat.testBit_or, b.bit x hx, b.bit v hv]
   ·rw [if_neg d, if_pos (ab.mpr (by simpa using d)), b.bit x hx]
 refine ⟨by unfold a7L; rw [List.length_set, List.length_map]; exact b.len, b.n10, fun m hm => ?_, bit, far⟩
 obtain ⟨j, hj, ej⟩ := List.getElem_of_mem hm
 have jn : j < n := by
  unfold a7L at hj
  rw [List.length_set, List.length_map, b.len] at hj
  exact hj
 have e : (a7L v ms).getD j 0 = m := by rw [τα, List.getElem?_eq_getElem hj, ej]; rfl
 refine a6T fun u hu => ?_
 rw [<- e, bit j jn] at hu
 have := far j u hu
 have := b.n10
 omega
theorem a5P {n : Nat} {ms : List Nat} {R : Nat -> Nat -> Bool} {v : Nat} (b : BagsM n ms R) (hv : v < n) : a1U (ms.getD v 0) = (List.range n).filter (R v ·) := by
 unfold a1U
 have hn := b.n10
 obtain ⟨d, ed⟩ : ∃ d, 10 = n + d := ⟨10 - n, by omega⟩
 rw [ed, List.range_add, List.filter_append]
 have e1 : ((List.range d).map (fun x => n + x)).filter ((ms.getD v 0).testBit ·) = [] := by
  rw [List.filter_eq_nil_iff]
  intro x hx hb
  obtain ⟨y, _, rfl⟩ := List.mem_map.mp hx
  rw [b.bit v hv] at hb
  have := (b.far _ _ hb).2
  omega
 rw [e1, List.append_nil]
 exact List.filter_congr fun u _ => b.bit v hv u
def a3N (n : Nat) (ts : List ζζ) : Nat -> Nat -> Bool := fun v u => decide (v < n /\ u < n) && (decide (u = v) || decide (((v : Int), (u : Int)) ∈ ts) || decide (((u : Int), (v : Int)) ∈ ts))
end L2
namespace L2
open PySem PySem.Spec PyProof.Rows
end L2
set_option maxHeartbeats 1000000
namespace Sm
open PySem
def b4T (xs : Array Nat) (j k : Nat) : Prop := k <= xs.size /\ ∀ i (h : i < xs.size), xs[i] < j ↔ i < k
theorem b6Q {xs : Array Nat} (h : xs.toList.Pairwise (· < ·)) {i k : Nat} (hi : i < xs.size) (hk : k < xs.size) (ik : i < k) : xs[i] < xs[k] := by
 have := List.pairwise_iff_getElem.mp h i k (by simpa using hi) (by simpa using hk) ik
 simpa using this
theorem c4E {xs : Array Nat} {j : Nat} (h : xs.toList.Pairwise (· < ·)) : ∀ (fuel lo hi : Nat), hi - lo <= fuel -> lo <= hi -> hi <= xs.size ->
  (∀ i (z : i < xs.size), i < lo -> xs[i] < j) -> (∀ i (z : i < xs.size), hi <= i -> j <= xs[i]) -> b4T xs j (SetTable.below.go xs j fuel lo hi) := by
 intro fuel
 induction fuel with
 | zero =>
  intro lo hi a b c d e
  unfold SetTable.below.go
  have : lo = hi := by omega
  subst this
  exact ⟨c, fun i z => ⟨fun q => by
   rcases Nat.lt_or_ge i lo with g | g
   ·exact g
   ·have := e i z g
    omega, fun q => d i z q⟩⟩
 | succ f ih =>
  intro lo hi a b c d e
  unfold SetTable.below.go
  by_cases q : lo < hi
  ·rw [if_pos q]
   dsimp only
   have m1 : lo <= (lo + hi) / 2 := by omega
   have m2 : (lo + hi) / 2 < hi := by omega
   have m3 : (lo + hi) / 2 < xs.size := by omega
   have ge : xs.getD ((lo + hi) / 2) j = xs[(lo + hi) / 2] := by simp [Array.getD, m3]
   rw [ge]
   by_cases r : xs[(lo + hi) / 2] < j
   ·rw [if_pos r]
    refine ih _ _ (by omega) (by omega) c (fun i z hi' => ?_) e
    rcases Nat.lt_or_ge i ((lo + hi) / 2) with g | g
    ·have := b6Q h z m3 g
     omega
    ·have : i = (lo + hi) / 2 := by omega
     subst this
     exact r
   ·rw [if_neg r]
    refine ih _ _ (by omega) (by omega) (by omega) d (fun i z hi' => ?_)
    rcases Nat.lt_or_ge ((lo + hi) / 2) i with g | g
    ·have := b6Q h m3 z g
     omega
    ·have : i = (lo + hi) / 2 := by omega
     subst this
     omega
  ·rw [if_neg q]
   have : lo = hi := by omega
   subst this
   exact ⟨c, fun i z => ⟨fun q => by
    rcases Nat.lt_or_ge i lo with g | g
    ·exact g
    ·have := e i z g
     omega, fun q => d i z q⟩⟩
theorem a5E {xs : Array Nat} (h : xs.toList.Pairwise (· < ·)) (j : Nat) : b4T xs j (SetTable.below xs j) :=
 c4E h _ _ _ (by omega) (Nat.zero_le _) (Nat.le_refl _) (fun i z q => absurd q (Nat.not_lt_zero _)) (fun i z q => absurd z (by omega))
theorem b6R {xs : Array Nat} (h : xs.toList.Pairwise (· < ·)) {k : Nat} (hk : k < xs.size) : SetTable.below xs (xs[k]) = k := by
 obtain ⟨a, b⟩ := a5E h xs[k]
 rcases Nat.lt_trichotomy (SetTable.below xs xs[k]) k with g | g | g
 ·have c := (b (SetTable.below xs xs[k]) (by omega)).mp (b6Q h (by omega) hk g)
  omega
 ·exact g
 ·have c := (b k hk).mpr g
  omega
theorem b2L {xs : Array Nat} (h : xs.toList.Pairwise (· < ·)) : SetTable.below xs 0 = 0 := by
 obtain ⟨a, b⟩ := a5E h 0
 rcases Nat.eq_zero_or_pos (SetTable.below xs 0) with g | g
 ·exact g
 ·have := (b 0 (by omega)).mpr g
  omega
theorem b2M {xs : Array Nat} (h : xs.toList.Pairwise (· < ·)) {k : Nat} (hk : k < xs.size) : SetTable.below xs (xs[k] + 1) = k + 1 := by
 obtain ⟨a, b⟩ := a5E h (xs[k] + 1)
 have c := (b k hk).mp (by omega)
 rcases Nat.lt_or_ge (k + 1) (SetTable.below xs (xs[k] + 1)) with g | g
 ·have e := (b (k + 1) (by omega)).mpr g
  have := b6Q h hk (show k + 1 < xs.size by omega) (Nat.lt_succ_self _)
  omega
 ·omega
theorem b4U (j : Nat) : SetTable.has #[] j = false := by
 unfold SetTable.has
 simp
theorem a4F {t : SetTable} (dm : t.dummies = #[]) {j : Nat} (h : j ∉ t.place.toList) : t.slot j = .empty := by
 unfold SetTable.slot
 have e : (t.place[SetTable.below t.place j]? == some j) = false := by
  rw [beq_eq_false_iff_ne]
  intro c
  exact h (by simpa using Array.mem_of_getElem? c)
 dsimp only
 rw [e, dm, b4U]
 rfl
theorem b4V {t : SetTable} (up : t.place.toList.Pairwise (· < ·)) {j : Nat} (h : j ∈ t.place.toList) : ∃ i, t.slot j = .live i := by
 obtain ⟨k, hk, e⟩ := List.getElem_of_mem h
 have hk' : k < t.place.size := by simpa using hk
 have e' : t.place[k] = j := by simpa using e
 unfold SetTable.slot
 have q : SetTable.below t.place j = k := by rw [<- e']; exact b6R up hk'
 dsimp only
 rw [q]
 have : (t.place[k]? == some j) = true := by simp [hk', e']
 rw [this]
 exact ⟨k, rfl⟩
def adv (mask : Nat) (p : SetTable.Probe) : SetTable.Probe :=
 if 0 < p.more then { p with more := p.more - 1, j := p.j + 1 } else
 { p with j := (SetTable.leap mask p.i p.perturb).1, more := SetTable.runEnd mask (SetTable.leap mask p.i p.perturb).1 - (SetTable.leap mask p.i p.perturb).1, i := (SetTable.leap mask p.i p.perturb).1, perturb := (SetTable.leap mask p.i p.perturb).2 }
theorem c2D (t : SetTable) (p : SetTable.Probe) : t.advance p = adv t.mask p := by
 unfold SetTable.advance adv
 rfl
def nth (mask : Nat) (p : SetTable.Probe) : Nat -> SetTable.Probe
 | 0 => p
 | k + 1 => nth mask (adv mask p) k
theorem b4W (m : Nat) (p : SetTable.Probe) : (adv m p).dummy = p.dummy := by
 unfold adv
 split <;> rfl
theorem b6S {t : SetTable} (dm : t.dummies = #[]) (up : t.place.toList.Pairwise (· < ·)) (h : Int) : ∀ (k fuel : Nat) (p : SetTable.Probe), k < fuel -> p.dummy = none -> (nth t.mask p k).j ∉ t.place.toList ->
  ∃ j, j ∉ t.place.toList /\ SetTable.probe.go t (fun _ => h + 1) h fuel p = some (.empty j none) := by
 intro k
 induction k with
 | zero =>
  intro fuel p hf hd hn
  obtain ⟨f, rfl⟩ : ∃ f, fuel = f + 1 := ⟨fuel - 1, by omega⟩
  unfold SetTable.probe.go
  have hn' : p.j ∉ t.place.toList := hn
  refine ⟨p.j, hn', ?_⟩
  rw [a4F dm hn', hd]
 | succ k ih =>
  intro fuel p hf hd hn
  obtain ⟨f, rfl⟩ : ∃ f, fuel = f + 1 := ⟨fuel - 1, by omega⟩
  unfold SetTable.probe.go
  by_cases c : p.j ∈ t.place.toList
  ·obtain ⟨i, e⟩ := b4V up c
   rw [e]
   dsimp only
   have : (h + 1 == h) = false := by rw [beq_eq_false_iff_ne]; omega
   rw [this]
   rw [c2D]
   exact ih f (adv t.mask p) (by omega) (by rw [b4W]; exact hd) hn
  ·rw [a4F dm c, hd]
   exact ⟨p.j, c, rfl⟩
def b4X (v : Nat) : SetTable.Probe := { j := v % 8, more := 0, i := v % 8, perturb := v, dummy := none }
theorem c4F : ∀ v, v < 16 -> ∀ j, j < 8 -> ∃ k, k < 16 /\ (nth 7 (b4X v) k).j = j := by decide +kernel
theorem b0B {v : Nat} (h : v < 16) : SetTable.bits (v : Int) = v := by
 unfold SetTable.bits
 omega
theorem b9M {t : SetTable} (dm : t.dummies = #[]) (up : t.place.toList.Pairwise (· < ·)) {v k : Nat} (hk : k < 10 * SetTable.turns t.mask) (hn : (nth t.mask (t.probeStart (v : Int)) k).j ∉ t.place.toList) :
  ∃ j, j ∉ t.place.toList /\ t.freeSlot (v : Int) = some (j, false) := by
 obtain ⟨j, hj, e⟩ := b6S dm up (v : Int) k (10 * SetTable.turns t.mask) (t.probeStart (v : Int)) hk rfl hn
 refine ⟨j, hj, ?_⟩
 unfold SetTable.freeSlot SetTable.probe
 rw [e]
 rfl
theorem b4Y : ∀ (l m : List Nat), l.Nodup -> (∀ x ∈ l, x ∈ m) -> l.length <= m.length
 | [], _, _, _ => Nat.zero_le _
 | a :: r, m, nd, h => by
  have am : a ∈ m := h a List.mem_cons_self
  obtain ⟨n1, n2⟩ := List.nodup_cons.mp nd
  have q := b4Y r (m.erase a) n2 fun x hx => (List.mem_erase_of_ne (fun e => n1 (by rw [<- e]; exact hx))).mpr (h x (List.mem_cons_of_mem _ hx))
  rw [List.length_erase_of_mem am] at q
  have := List.length_pos_of_mem am
  rw [List.length_cons]
  omega
theorem c2E {l : List Nat} (h : l.length <= 4) : ∃ j, j < 8 /\ j ∉ l := by
 apply Classical.byContradiction
 intro c
 have q : ∀ j, j < 8 -> j ∈ l := fun j hj => Classical.byContradiction fun d => c ⟨j, hj, d⟩
 have := b4Y (List.range 8) l List.nodup_range (fun j hj => q j (List.mem_range.mp hj))
 rw [List.length_range] at this
 omega
theorem b6T {t : SetTable} (dm : t.dummies = #[]) {v : Nat} (hv : v < 16) (hm : 15 <= t.mask) (hn : v ∉ t.place.toList) : t.freeSlot (v : Int) = some (v, false) := by
 unfold SetTable.freeSlot SetTable.probe
 have e : (t.probeStart (v : Int)).j = v := by
  unfold SetTable.probeStart
  dsimp only
  rw [b0B hv]
  exact Nat.mod_eq_of_lt (by omega)
 obtain ⟨f, hf⟩ : ∃ f, 10 * SetTable.turns t.mask = f + 1 := ⟨10 * SetTable.turns t.mask - 1, by unfold SetTable.turns; omega⟩
 rw [hf]
 unfold SetTable.probe.go
 rw [e, a4F dm hn]
 rfl
def Es (es : Array (Int × Value)) (L : List Nat) : Prop := Paired (fun e v => e.1 = ((v : Nat) : Int) /\ ∃ tk, e.2 = Value.int ((v : Nat) : Int) tk) es.toList L
structure Tb (B : Bool) (t : SetTable) (L : List Nat) : Prop where
 dm : t.dummies = #[]
 pl : t.plain = true
 led : t.led = !B
 up : t.place.toList.Pairwise (· < ·)
 sz : t.place.size = L.length
 nd : L.Nodup
 lt : ∀ v ∈ L, v < 16
 sh : (t.mask = 7 /\ L.length <= 4) \/ (15 <= t.mask /\ t.place.toList = L /\ L.length * 5 < t.mask * 3)
theorem c2F {xs : Array Nat} (up : xs.toList.Pairwise (· < ·)) {j : Nat} (h : j ∉ xs.toList) : (SetTable.insertAt xs (SetTable.below xs j) j).toList.Pairwise (· < ·) := by
 obtain ⟨a, b⟩ := a5E up j
 rw [SetTable.toList_insertAt]
 have z : ∀ i (hi : i < xs.toList.length), xs.toList[i] < j ↔ i < SetTable.below xs j := fun i hi => by
  have := b i (by simpa using hi)
  simpa using this
 rw [List.pairwise_append]
 refine ⟨up.sublist (List.take_sublist _ _), ?_, ?_⟩
 ·rw [List.pairwise_cons]
  refine ⟨fun y hy => ?_, up.sublist (List.drop_sublist _ _)⟩
  obtain ⟨i, hi, e⟩ := List.getElem_of_mem hy
  rw [List.getElem_drop] at e
  have hl : SetTable.below xs j + i < xs.toList.length := by rw [List.length_drop] at hi; omega
  have q := z _ hl
  rw [e] at q
  have ne : y ≠ j := fun c => h (by rw [<- c, <- e]; exact List.getElem_mem hl)
  rcases Nat.lt_or_ge y j with g | g
  ·have := q.mp g
   omega
  ·omega
 ·intro x hx y hy
  obtain ⟨i, hi, e⟩ := List.getElem_of_mem hx
  rw [List.getElem_take] at e
  have hl : i < xs.toList.length := by rw [List.length_take] at hi; omega
  have hb : i < SetTable.below xs j := by rw [List.length_take] at hi; omega
  have x1 : x < j := by rw [<- e]; exact (z i hl).mpr hb
  rcases List.mem_cons.mp hy with rfl | hy
  ·exact x1
  ·obtain ⟨k, hk, e2⟩ := List.getElem_of_mem hy
   rw [List.getElem_drop] at e2
   have hl2 : SetTable.below xs j + k < xs.toList.length := by rw [List.length_drop] at hk; omega
   have q := z _ hl2
   rw [e2] at q
   rcases Nat.lt_or_ge y j with g | g
   ·have := q.mp g
    omega
   ·omega
theorem Es.len {es : Array (Int × Value)} {L : List Nat} (h : Es es L) : es.size = L.length := by
 have := Paired.length h
 simpa using this
theorem a5Q {α β : Type} {R : α -> β -> Prop} : ∀ {xs : List α} {ys : List β} (n : Nat), Paired R xs ys -> Paired R (xs.take n) (ys.take n)
 | _, _, 0, _ => .nil
 | _, _, _ + 1, .nil => .nil
 | _, _, n + 1, .cons r t => .cons r (a5Q n t)
theorem a5R {α β : Type} {R : α -> β -> Prop} : ∀ {xs : List α} {ys : List β} (n : Nat), Paired R xs ys -> Paired R (xs.drop n) (ys.drop n)
 | _, _, 0, r => r
 | _, _, _ + 1, .nil => .nil
 | _, _, n + 1, .cons _ t => a5R n t
theorem a2L {α β : Type} {R : α -> β -> Prop} : ∀ {xs xs' : List α} {ys ys' : List β}, Paired R xs ys -> Paired R xs' ys' -> Paired R (xs ++ xs') (ys ++ ys')
 | _, _, _, _, .nil, s => s
 | _, _, _, _, .cons r t, s => .cons r (a2L t s)
theorem a1W {α β : Type} {R : α -> β -> Prop} : ∀ {xs : List α} {ys : List β}, Paired R xs ys -> ∀ (i : Nat) (h : i < ys.length), ∃ x, xs[i]? = some x /\ R x ys[i]
 | _, _, .nil, i, h => by simp at h
 | _, _, .cons r t, 0, h => ⟨_, rfl, r⟩
 | _, _, .cons r t, i + 1, h => by
  obtain ⟨x, e, q⟩ := a1W t i (by simpa using h)
  exact ⟨x, by simpa using e, by simpa using q⟩
theorem c2G {B : Bool} {t : SetTable} {L : List Nat} {es : Array (Int × Value)} {v : Nat} {x : Value} (T : Tb B t L) (hE : Es es L) (hv : v < 16) (hn : v ∉ L) (hx : ∃ tk, x = Value.int ((v : Nat) : Int) tk) :
  ∃ t1 es1 p, layNew t es ((v : Nat) : Int) x = (es1, t1, false, false) /\ Es es1 (L.take p ++ v :: L.drop p) /\ t1.dummies = #[] /\ t1.plain = true /\ (t1.led = !B) /\ t1.mask = t.mask /\ t1.finger = t.finger /\ t1.moves = t.moves /\
   t1.place.toList.Pairwise (· < ·) /\ t1.place.size = L.length + 1 /\ (15 <= t.mask -> t1.place.toList = L.take p ++ v :: L.drop p) := by
 have main : ∃ j, j ∉ t.place.toList /\ t.freeSlot ((v : Nat) : Int) = some (j, false) /\ (15 <= t.mask -> j = v) := by
  rcases T.sh with ⟨m7, l4⟩ | ⟨m15, pe, fl⟩
  ·have lp : t.place.toList.length <= 4 := by rw [Array.length_toList, T.sz]; exact l4
   obtain ⟨j, hj, nj⟩ := c2E lp
   obtain ⟨k, hk, e⟩ := c4F v hv j hj
   have st : t.probeStart ((v : Nat) : Int) = b4X v := by
    unfold SetTable.probeStart b4X
    rw [b0B hv, m7]
    unfold SetTable.runEnd
    have : ¬ v % (7 + 1) + 9 <= 7 := by omega
    simp only [if_neg this]
    simp
   obtain ⟨j', hj', e'⟩ := b9M (v := v) (k := k) T.dm T.up (by unfold SetTable.turns; omega) (by rw [st, m7, e]; exact nj)
   exact ⟨j', hj', e', fun c => by omega⟩
  ·have nv : v ∉ t.place.toList := by rw [pe]; exact hn
   exact ⟨v, nv, b6T T.dm hv m15 nv, fun _ => rfl⟩
 obtain ⟨j, nj, ef, ej⟩ := main
 have sz1 : (SetTable.insertAt t.place (SetTable.below t.place j) j).size = L.length + 1 := by
  have := congrArg List.length (SetTable.toList_insertAt t.place (SetTable.below t.place j) j)
  rw [Array.length_toList] at this
  rw [this, List.length_append, List.length_cons, List.length_take, List.length_drop, Array.length_toList, T.sz]
  omega
 have es1 : (SetTable.insertAt es (SetTable.below t.place j) (((v : Nat) : Int), x)).size = L.length + 1 := by
  have := congrArg List.length (SetTable.toList_insertAt es (SetTable.below t.place j) (((v : Nat) : Int), x))
  rw [Array.length_toList] at this
  rw [this, List.length_append, List.length_cons, List.length_take, List.length_drop, Array.length_toList, hE.len]
  omega
 have mk : L.length + 1 <= t.mask := by
  rcases T.sh with ⟨m7, l4⟩ | ⟨m15, pe, fl⟩ <;> omega
 refine ⟨{ t with place := SetTable.insertAt t.place (SetTable.below t.place j) j }, SetTable.insertAt es (SetTable.below t.place j) (((v : Nat) : Int), x), SetTable.below t.place j, ?_, ?_, T.dm, T.pl, T.led, rfl, rfl, rfl, c2F T.up nj, sz1, ?_⟩
 ·unfold layNew
  rw [ef]
  dsimp only
  unfold SetTable.put
  have hd : SetTable.has t.dummies j = false := by rw [T.dm]; exact b4U j
  dsimp only
  rw [hd]
  have ft : SetTable.fits { t with place := SetTable.insertAt t.place (SetTable.below t.place j) j } (SetTable.insertAt es (SetTable.below t.place j) (((v : Nat) : Int), x)).size = true := by
   unfold SetTable.fits SetTable.fill
   dsimp only
   rw [sz1, es1, T.dm]
   simp
   omega
  unfold SetTable.orStandIn
  simp only [if_false, Bool.false_eq_true]
  rw [if_pos ft, ft]
  rfl
 ·unfold Es
  rw [SetTable.toList_insertAt]
  exact a2L (a5Q _ hE) (.cons ⟨rfl, hx⟩ (a5R _ hE))
 ·intro hm
  dsimp only
  have := ej hm
  subst this
  rcases T.sh with ⟨m7, l4⟩ | ⟨m15, pe, fl⟩
  ·omega
  ·rw [SetTable.toList_insertAt, pe]
end Sm
set_option maxHeartbeats 1000000
namespace Sm
open PySem
def Owns (m : Nat) (owner : Array (Option Nat)) (L : List Nat) : Prop := owner.size = m + 1 /\ ∀ j, j <= m -> owner.getD j none = if j ∈ L then some (L.idxOf j) else none
theorem b6U {m : Nat} {owner : Array (Option Nat)} {L : List Nat} (O : Owns m owner L) {v f : Nat} (hv : v <= m) (hn : v ∉ L) : SetTable.layClean.free m owner (f + 1) v v = some v := by
 unfold SetTable.layClean.free
 obtain ⟨k, hk⟩ : ∃ k, SetTable.runEnd m v + 1 - v = k + 1 := ⟨SetTable.runEnd m v - v, by unfold SetTable.runEnd; split <;> omega⟩
 rw [hk, List.range_succ_eq_map]
 have g : owner.getD (v + 0) (some 0) = none := by
  have a := O.2 v hv
  rw [if_neg hn] at a
  have hs : v < owner.size := by rw [O.1]; omega
  simp [Array.getD, hs] at a ⊢
  exact a
 rw [List.find?_cons_of_pos (by rw [g]; rfl)]
 rfl
theorem b6V {m : Nat} (hm : 15 <= m) : ∀ (R L : List Nat) (owner : Array (Option Nat)), Owns m owner L -> (L ++ R).Nodup -> (∀ v ∈ R, v < 16) ->
  ∃ owner', Owns m owner' (L ++ R) /\ (R.map fun v => ((v : Nat) : Int)).foldl (fun (acc : Option (Array (Option Nat) × Nat)) h => do
   let (owner, k) <- acc
   let j <- SetTable.layClean.free m owner (SetTable.turns m) (SetTable.bits h % (m + 1)) (SetTable.bits h)
   pure (owner.setIfInBounds j (some k), k + 1)) (some (owner, L.length)) = some (owner', (L ++ R).length) := by
 intro R
 induction R with
 | nil => intro L owner O _ _; exact ⟨owner, by simpa using O, by simp⟩
 | cons v R ih =>
  intro L owner O nd hlt
  have hv : v < 16 := hlt v List.mem_cons_self
  have hn : v ∉ L := fun c => by
   have := List.nodup_append.mp nd
   exact this.2.2 v c v List.mem_cons_self rfl
  have O' : Owns m (owner.setIfInBounds v (some L.length)) (L ++ [v]) := by
   refine ⟨by rw [Array.size_setIfInBounds]; exact O.1, fun j hj => ?_⟩
   have hs : v < owner.size := by rw [O.1]; omega
   have hs' : j < owner.size := by rw [O.1]; omega
   have a := O.2 j hj
   by_cases e : j = v
   ·subst e
    rw [if_pos (List.mem_append_right _ (List.mem_singleton.mpr rfl)), List.idxOf_append, if_neg hn]
    simp [Array.getD, hs]
   ·have e1 : (owner.setIfInBounds v (some L.length)).getD j none = owner.getD j none := by
     simp only [Array.getD, Array.size_setIfInBounds, hs']
     simp [Array.getElem_setIfInBounds, hs', Ne.symm e]
    rw [e1, a]
    by_cases c : j ∈ L
    ·rw [if_pos c, if_pos (List.mem_append_left _ c), List.idxOf_append, if_pos c]
    ·rw [if_neg c, if_neg]
     intro d
     rcases List.mem_append.mp d with d | d
     ·exact c d
     ·exact e (List.mem_singleton.mp d)
  obtain ⟨o2, O2, e2⟩ := ih (L ++ [v]) _ O' (by simpa using nd) (fun u hu => hlt u (List.mem_cons_of_mem _ hu))
  refine ⟨o2, by simpa using O2, ?_⟩
  rw [List.map_cons, List.foldl_cons]
  have st : (do
   let (owner, k) <- some (owner, L.length)
   let j <- SetTable.layClean.free m owner (SetTable.turns m) (SetTable.bits ((v : Nat) : Int) % (m + 1)) (SetTable.bits ((v : Nat) : Int))
   pure (owner.setIfInBounds j (some k), k + 1) : Option (Array (Option Nat) × Nat)) = some (owner.setIfInBounds v (some L.length), (L ++ [v]).length) := by
   rw [b0B hv, Nat.mod_eq_of_lt (by omega)]
   have : SetTable.turns m = (m + 14) + 1 := rfl
   rw [this]
   show (SetTable.layClean.free m owner (m + 14 + 1) v v).bind _ = _
   rw [b6U O (by omega) hn]
   simp
  rw [st]
  have e3 : (L ++ v :: R) = L ++ [v] ++ R := by simp
  rw [e3]
  exact e2
def upTo (m : Nat) (L : List Nat) : List Nat := (List.range (m + 1)).filter fun j => decide (j ∈ L)
theorem b0C (m : Nat) (L : List Nat) : (upTo m L).Pairwise (· < ·) := List.Pairwise.filter _ List.pairwise_lt_range
theorem a5F {m : Nat} {L : List Nat} (h : ∀ v ∈ L, v <= m) {j : Nat} : j ∈ upTo m L ↔ j ∈ L := by
 unfold upTo
 rw [List.mem_filter, List.mem_range]
 constructor
 ·rintro ⟨_, b⟩; exact of_decide_eq_true b
 ·intro b; exact ⟨Nat.lt_succ_of_le (h j b), decide_eq_true b⟩
theorem a5S {L : List Nat} (h : L.Pairwise (· < ·)) : L.Nodup := h.imp fun h => Nat.ne_of_lt h
theorem a3O {m : Nat} {L : List Nat} (h : ∀ v ∈ L, v <= m) (nd : L.Nodup) : (upTo m L).Perm L :=
 (List.perm_ext_iff_of_nodup (a5S (b0C m L)) nd).mpr fun j => a5F h
theorem b9N {L : List Nat} (nd : L.Nodup) : L.map (fun v => L.idxOf v) = List.range L.length := by
 apply List.ext_getElem
 ·simp
 ·intro i h1 h2
  rw [List.getElem_map, List.getElem_range]
  exact List.Nodup.idxOf_getElem nd i _
theorem b9O {α β : Type} (p : α -> Bool) (f : α -> β) : ∀ l : List α, l.filterMap (fun a => if p a = true then some (f a) else none) = (l.filter p).map f
 | [] => rfl
 | a :: r => by
  rw [List.filter_cons]
  cases e : p a with
  | true => rw [List.filterMap_cons_some (b := f a) (by rw [e]; rfl), b9O p f r]; simp
  | false => rw [List.filterMap_cons_none (by rw [e]; rfl), b9O p f r]; simp
theorem b1D {α β : Type} {f g : α -> Option β} : ∀ {l : List α}, (∀ a ∈ l, f a = g a) -> l.filterMap f = l.filterMap g
 | [], _ => rfl
 | a :: r, h => by
  have e := h a List.mem_cons_self
  have q := b1D (l := r) fun b hb => h b (List.mem_cons_of_mem _ hb)
  cases c : f a with
  | none => rw [List.filterMap_cons_none c, List.filterMap_cons_none (by rw [<- e]; exact c), q]
  | some b => rw [List.filterMap_cons_some c, List.filterMap_cons_some (by rw [<- e]; exact c), q]
theorem Es.hashes {es : Array (Int × Value)} {L : List Nat} (h : Es es L) : (es.map (·.1)).toList = L.map fun v => ((v : Nat) : Int) := by
 rw [Array.toList_map]
 unfold Es at h
 generalize es.toList = l at h
 induction h with
 | nil => rfl
 | cons r _ ih => rw [List.map_cons, List.map_cons, ih, r.1]
theorem Es.at {es : Array (Int × Value)} {L : List Nat} (h : Es es L) {v : Nat} (hv : v ∈ L) : ∃ e, es[L.idxOf v]? = some e /\ e.1 = ((v : Nat) : Int) /\ ∃ tk, e.2 = Value.int ((v : Nat) : Int) tk := by
 have hi := List.idxOf_lt_length_of_mem hv
 obtain ⟨x, e, q⟩ := a1W h (L.idxOf v) hi
 rw [List.getElem_idxOf hi] at q
 exact ⟨x, by simpa using e, q⟩
theorem c2H {es : Array (Int × Value)} {L : List Nat} (h : Es es L) : ∀ S : List Nat, (∀ v ∈ S, v ∈ L) -> Paired (fun e v => e.1 = ((v : Nat) : Int) /\ ∃ tk, e.2 = Value.int ((v : Nat) : Int) tk) ((S.map fun v => L.idxOf v).filterMap fun i => es[i]?) S
 | [], _ => .nil
 | v :: S, hs => by
  obtain ⟨e, a, b⟩ := h.at (hs v List.mem_cons_self)
  rw [List.map_cons, List.filterMap_cons_some a]
  exact .cons b (c2H h S fun u hu => hs u (List.mem_cons_of_mem _ hu))
theorem b0D {es : Array (Int × Value)} {L : List Nat} {m f mv : Nat} {led plain : Bool} (hm : 15 <= m) (hE : Es es L) (nd : L.Nodup) (hlt : ∀ v ∈ L, v < 16) :
  ∃ order : Array Nat, SetTable.laid m f mv led plain (es.map (·.1)) = some ({ mask := m, place := (upTo m L).toArray, dummies := #[], finger := f, led := led, moves := mv, plain := plain }, order) /\
   Es (order.filterMap (es[·]?)) (upTo m L) /\ coversAll order es.size = true := by
 have hle : ∀ v ∈ L, v <= m := fun v hv => by have := hlt v hv; omega
 have O0 : Owns m (Array.replicate (m + 1) none) [] := ⟨by simp, fun j hj => by simp [Array.getD]⟩
 obtain ⟨ow, O, e⟩ := b6V hm L [] _ O0 (by simpa using nd) hlt
 rw [List.nil_append] at O e
 have ec : SetTable.layClean m (es.map (·.1)) = some ow := by
  unfold SetTable.layClean
  rw [<- Array.foldl_toList, hE.hashes]
  have e' := e
  rw [List.length_nil] at e'
  show Option.map _ (List.foldl _ _ _) = _
  refine Eq.trans (congrArg (Option.map (·.1)) (Eq.trans ?_ e')) rfl
  rfl
 have lv : (List.range (m + 1)).filterMap (fun j => (ow.getD j none).map (fun k => (j, k))) = (upTo m L).map fun j => (j, L.idxOf j) := by
  unfold upTo
  rw [<- b9O]
  apply b1D
  intro j hj
  rw [O.2 j (by have := List.mem_range.mp hj; omega)]
  by_cases c : j ∈ L
  ·simp [c]
  ·simp [c]
 refine ⟨((upTo m L).map fun j => L.idxOf j).toArray, ?_, ?_, ?_⟩
 ·unfold SetTable.laid
  rw [ec]
  show some _ = some _
  have : (List.range (m + 1)).filterMap (fun j => (ow.getD j none).map (j, ·)) = (upTo m L).map fun j => (j, L.idxOf j) := lv
  rw [this, List.map_map, List.map_map]
  have i1 : ((fun (x : Nat × Nat) => x.1) ∘ fun j => (j, L.idxOf j)) = fun j => j := rfl
  have i2 : ((fun (x : Nat × Nat) => x.2) ∘ fun j => (j, L.idxOf j)) = fun j => L.idxOf j := rfl
  rw [i1, i2, List.map_id']
 ·unfold Es
  rw [Array.toList_filterMap]
  exact c2H hE (upTo m L) fun v hv => (a5F hle).mp hv
 ·unfold coversAll
  rw [List.isPerm_iff, hE.len]
  have p := (a3O hle nd).map fun v => L.idxOf v
  rw [b9N nd] at p
  exact p
theorem b4Z {m : Nat} {L : List Nat} (h : ∀ v ∈ L, v < 16) (hm : 15 <= m) (nd : L.Nodup) : (upTo m L).length = L.length := (a3O (fun v hv => by have := h v hv; omega) nd).length_eq
theorem a4N {n : Nat} (h : n < 2 ^ 40) : n < SetTable.sizeAbove n := by
 have go : ∀ fuel size, n < size * 2 ^ fuel -> n < SetTable.sizeAbove.go n fuel size := by
  intro fuel
  induction fuel with
  | zero => intro size h; unfold SetTable.sizeAbove.go; simpa using h
  | succ f ih =>
   intro size h
   unfold SetTable.sizeAbove.go
   split
   ·exact ih _ (by rw [Nat.pow_succ] at h; rw [Nat.mul_assoc, Nat.mul_comm 2]; exact h)
   ·omega
 exact go 64 8 (by omega)
theorem a4O {n : Nat} (h : 8 <= n) : 16 <= SetTable.sizeAbove n := by
 have go : ∀ fuel size, 16 <= size -> 16 <= SetTable.sizeAbove.go n fuel size := by
  intro fuel
  induction fuel with
  | zero => intro size h; unfold SetTable.sizeAbove.go; exact h
  | succ f ih =>
   intro size h
   unfold SetTable.sizeAbove.go
   split
   ·exact ih _ (by omega)
   ·exact h
 unfold SetTable.sizeAbove
 unfold SetTable.sizeAbove.go
 rw [if_pos h]
 exact go 63 _ (by omega)
theorem Tb.fits {B : Bool} {t : SetTable} {L : List Nat} (T : Tb B t L) : t.fits L.length = true := by
 unfold SetTable.fits SetTable.fill
 have := T.sz
 rw [T.dm]
 rcases T.sh with ⟨a, b⟩ | ⟨a, b, c⟩ <;> simp [this] <;> omega
theorem b0E {B : Bool} {L : List Nat} {m f mv : Nat} (hm : 15 <= m) (nd : L.Nodup) (hlt : ∀ v ∈ L, v < 16) (hr : L.length * 5 < m * 3) :
  Tb B { mask := m, place := (upTo m L).toArray, dummies := #[], finger := f, led := !B, moves := mv, plain := true } (upTo m L) where
 dm := rfl
 pl := rfl
 led := rfl
 up := by simpa using b0C m L
 sz := by simp
 nd := a5S (b0C m L)
 lt := fun v hv => hlt v ((a5F (fun v hv => by have := hlt v hv; omega)).mp hv)
 sh := .inr ⟨hm, by simp, by rw [b4Z hlt hm nd]; exact hr⟩
theorem b6W {B : Bool} {t : SetTable} {es : Array (Int × Value)} {L : List Nat} {n : Nat} (hp : t.plain = true) (hl : t.led = !B) (hE : Es es L) (nd : L.Nodup) (hlt : ∀ v ∈ L, v < 16) (hn : 8 <= n) (h2 : 2 * L.length <= n) (hb : n < 2 ^ 40) :
  ∃ es' t' L', relayAll t es n = (es', t', false) /\ Es es' L' /\ Tb B t' L' /\ L'.Perm L := by
 have a1 := a4N hb
 have a2 := a4O hn
 have hm : 15 <= SetTable.sizeAbove n - 1 := by omega
 obtain ⟨order, e, hE', hc⟩ := b0D (f := t.finger) (mv := t.movedTo (SetTable.sizeAbove n - 1)) (led := !B) (plain := true) hm hE nd hlt
 have T := b0E (B := B) (f := t.finger) (mv := t.movedTo (SetTable.sizeAbove n - 1)) hm nd hlt (by omega)
 refine ⟨_, _, _, ?_, hE', T, a3O (fun v hv => by have := hlt v hv; omega) nd⟩
 unfold relayAll SetTable.relaid
 rw [hp, hl, e]
 dsimp only
 have z := hE'.len
 rw [hc, z, T.fits]
 rfl
end Sm
set_option maxHeartbeats 1000000
namespace Sm
open PySem
abbrev setO (es : Array (Int × Value)) (ep : Nat) (t : SetTable) : Obj := { cls := .type "set", dict := none, data := .set es ep t, slots := #[] }
def SetAt (B : Bool) (h : Heap) (a : Addr) (L : List Nat) : Prop := ∃ es ep t, h.get? a = some (setO es ep t) /\ Es es L /\ Tb B t L
def Dense (h : Heap) (a : Addr) : Prop := ∃ es ep t, h.get? a = some (setO es ep t) /\ (t.mask = 7 \/ 5 <= es.size)
theorem Dense.keep {h h' : Heap} {a : Addr} (S : Dense h a) (k : ∀ o, h.get? a = some o -> h'.get? a = some o) : Dense h' a :=
 let ⟨es, ep, t, ho, r⟩ := S; ⟨es, ep, t, k _ ho, r⟩
theorem SetAt.keep {B : Bool} {h h' : Heap} {a : Addr} {L : List Nat} (S : SetAt B h a L) (k : ∀ o, h.get? a = some o -> h'.get? a = some o) : SetAt B h' a L :=
 let ⟨es, ep, t, ho, r⟩ := S; ⟨es, ep, t, k _ ho, r⟩
theorem Tb.len {B : Bool} {t : SetTable} {L : List Nat} (T : Tb B t L) : L.length <= 16 := by
 have := b4Y L (List.range 16) T.nd fun x hx => List.mem_range.mpr (T.lt x hx)
 simpa using this
theorem b5A : ∀ v : Nat, v < 16 -> hashInt ((v : Nat) : Int) = ((v : Nat) : Int) := by decide +kernel
theorem Es.elems {prog : Program} {w : World} {es : Array (Int × Value)} {L : List Nat} (h : Es es L) (lt : ∀ v ∈ L, v < 16) : ElemsOf (intKind prog w) es.toList := by
 unfold Es at h
 generalize es.toList = l at h
 induction h with
 | nil => intro e he; simp at he
 | @cons x y xs ys r _ ih =>
  intro e he
  rcases List.mem_cons.mp he with rfl | he
  ·obtain ⟨tk, e2⟩ := r.2
   refine ⟨⟨((y : Nat) : Int), ?_, ?_⟩, ?_⟩
   ·show Value.isInt _ _ = true
    rw [e2]; simp [Value.isInt]
   ·rw [r.1]; exact (b5A y (lt y List.mem_cons_self)).symm
   ·rw [e2]; rfl
  ·exact ih (fun v hv => lt v (List.mem_cons_of_mem _ hv)) e he
theorem Es.find {es : Array (Int × Value)} {L : List Nat} (h : Es es L) (v : Nat) : (es.toList.findIdx? fun e => Value.isInt ((v : Nat) : Int) e.2).isSome = decide (v ∈ L) := by
 unfold Es at h
 generalize es.toList = l at h
 induction h with
 | nil => simp
 | @cons x y xs ys r _ ih =>
  obtain ⟨tk, e2⟩ := r.2
  rw [List.findIdx?_cons, e2]
  by_cases c : v = y
  ·subst c; simp [Value.isInt]
  ·have : Value.isInt ((v : Nat) : Int) (.int ((y : Nat) : Int) tk) = false := by simp [Value.isInt]; omega
   rw [this]
   simp only [Bool.false_eq_true, if_false, Option.isSome_map]
   rw [ih]
   simp [c]
section
variable {prog : Program} {w : World} {A : Around} {E : Value -> Shared -> Prop} {s : Shared} {B : Bool} {a : Addr} {L : List Nat}
theorem b9P {es : Array (Int × Value)} {ep : Nat} {t : SetTable} {v tk : Nat} {ad : Bool} {Q : ScanMet -> Shared -> Prop} (ho : s.heap.get? a = some (setO es ep t)) (hE : Es es L) (T : Tb B t L) (hv : v < 16)
  (h1 : v ∈ L -> ∀ j, Q (.found j) s) (h2 : v ∉ L -> Q .absent s) : wpAny (model prog w) A (setScan a (.int ((v : Nat) : Int) tk) ((v : Nat) : Int) ad es) Q E s := by
 have hf : t.fits es.size = true := by rw [hE.len]; exact T.fits
 have sc := wpAny_setScan_of (prog := prog) (w := w) (A := A) (E := E) (s := s) (knd := intKind prog w) (k := ((v : Nat) : Int)) (x := .int ((v : Nat) : Int) tk) (adding := ad) (Q := Q) (by simp [intKind, Value.isInt]) ho rfl hf (hE.elems T.lt) (by
  have q := hE.find v
  have e : (fun e : Int × Value => (intKind prog w).is ((v : Nat) : Int) e.2) = fun e => Value.isInt ((v : Nat) : Int) e.2 := rfl
  rw [e]
  cases c : es.toList.findIdx? (fun e => Value.isInt ((v : Nat) : Int) e.2) with
  | none => rw [c] at q; exact h2 (of_decide_eq_false q.symm)
  | some j => rw [c] at q; exact h1 (of_decide_eq_true q.symm) _)
 have e : (intKind prog w).hash ((v : Nat) : Int) = ((v : Nat) : Int) := b5A v hv
 rw [e] at sc
 exact sc
theorem a4G {h : Heap} {es es' : Array (Int × Value)} {ep : Nat} {t t' : SetTable} (ho : h.get? a = some (setO es ep t)) : (h.update a (Obj.putSet es' t')).get? a = some (setO es' (ep + 1) t') := by
 have := Heap.get?_update_self (Obj.putSet es' t') ho (by rw [putSet_of es' t' rfl]; rfl)
 rw [putSet_of es' t' rfl] at this
 exact this
theorem b9Q (prog : Program) (w : World) {es : Array (Int × Value)} {t : SetTable} {v tk : Nat} (hE : Es es L) (T : Tb B t L) : byScan (.int ((v : Nat) : Int) tk) es = true :=
 byScan_of (knd := intKind prog w) rfl (by rw [hE.len]; have := T.len; unfold scanBound; omega) (hE.elems T.lt)
theorem b8L {v tk : Nat} {Q : Bool -> Shared -> Prop} (S : SetAt B s.heap a L) (hv : v < 16)
  (h : ∀ b h' L', Heap.SameBut a s.heap h' -> SetAt B h' a L' -> (∀ u, u ∈ L' ↔ u = v \/ u ∈ L) -> (Dense s.heap a -> Dense h' a) -> Q b { s with heap := h' }) :
  wpAny (model prog w) A (setAddHashed a (.int ((v : Nat) : Int) tk) ((v : Nat) : Int)) Q E s := by
 obtain ⟨es, ep, t, ho, hE, T⟩ := S
 have hf : t.fits es.size = true := by rw [hE.len]; exact T.fits
 unfold setAddHashed setAddHashedIn
 refine wpAny_holding (wpAny_bind (wpAny_setState_of ho rfl hf ?_))
 dsimp only
 rw [b9Q prog w hE T]
 simp only [↓reduceIte]
 unfold setAddByScan
 refine wpAny_bind ?_
 refine wpAny_bind (wpAny_rule ?_)
 refine wpAny_bind (b9P ho hE T hv (fun hm j => ?_) fun hm => ?_)
 ·dsimp only
  refine wpAny_pure (wpAny_pure ?_)
  have q := h false s.heap L (Heap.SameBut.refl a s.heap) ⟨es, ep, t, ho, hE, T⟩ (fun u => ⟨.inr, fun c => c.elim (fun e => e ▸ hm) id⟩) id
  exact q
 ·dsimp only
  obtain ⟨t1, es1, p, e1, hE1, dm, pl, ld, mk, _, _, up, sz, own⟩ := c2G (x := .int ((v : Nat) : Int) tk) T hE hv hm ⟨tk, rfl⟩
  rw [e1]
  dsimp only
  refine wpAny_bind (wpAny_pure ?_)
  rw [pl]
  refine wpAny_bind (wpAny_pure ?_)
  simp only [↓reduceIte]
  have mem : ∀ u, u ∈ L.take p ++ v :: L.drop p ↔ u = v \/ u ∈ L := fun u => by
   rw [List.mem_append, List.mem_cons]
   have e : u ∈ L ↔ u ∈ L.take p \/ u ∈ L.drop p := by rw [<- List.mem_append, List.take_append_drop]
   rw [e]
   constructor
   ·rintro (c | c | c)
    ·exact .inr (.inl c)
    ·exact .inl c
    ·exact .inr (.inr c)
   ·rintro (c | c | c)
    ·exact .inr (.inl c)
    ·exact .inl c
    ·exact .inr (.inr c)
  have nd1 : (L.take p ++ v :: L.drop p).Nodup := by
   have pm : (L.take p ++ v :: L.drop p).Perm (v :: L) := by
    have : L.take p ++ L.drop p = L := List.take_append_drop p L
    exact List.perm_middle.trans (by rw [this])
   exact pm.nodup_iff.mpr (List.nodup_cons.mpr ⟨hm, T.nd⟩)
  have lt1 : ∀ u ∈ L.take p ++ v :: L.drop p, u < 16 := fun u hu => ((mem u).mp hu).elim (fun e => e ▸ hv) (T.lt u)
  have ln1 : (L.take p ++ v :: L.drop p).length = L.length + 1 := by
   rw [List.length_append, List.length_cons, List.length_take, List.length_drop]; omega
  have fl : t1.fill = L.length + 1 := by unfold SetTable.fill; rw [dm, sz]; rfl
  have l16 := T.len
  have z1 : es1.size = L.length + 1 := by rw [hE1.len, ln1]
  refine wpAny_bind (wpAny_storeSet_of ho rfl ?_ (by rw [z1, sizeLine_eq]; omega))
  have ho1 := a4G (es' := es1) (t' := t1) ho
  cases tf : t1.tooFull with
  | false =>
   simp only [Bool.not_false, Bool.and_false, Bool.false_eq_true, if_false]
   refine wpAny_pure (wpAny_pure ?_)
   refine h true _ _ (Heap.SameBut.update ..) ⟨es1, ep + 1, t1, ho1, hE1, ⟨dm, pl, ld, up, by rw [ln1, sz], nd1, lt1, ?_⟩⟩ mem (fun ⟨es0, ep0, t0, ho0, d⟩ => ⟨es1, ep + 1, t1, ho1, by
    rw [ho] at ho0; cases ho0
    rw [mk, z1]; have := hE.len; omega⟩)
   unfold SetTable.tooFull at tf
   have tf' := of_decide_eq_false tf
   rw [fl, mk] at tf'
   rw [ln1, mk]
   rcases T.sh with ⟨m7, l4⟩ | ⟨m15, pe, _⟩
   ·refine .inl ⟨m7, by omega⟩
   ·exact .inr ⟨m15, own m15, by omega⟩
  | true =>
   simp only [Bool.not_false, Bool.and_self, if_true]
   unfold SetTable.tooFull at tf
   have tf' := of_decide_eq_true tf
   rw [fl, mk] at tf'
   have five : 5 <= L.length + 1 := by
    rcases T.sh with ⟨m7, l4⟩ | ⟨m15, pe, _⟩ <;> omega
   have gr : SetTable.grown es1.size = (L.length + 1) * 4 := by
    unfold SetTable.grown
    rw [z1, if_neg (by omega)]
   obtain ⟨es2, t2, L2, e2, hE2, T2, pm⟩ := b6W (t := t1) (n := SetTable.grown es1.size) pl ld hE1 nd1 lt1 (by rw [gr]; omega) (by rw [gr, ln1]; omega) (by rw [gr]; omega)
   rw [e2]
   dsimp only
   refine wpAny_bind (wpAny_pure ?_)
   refine wpAny_bind (wpAny_storeSet_of ho1 rfl ?_ (by rw [hE2.len, pm.length_eq, ln1, sizeLine_eq]; omega))
   refine wpAny_pure (wpAny_pure ?_)
   exact h true _ L2 ((Heap.SameBut.update ..).trans (Heap.SameBut.update ..)) ⟨es2, _, t2, a4G ho1, hE2, T2⟩ (fun u => (pm.mem_iff).trans (mem u)) fun _ => ⟨es2, _, t2, a4G ho1, .inr (by rw [hE2.len, pm.length_eq, ln1]; exact five)⟩
end
end Sm
set_option maxHeartbeats 2000000
namespace Sm
open PySem
abbrev byT (w : World) : Bool := w.params.followText "set-order"
theorem a6U {α : Type} : ∀ (l : List α) (i : Nat) (h : i < l.length), (l[i] :: l.eraseIdx i).Perm l
 | _ :: r, 0, _ => .refl _
 | x :: r, i + 1, h => by
  have q := a6U r i (by simpa using h)
  rw [List.getElem_cons_succ, List.eraseIdx_cons_succ]
  exact (List.Perm.swap x (r[i]'(by simpa using h)) (r.eraseIdx i)).trans (q.cons x)
theorem b9R {α : Type} (nx : Nat -> Nat) : ∀ (fuel k : Nat) (left : List α) (out : Array α), left.length <= fuel -> (pickOrder.go nx fuel k left out).toList.Perm (out.toList ++ left) := by
 intro fuel
 induction fuel with
 | zero =>
  intro k left out h
  have : left = [] := List.length_eq_zero_iff.mp (by omega)
  subst this
  unfold pickOrder.go
  simp
 | succ f ih =>
  intro k left out h
  unfold pickOrder.go
  by_cases c : left = []
  ·subst c; simp
  ·have pos : 0 < left.length := List.length_pos_iff.mpr c
   have lt := Nat.mod_lt (nx k) pos
   rw [List.getElem?_eq_getElem lt]
   dsimp only
   refine (ih (k + 1) _ _ (by rw [List.length_eraseIdx]; split <;> omega)).trans ?_
   rw [Array.toList_push, List.append_assoc]
   exact List.Perm.append_left _ (a6U left _ lt)
theorem a8X {α : Type} (nx : Nat -> Nat) (xs : Array α) : (pickOrder nx xs).toList.Perm xs.toList := by
 have := b9R nx xs.size 0 xs.toList #[] (by simp)
 unfold pickOrder
 simpa using this
theorem b5B (a : Addr) : setWalk a = (do
 let (xs, c, tb) <- setState a
 if <- setsByText then
  let q <- ask
  return pickOrder (q.params.setOrder a c) xs
 if !tb.plain && xs.size > 1 then return (<- drawOrder xs.size xs.toList).toArray
 (do if !tb.led && xs.size > 1 then unsupported "set:maker-not-led" : Sem Unit)
 return xs) := rfl
theorem Es.perm {es : Array (Int × Value)} {L : List Nat} (h : Es es L) {es' : List (Int × Value)} (p : es'.Perm es.toList) : ∃ L', Paired (fun e v => e.1 = ((v : Nat) : Int) /\ ∃ tk, e.2 = Value.int ((v : Nat) : Int) tk) es' L' /\ L'.Perm L := by
 refine ⟨es'.map fun e => e.1.toNat, ?_, ?_⟩
 ·have all : ∀ e ∈ es.toList, ∃ v : Nat, e.1 = ((v : Nat) : Int) /\ ∃ tk, e.2 = Value.int ((v : Nat) : Int) tk := by
   unfold Es at h
   generalize es.toList = l at h
   clear p
   induction h with
   | nil => intro e he; simp at he
   | cons r _ ih =>
    intro e he
    rcases List.mem_cons.mp he with rfl | he
    ·exact ⟨_, r⟩
    ·exact ih e he
  have all' : ∀ e ∈ es', ∃ v : Nat, e.1 = ((v : Nat) : Int) /\ ∃ tk, e.2 = Value.int ((v : Nat) : Int) tk := fun e he => all e (p.mem_iff.mp he)
  clear p
  induction es' with
  | nil => exact .nil
  | cons e r ih =>
   obtain ⟨v, e1, e2⟩ := all' e List.mem_cons_self
   rw [List.map_cons]
   refine .cons ?_ (ih fun x hx => all' x (List.mem_cons_of_mem _ hx))
   rw [e1]
   exact ⟨rfl, e2⟩
 ·refine (p.map fun e => e.1.toNat).trans ?_
  unfold Es at h
  generalize es.toList = l at h
  have : l.map (fun e => e.1.toNat) = L := by
   induction h with
   | nil => rfl
   | cons r _ ih => rw [List.map_cons, ih, r.1]; rfl
  rw [this]
section
variable {prog : Program} {w : World} {A : Around} {E : Value -> Shared -> Prop} {s : Shared} {a : Addr} {L : List Nat}
theorem a1F {es : Array (Int × Value)} {ep : Nat} {t : SetTable} {B : Bool} {Q : (Array (Int × Value) × Nat × SetTable) -> Shared -> Prop} (ho : s.heap.get? a = some (setO es ep t)) (hE : Es es L) (T : Tb B t L) (h : Q (es, ep, t) s) :
  wpAny (model prog w) A (setState a) Q E s := wpAny_setState_of ho rfl (by rw [hE.len]; exact T.fits) h
theorem a2M {Q : Bool -> Shared -> Prop} (h : Q (byT w) s) : wpAny (model prog w) A setsByText Q E s := by
 unfold setsByText
 exact wpAny_bind (wpAny_askSetting (wpAny_pure h))
theorem b9S {es : Array (Int × Value)} {ep : Nat} {t : SetTable} {Q : Array (Int × Value) -> Shared -> Prop} (ho : s.heap.get? a = some (setO es ep t)) (hE : Es es L) (T : Tb (byT w) t L)
  (h : ∀ es', es'.toList.Perm es.toList -> Q es' s) : wpAny (model prog w) A (setWalk a) Q E s := by
 rw [b5B]
 refine wpAny_bind (a1F ho hE T ?_)
 refine wpAny_bind (a2M ?_)
 have pl := T.pl
 have ld := T.led
 cases c : byT w with
 | true =>
  simp only [if_true]
  exact wpAny_bind (wpAny_askSetting (wpAny_pure (h _ (a8X _ _))))
 | false =>
  rw [c] at ld
  simp only [pl, ld, Bool.not_true, Bool.not_false, Bool.false_and, Bool.false_eq_true, if_false]
  first | exact wpAny_bind (wpAny_pure (wpAny_pure (h _ .rfl))) | exact wpAny_pure (h _ .rfl)
theorem b5C {es : Array (Int × Value)} {ep : Nat} {t : SetTable} {others : List Addr} {f : Option Addr} {Q : Array (Int × Value) -> Shared -> Prop} (ho : s.heap.get? a = some (setO es ep t)) (hE : Es es L) (T : Tb (byT w) t L)
  (h : ∀ es', es'.toList.Perm es.toList -> Q es' s) : wpAny (model prog w) A (setWalkUnseen a others f) Q E s := by
 unfold setWalkUnseen
 refine wpAny_bind (a1F ho hE T ?_)
 refine wpAny_bind (a2M ?_)
 have e : (byT w || (t.led && t.plain) || decide (es.size <= 1)) = true := by rw [T.led, T.pl]; cases byT w <;> rfl
 dsimp only
 rw [if_pos e]
 exact b9S ho hE T h
def b6X (es : Array (Int × Value)) (laid : Option (SetTable × Array Nat)) : Sem (Array (Int × Value) × SetTable) := do
 let some (t, order) := laid
  | unsupported "internal:set-table-without-room"
 if (order.filterMap (es[·]?)).size != es.size then unsupported "internal:set-table-lost-an-element"
 pure (order.filterMap (es[·]?), t)
theorem b6Y (a : Addr) (n : Nat) : setRelay a n = (do
 let (es, _, t) <- setState a
 if SetTable.sizeAbove n > sizeLine then unsupported "set:memory"
 let (es, t) <- b6X es (t.relaid (es.map (·.1)) n)
 storeSet a es t) := rfl
theorem b1E {es : Array (Int × Value)} {t : SetTable} {order : Array Nat} {S : List Nat} {Q : Array (Int × Value) × SetTable -> Shared -> Prop} (hE' : Es (order.filterMap (es[·]?)) S) (hz : es.size = S.length) (h : Q (order.filterMap (es[·]?), t) s) :
  wpAny (model prog w) A (b6X es (some (t, order))) Q E s := by
 unfold b6X
 dsimp only
 have e : ((order.filterMap (es[·]?)).size != es.size) = false := by rw [hE'.len, hz]; simp
 simp only [e, Bool.false_eq_true, if_false]
 first | exact wpAny_bind (wpAny_pure (wpAny_pure h)) | exact wpAny_pure h
theorem b6Z {n : Nat} (h : n <= 64) : SetTable.sizeAbove n <= 128 := by
 have : ∀ n, n <= 64 -> SetTable.sizeAbove n <= 128 := by decide +kernel
 exact this n h
theorem b9T {more : Nat} {Q : Unit -> Shared -> Prop} {B : Bool} (S : SetAt B s.heap a L) (hm : more <= 16)
  (h : ∀ h' es ep t L', Heap.SameBut a s.heap h' -> h'.get? a = some (setO es ep t) -> Es es L' -> Tb B t L' -> L'.Perm L -> (L.length + more) * 5 < t.mask * 3 -> Q () { s with heap := h' }) : wpAny (model prog w) A (setRoomFor a more) Q E s := by
 obtain ⟨es, ep, t, ho, hE, T⟩ := S
 unfold setRoomFor
 refine wpAny_bind (a1F ho hE T ?_)
 have fl : t.fill = L.length := by unfold SetTable.fill; rw [T.dm, T.sz]; rfl
 have l16 := T.len
 unfold SetTable.roomFor
 dsimp only
 rw [fl, T.sz]
 by_cases c : (L.length + more) * 5 ≥ t.mask * 3
 ·rw [if_pos c]
  dsimp only
  rw [b6Y]
  refine wpAny_bind (a1F ho hE T ?_)
  have five : 5 <= L.length + more := by
   rcases T.sh with ⟨m7, _⟩ | ⟨m15, _, _⟩ <;> omega
  have b1 := a4N (n := (L.length + more) * 2) (by omega)
  have b2 := a4O (n := (L.length + more) * 2) (by omega)
  have b3 := b6Z (n := (L.length + more) * 2) (by omega)
  dsimp only
  rw [if_neg (by rw [sizeLine_eq]; omega)]
  have hm' : 15 <= SetTable.sizeAbove ((L.length + more) * 2) - 1 := by omega
  obtain ⟨order, e, hE', hc⟩ := b0D (f := t.finger) (mv := t.movedTo (SetTable.sizeAbove ((L.length + more) * 2) - 1)) (led := t.led) (plain := t.plain) hm' hE T.nd T.lt
  unfold SetTable.relaid
  rw [e]
  have lz := b4Z T.lt hm' T.nd
  refine wpAny_bind (b1E hE' (by rw [hE.len, lz]) ?_)
  refine wpAny_storeSet_of ho rfl ?_ (by rw [hE'.len, lz, sizeLine_eq]; omega)
  have T' := b0E (B := B) (f := t.finger) (mv := t.movedTo (SetTable.sizeAbove ((L.length + more) * 2) - 1)) hm' T.nd T.lt (by omega)
  rw [<- T.led, <- T.pl] at T'
  exact h _ _ _ _ _ (Heap.SameBut.update ..) (a4G ho) hE' T' (a3O (fun v hv => by have := T.lt v hv; omega) T.nd) (by show _ < (SetTable.sizeAbove ((L.length + more) * 2) - 1) * 3; omega)
 ·rw [if_neg c]
  refine wpAny_pure ?_
  exact h s.heap es ep t L (Heap.SameBut.refl a s.heap) ho hE T .rfl (by omega)
end
end Sm
set_option maxHeartbeats 2000000
namespace Sm
open PySem
theorem b7A (sA oA : Addr) (each : Sem Unit) : setMerge sA oA each = (do
 if sA == oA then return
 let (eo, epoch, to) <- setState oA
 if eo.isEmpty then return
 setRoomFor sA eo.size
 let (_, _, ts) <- setState sA
 match ts.road to with
 | .slotForSlot =>
  storeSet sA eo { to with finger := ts.finger, led := ts.led && to.led, moves := ts.moves, plain := ts.plain && to.plain }
 | .clean =>
  let (es, t) <- b6X eo (SetTable.laid ts.mask ts.finger ts.moves (ts.led && to.led) (ts.plain && to.plain) (eo.map (·.1)))
  storeSet sA es t
 | .oneByOne =>
  for (h, x) in <- setWalkUnseen oA [sA] (some sA) do
   let _ <- holding [x] (setAddHashed sA x h)
   each
   if (<- setState oA).2.1 != epoch then unsupported "set.changed-during-merge") := rfl
section
variable {prog : Program} {w : World} {A : Around} {E : Value -> Shared -> Prop} {s : Shared} {sA oA : Addr} {L1 L2 : List Nat}
theorem b1F {each : Sem Unit} {Q : Unit -> Shared -> Prop} (ne : sA ≠ oA) (S1 : SetAt (byT w) s.heap sA L1) (S2 : SetAt (byT w) s.heap oA L2) (D : Dense s.heap oA)
  (he : ∀ (s' : Shared) (Q' : Unit -> Shared -> Prop), (∀ o, s.heap.get? oA = some o -> s'.heap.get? oA = some o) -> Q' () s' -> wpAny (model prog w) A each Q' E s')
  (h : ∀ h' L, Heap.SameBut sA s.heap h' -> SetAt (byT w) h' sA L -> (∀ u, u ∈ L ↔ u ∈ L1 \/ u ∈ L2) -> Q () { s with heap := h' }) : wpAny (model prog w) A (setMerge sA oA each) Q E s := by
 obtain ⟨eo, ep, to, ho, hE, T⟩ := S2
 rw [b7A]
 have nb : (sA == oA) = false := beq_eq_false_iff_ne.mpr ne
 rw [nb]
 simp only [Bool.false_eq_true, if_false]
 refine wpAny_bind (a1F ho hE T ?_)
 dsimp only
 have hz := hE.len
 have l16 := T.len
 by_cases c : eo.isEmpty = true
 ·rw [if_pos c]
  have l0 : L2.length = 0 := by rw [<- hz]; simpa using c
  have : L2 = [] := List.length_eq_zero_iff.mp l0
  subst this
  exact wpAny_pure (h s.heap L1 (Heap.SameBut.refl _ _) S1 fun u => by simp)
 rw [if_neg c]
 refine wpAny_bind (b9T S1 (by omega) fun h1 es1 ep1 t1 L1' sb1 ho1 hE1 T1 pm hr => ?_)
 have ho' : h1.get? oA = some (setO eo ep to) := by rw [sb1.2 oA (Ne.symm ne)]; exact ho
 refine wpAny_bind (a1F (s := { s with heap := h1 }) ho1 hE1 T1 ?_)
 dsimp only
 have fl : t1.fill = L1'.length := by unfold SetTable.fill; rw [T1.dm, T1.sz]; rfl
 unfold SetTable.road
 rw [fl, pm.length_eq]
 have ld : (t1.led && to.led) = !byT w := by rw [T1.led, T.led]; simp
 have pl : (t1.plain && to.plain) = true := by rw [T1.pl, T.pl]; rfl
 by_cases e0 : L1.length = 0
 ·have n1 : L1 = [] := List.length_eq_zero_iff.mp e0
  have nb : (L1.length != 0) = false := by rw [e0]; rfl
  rw [nb]
  simp only [Bool.false_eq_true, if_false]
  have dmt : to.dummies.isEmpty = true := by rw [T.dm]; rfl
  by_cases em : t1.mask = to.mask
  ·have : (t1.mask == to.mask && to.dummies.isEmpty) = true := by rw [em, dmt]; simp
   rw [this]
   simp only [if_true]
   refine wpAny_storeSet_of (s := { s with heap := h1 }) ho1 rfl ?_ (by rw [hz, sizeLine_eq]; omega)
   refine h _ L2 (sb1.trans (Heap.SameBut.update ..)) ⟨eo, _, _, a4G ho1, hE, ⟨T.dm, pl, ld, T.up, T.sz, T.nd, T.lt, T.sh⟩⟩ fun u => by rw [n1]; simp
  ·have : (t1.mask == to.mask && to.dummies.isEmpty) = false := by rw [beq_eq_false_iff_ne.mpr em]; rfl
   rw [this]
   simp only [Bool.false_eq_true, if_false]
   have m15 : 15 <= t1.mask := by
    obtain ⟨es0, ep0, t0, ho0, d⟩ := D
    rw [ho] at ho0
    cases ho0
    rcases T1.sh with ⟨m7, _⟩ | ⟨m15, _⟩
    ·rw [m7] at hr
     rcases d with d | d
     ·exact absurd (m7.trans d.symm) em
     ·rw [hz] at hr; omega
    ·exact m15
   obtain ⟨order, e, hE', hc⟩ := b0D (f := t1.finger) (mv := t1.moves) (led := t1.led && to.led) (plain := t1.plain && to.plain) m15 hE T.nd T.lt
   rw [e]
   have lz := b4Z T.lt m15 T.nd
   refine wpAny_bind (b1E hE' (by rw [hz, lz]) ?_)
   refine wpAny_storeSet_of (s := { s with heap := h1 }) ho1 rfl ?_ (by rw [hE'.len, lz, sizeLine_eq]; omega)
   have T' := b0E (B := byT w) (f := t1.finger) (mv := t1.moves) m15 T.nd T.lt (by rw [hz] at hr; omega)
   rw [<- ld, <- pl] at T'
   refine h _ _ (sb1.trans (Heap.SameBut.update ..)) ⟨_, _, _, a4G ho1, hE', ?_⟩ fun u => ?_
   ·rw [ld] at T' ⊢
    exact T'
   ·rw [n1, a5F (fun v hv => by have := T.lt v hv; omega)]; simp
 ·have nb : (L1.length != 0) = true := by simp [e0]
  rw [nb]
  simp only [if_true]
  refine wpAny_bind (b5C (s := { s with heap := h1 }) ho' hE T fun es' pe => ?_)
  obtain ⟨R, hR, pR⟩ := hE.perm pe
  refine wpAny_bind ?_
  rw [<- Array.forIn_toList]
  refine wpAny_forIn_list _ (fun rest _ s' => ∃ h' L R, s' = { s with heap := h' } /\ Heap.SameBut sA s.heap h' /\ SetAt (byT w) h' sA L /\ Paired (fun (e : Int × Value) (v : Nat) => e.1 = ((v : Nat) : Int) /\ ∃ tk, e.2 = Value.int ((v : Nat) : Int) tk) rest R /\
   (∀ v ∈ R, v < 16) /\ ∀ u, (u ∈ L \/ u ∈ R) ↔ (u ∈ L1 \/ u ∈ L2)) _ ?_ ?_ _ _ ⟨h1, L1', R, rfl, sb1, ⟨es1, ep1, t1, ho1, hE1, T1⟩, hR, fun v hv => T.lt v (pR.mem_iff.mp hv), fun u => by rw [pm.mem_iff, pR.mem_iff]⟩
  ·rintro ⟨hh, x⟩ rest b s' ⟨h', L, R', rfl, sb, S, hP, lt, mem⟩
   cases hP with
   | @cons _ v _ R'' r t =>
    obtain ⟨e1, tk, e2⟩ := r
    dsimp only at e1 e2
    subst e1; subst e2
    dsimp only
    refine wpAny_bind (wpAny_holding (b8L (s := { s with heap := h' }) S (lt v List.mem_cons_self) fun b2 h2 L' sb2 S' mem' _ => ?_))
    have sb3 := sb.trans sb2
    have oo : h2.get? oA = some (setO eo ep to) := by rw [sb3.2 oA (Ne.symm ne)]; exact ho
    refine wpAny_bind (he _ _ (fun o q => by rw [ho] at q; cases q; exact oo) ?_)
    refine wpAny_bind (a1F (s := { s with heap := h2 }) oo hE T ?_)
    simp only [bne_self_eq_false, Bool.false_eq_true, if_false]
    refine wpAny_pure ⟨h2, L', R'', rfl, sb3, S', t, fun u hu => lt u (List.mem_cons_of_mem _ hu), fun u => ?_⟩
    rw [mem' u, <- mem u, List.mem_cons]
    constructor
    ·rintro ((q | q) | q)
     ·exact .inr (.inl q)
     ·exact .inl q
     ·exact .inr (.inr q)
    ·rintro (q | q | q)
     ·exact .inl (.inr q)
     ·exact .inl (.inl q)
     ·exact .inr q
  ·rintro b s' ⟨h', L, R', rfl, sb, S, hP, lt, mem⟩
   cases hP
   exact wpAny_pure (h h' L sb S fun u => by rw [<- mem u]; simp)
end
end Sm
set_option maxHeartbeats 2000000
namespace Sm
open PySem PySem.Builtin.Frozenset
theorem b5D : isSubtype (.type "set") (.type "set") = pure true := by rw [isSubtype_type]; kernel_rfl
theorem b7B : entryFor table "set.__or__" = some Builtin.«frozenset.__or__» := entryFor_alias (id' := "frozenset.__or__") (by kernel_rfl) rfl (by decide +kernel) (by kernel_rfl)
theorem b2N : entryFor table "set.__iter__" = some Builtin.«frozenset.__iter__» := entryFor_alias (id' := "frozenset.__iter__") (by kernel_rfl) rfl (by decide +kernel) (by kernel_rfl)
def b1G (id : String) (l : Addr) (r : Value) : Sem Value := do
 let result <- copyOf l
 if r != .ref l then
  let q <- addrOf result
  holding [result] (updateFrom id q r)
 return result
theorem c4G (x y : Value) : Builtin.«frozenset.__or__» ⟨[x, y], []⟩ = (do
 let (self, other) <- slot1 "__or__" ⟨[x, y], []⟩
 if !(<- isAnySet self <&&> isAnySet other) then
  rule s!"frozenset.{"__or__"}.declined"
  return <- ret .notImplemented
 ret (<- b1G s!"frozenset.{"__or__"}" (<- addrOf self) other)) := rfl
section
variable {prog : Program} {w : World} {A : Around} {E : Value -> Shared -> Prop} {s : Shared} {a b : Addr} {L1 L2 : List Nat}
theorem b1H (B : Bool) : Tb B (.fresh 0 0 (!B)) [] := ⟨rfl, rfl, rfl, .nil, rfl, .nil, fun v h => by simp at h, .inl ⟨rfl, by simp⟩⟩
theorem c2I {Q : Value -> Shared -> Prop} (h : Q (.ref s.heap.objs.size) { s with heap := s.heap.push (setO #[] 0 (.fresh 0 0 (!byT w))) }) : wpAny (model prog w) A (newSet (.type "set")) Q E s := by
 unfold newSet
 refine wpAny_bind (a2M ?_)
 dsimp only
 simp only [newObj]
 exact wpAny_bind (wpAny_alloc (wpAny_pure h))
theorem SetAt.type {B : Bool} (S : SetAt B s.heap a L1) : s.TypeIs (.ref a) "set" := let ⟨_, _, _, ho, _⟩ := S; ⟨_, ho, rfl⟩
theorem b5E {B : Bool} {Q : Bool -> Shared -> Prop} (S : SetAt B s.heap a L1) (h : Q true s) : wpAny (model prog w) A (isAnySet (.ref a)) Q E s := by
 unfold isAnySet orM
 refine wpAny_bind (wpAny_isInstance S.type b5D ?_)
 exact wpAny_pure h
theorem b9U {Q : Value -> Shared -> Prop} (S : SetAt (byT w) s.heap a L1) (D : Dense s.heap a)
  (h : ∀ h' L, (∀ b o, s.heap.get? b = some o -> h'.get? b = some o) -> SetAt (byT w) h' s.heap.objs.size L -> (∀ u, u ∈ L ↔ u ∈ L1) -> Q (.ref s.heap.objs.size) { s with heap := h' }) : wpAny (model prog w) A (copyOf a) Q E s := by
 unfold copyOf baseOf
 refine wpAny_bind (wpAny_bind (wpAny_isInstance S.type b5D (wpAny_pure ?_)))
 simp only [if_true]
 refine wpAny_bind (c2I ?_)
 show wpAny _ _ (do setMerge s.heap.objs.size a; pure (Value.ref s.heap.objs.size)) _ _ _
 have lt : a < s.heap.objs.size := by
  obtain ⟨_, _, _, ho, _⟩ := S
  exact Heap.lt_size ho
 have k : ∀ b o, s.heap.get? b = some o -> (s.heap.push (setO #[] 0 (.fresh 0 0 (!byT w)))).get? b = some o := fun b o e => Heap.get?_push_of_some _ e
 refine wpAny_bind (b1F (s := { s with heap := s.heap.push (setO #[] 0 (.fresh 0 0 (!byT w))) }) (L1 := []) (Nat.ne_of_gt lt) ⟨#[], 0, _, Heap.get?_push_size _ rfl, .nil, b1H _⟩ (S.keep (k a)) (D.keep (k a)) (fun s' Q' _ q => wpAny_pure q) fun h' L sb S' mem => ?_)
 refine wpAny_pure (h h' L (fun b o e => ?_) S' fun u => by rw [mem u]; simp)
 have lb := Heap.lt_size e
 rw [sb.2 b (Nat.ne_of_lt lb)]
 exact k b o e
theorem a7M {es : Array (Int × Value)} {ep : Nat} {t : SetTable} {B : Bool} {Q : Nat -> Shared -> Prop} (ho : s.heap.get? a = some (setO es ep t)) (hE : Es es L1) (T : Tb B t L1) (h : Q ep s) : wpAny (model prog w) A (setEpoch a) Q E s :=
 wpAny_setEpoch_of ho rfl (by rw [hE.len]; exact T.fits) h
theorem b7C {id : String} {Q : Value -> Shared -> Prop} (ne : a ≠ b) (S1 : SetAt (byT w) s.heap a L1) (D1 : Dense s.heap a) (S2 : SetAt (byT w) s.heap b L2) (D2 : Dense s.heap b)
  (h : ∀ h' L, (∀ b o, s.heap.get? b = some o -> h'.get? b = some o) -> SetAt (byT w) h' s.heap.objs.size L -> (∀ u, u ∈ L ↔ u ∈ L1 \/ u ∈ L2) -> Q (.ref s.heap.objs.size) { s with heap := h' }) :
  wpAny (model prog w) A (b1G id a (.ref b)) Q E s := by
 unfold b1G
 refine wpAny_bind (b9U S1 D1 fun h1 L k S mem => ?_)
 have nb : (Value.ref b != Value.ref a) = true := by simp [Ne.symm ne]
 rw [nb]
 simp only [if_true]
 have S2' := S2.keep (k b)
 have D2' := D2.keep (k b)
 have lt : b < s.heap.objs.size := by
  obtain ⟨_, _, _, ho, _⟩ := S2
  exact Heap.lt_size ho
 have S2c := S2'
 obtain ⟨es, ep, t, ho, hE, T⟩ := S2c
 show wpAny _ _ (holding [Value.ref s.heap.objs.size] (updateFrom id s.heap.objs.size (.ref b)) >>= fun _ => pure (Value.ref s.heap.objs.size)) _ _ _
 refine wpAny_bind (wpAny_holding ?_)
 unfold updateFrom
 refine wpAny_bind (b5E (s := { s with heap := h1 }) S2' ?_)
 simp only [if_true]
 show wpAny _ _ (merge id s.heap.objs.size b) _ _ _
 unfold merge
 refine wpAny_bind (a7M (s := { s with heap := h1 }) ho hE T ?_)
 refine b1F (s := { s with heap := h1 }) (Nat.ne_of_gt lt) S S2' D2' (fun s' Q' ks q => ?_) fun h' L' sb S' mem' => ?_
 ·unfold unchanged
  refine wpAny_bind (a7M (s := s') (ks _ ho) hE T ?_)
  simp only [bne_self_eq_false, Bool.false_eq_true, if_false]
  exact wpAny_pure q
 ·refine wpAny_pure (h h' L' (fun c o e => ?_) S' fun u => by rw [mem' u, mem u])
  rw [sb.2 c (Nat.ne_of_lt (Heap.lt_size e))]
  exact k c o e
theorem c4H {Q : Value -> Shared -> Prop} (ne : a ≠ b) (S1 : SetAt (byT w) s.heap a L1) (D1 : Dense s.heap a) (S2 : SetAt (byT w) s.heap b L2) (D2 : Dense s.heap b)
  (h : ∀ h' L, (∀ b o, s.heap.get? b = some o -> h'.get? b = some o) -> SetAt (byT w) h' s.heap.objs.size L -> (∀ u, u ∈ L ↔ u ∈ L1 \/ u ∈ L2) -> Q (.ref s.heap.objs.size) { s with heap := h' }) :
  wpAny (model prog w) A (binaryOp .BitOr (.ref a) (.ref b)) Q E s := by
 refine wpAny_binaryOp_same S1.type S2.type F.fills_set_or F.slot_set_or (wpAny_call_entry F.slot_set_or S1.type b7B ?_ (F.args_set_or_2 _ _))
 rw [c4G]
 refine wpAny_bind (m := slot1 "__or__" _) (wpAny_pure ?_)
 dsimp only
 unfold andM
 refine wpAny_bind (wpAny_bind (b5E S1 ?_))
 refine b5E S2 ?_
 simp only [Bool.not_true, Bool.false_eq_true, if_false]
 show wpAny _ _ (b1G _ a (.ref b) >>= fun v => ret v) _ _ _
 refine wpAny_bind (b7C ne S1 D1 S2 D2 fun h' L k S mem => ?_)
 exact wpAny_pure ⟨_, rfl, by simp, h h' L k S mem⟩
end
end Sm
set_option maxHeartbeats 4000000
namespace Sm
open PySem
theorem slot_si_next : Slot "set_iterator" "__next__" "set_iterator.__next__" := .of (owner := "set_iterator") (n := "__next__") (by rw [typeLookup_type, builtinLookup_eq_fast]; kernel_rfl) (by decide +kernel) (by decide +kernel) (by decide +kernel) (by first | exact .inl (by decide +kernel) | exact .inr (by decide +kernel)) (by rw [isSubtype_type]; kernel_rfl)
theorem a3P : entryFor table "set_iterator.__next__" = some Builtin.«set_iterator.__next__» := entryFor_of_fast (by kernel_rfl)
theorem a4P (a : Value) : argsOk "set_iterator.__next__" ⟨[a], []⟩ := by unfold argsOk; kernel_rfl
theorem a4Q : Slot "set_iterator" "__iter__" "set_iterator.__iter__" := .of (owner := "set_iterator") (n := "__iter__") (by rw [typeLookup_type, builtinLookup_eq_fast]; kernel_rfl) (by decide +kernel) (by decide +kernel) (by decide +kernel) (by first | exact .inl (by decide +kernel) | exact .inr (by decide +kernel)) (by rw [isSubtype_type]; kernel_rfl)
theorem a8Y (a : Value) : argsOk "set_iterator.__iter__" ⟨[a], []⟩ := by unfold argsOk; kernel_rfl
end Sm
set_option maxHeartbeats 4000000
namespace Sm
open PySem
theorem a7N : entryFor table "set_iterator.__iter__" = some Builtin.«dict_keyiterator.__iter__» := entryFor_alias (id' := "dict_keyiterator.__iter__") (by kernel_rfl) rfl (by decide +kernel) (by kernel_rfl)
def a1I (w : World) (a : Addr) (ep : Nat) (es : Array (Int × Value)) : Array (Int × Value) := if byT w = true then pickOrder (w.params.setOrder a ep) es else es
theorem a5T (w : World) (a : Addr) (ep : Nat) (es : Array (Int × Value)) : (a1I w a ep es).toList.Perm es.toList := by
 unfold a1I
 split
 ·exact a8X _ _
 ·exact .rfl
theorem a2C (w : World) (a : Addr) (ep : Nat) (es : Array (Int × Value)) : (a1I w a ep es).size = es.size := by
 have := (a5T w a ep es).length_eq
 simpa using this
theorem b9V (a : Addr) (slot given epochThen : Nat) : setNext a slot given epochThen = (do
 let (xs, c, tb) <- setState a
 if <- setsByText then
  if c != epochThen then
   unsupported "set_iterator.__next__:elements-changed"
  let zs <- setWalk a
  return (zs[given]?).map fun z => (z.2, slot)
 if !tb.plain && xs.size > 1 then
  unsupported "set_iterator.__next__:the-table-is-plain-no-more"
 (do if !tb.led && !xs.isEmpty then unsupported "set:maker-not-led" : Sem Unit)
 return match xs[SetTable.below tb.place slot]?, tb.place[SetTable.below tb.place slot]? with
  | some (_, z), some m => some (z, m + 1)
  | _, _ => none) := rfl
def a2E (B : Bool) (t : SetTable) (i : Nat) : Nat := if B = true then 0 else if i = 0 then 0 else t.place.getD (i - 1) 0 + 1
theorem b2O {B : Bool} {t : SetTable} {L : List Nat} (T : Tb B t L) (hB : B = false) : ∀ i, i <= L.length -> SetTable.below t.place (a2E B t i) = i
 | 0, _ => by
  unfold a2E
  rw [hB]
  exact b2L T.up
 | k + 1, h => by
  unfold a2E
  rw [hB]
  have hk : k < t.place.size := by rw [T.sz]; omega
  simp only [Bool.false_eq_true, if_false, Nat.add_sub_cancel]
  rw [if_neg (by omega)]
  have : t.place.getD k 0 = t.place[k] := by simp [Array.getD, hk]
  rw [this]
  exact b2M T.up hk
section
variable {prog : Program} {w : World} {A : Around} {E : Value -> Shared -> Prop} {s : Shared} {a : Addr} {L : List Nat}
theorem b9W {es : Array (Int × Value)} {ep : Nat} {t : SetTable} {Q : Array (Int × Value) -> Shared -> Prop} (ho : s.heap.get? a = some (setO es ep t)) (hE : Es es L) (T : Tb (byT w) t L)
  (h : Q (a1I w a ep es) s) : wpAny (model prog w) A (setWalk a) Q E s := by
 rw [b5B]
 refine wpAny_bind (a1F ho hE T ?_)
 refine wpAny_bind (a2M ?_)
 have pl := T.pl
 have ld := T.led
 unfold a1I at h
 cases c : byT w with
 | true =>
  rw [c] at h
  simp only [if_true] at h ⊢
  exact wpAny_bind (wpAny_askSetting (wpAny_pure h))
 | false =>
  rw [c] at ld h
  simp only [pl, ld, Bool.not_true, Bool.not_false, Bool.false_and, Bool.false_eq_true, if_false] at h ⊢
  first | exact wpAny_bind (wpAny_pure (wpAny_pure h)) | exact wpAny_pure h
theorem b1I {es : Array (Int × Value)} {ep i : Nat} {t : SetTable} {Q : Option (Value × Nat) -> Shared -> Prop} (ho : s.heap.get? a = some (setO es ep t)) (hE : Es es L) (T : Tb (byT w) t L) (hi : i <= L.length)
  (h : Q (((a1I w a ep es)[i]?).map fun e => (e.2, a2E (byT w) t (i + 1))) s) : wpAny (model prog w) A (setNext a (a2E (byT w) t i) i ep) Q E s := by
 rw [b9V]
 refine wpAny_bind (a1F ho hE T ?_)
 refine wpAny_bind (a2M ?_)
 have pl := T.pl
 have ld := T.led
 cases c : byT w with
 | true =>
  simp only [if_true, bne_self_eq_false, Bool.false_eq_true, if_false]
  refine wpAny_bind (b9W ho hE T (wpAny_pure ?_))
  rw [c] at h
  unfold a2E at h ⊢
  simp only [if_true] at h ⊢
  exact h
 | false =>
  rw [c] at ld h
  simp only [pl, ld, Bool.not_true, Bool.not_false, Bool.false_and, Bool.false_eq_true, if_false]
  have bs := b2O T c i hi
  rw [c] at bs
  rw [bs]
  have wk : a1I w a ep es = es := by unfold a1I; rw [c]; rfl
  rw [wk] at h
  have e : (match es[i]?, t.place[i]? with
   | some (_, z), some m => some (z, m + 1)
   | _, _ => none) = (es[i]?).map fun e => (e.2, a2E false t (i + 1)) := by
   by_cases q : i < L.length
   ·have h1 : i < es.size := by rw [hE.len]; exact q
    have h2 : i < t.place.size := by rw [T.sz]; exact q
    rw [Array.getElem?_eq_getElem h1, Array.getElem?_eq_getElem h2]
    unfold a2E
    simp [Array.getD, h2]
   ·have h1 : es[i]? = none := Array.getElem?_eq_none (by rw [hE.len]; omega)
    rw [h1]
    rfl
  first
  | exact wpAny_bind (wpAny_pure (wpAny_pure (by rw [e]; exact h)))
  | exact wpAny_pure (by rw [e]; exact h)
abbrev itO (sl i : Nat) (a : Addr) (n ep : Nat) : Obj := { cls := .type "set_iterator", dict := none, data := .fields #[.int (sl : Nat) 0, .int (i : Nat) 0, .ref a, .int (n : Nat) 0, .int (ep : Nat) 0], slots := #[] }
theorem b9X {I : Addr} {es : Array (Int × Value)} {ep i : Nat} {t : SetTable} {e : Int × Value} {Q : Option Value -> Shared -> Prop} (ne : a ≠ I) (ho : s.heap.get? a = some (setO es ep t)) (hE : Es es L) (T : Tb (byT w) t L)
  (hI : s.heap.get? I = some (itO (a2E (byT w) t i) i a L.length ep)) (hw : (a1I w a ep es)[i]? = some e)
  (h : ∀ h', h'.get? I = some (itO (a2E (byT w) t (i + 1)) (i + 1) a L.length ep) -> Heap.SameBut I s.heap h' -> Q (some e.2) { s with heap := h' }) : wpAny (model prog w) A (pyNext (.ref I)) Q E s := by
 have hi : i < L.length := by
  rcases Nat.lt_or_ge i (a1I w a ep es).size with q | q
  ·rw [a2C, hE.len] at q; exact q
  ·rw [Array.getElem?_eq_none q] at hw; cases hw
 have hT : s.TypeIs (.ref I) "set_iterator" := ⟨_, hI, rfl⟩
 unfold pyNext
 refine wpAny_bind (wpAny_attempt (wpAny_callSpecial?_slot (name := Str.ofString "__next__") hT slot_si_next (wpAny_call_entry slot_si_next hT a3P ?_ (a4P _))))
 unfold Builtin.«set_iterator.__next__»
 refine wpAny_bind (m := slotArgs "__next__" 0 _) (wpAny_pure ?_)
 dsimp only
 refine wpAny_bind (wpAny_fieldsOf hI rfl ?_)
 dsimp only
 unfold setEntries
 refine wpAny_bind (wpAny_bind (a1F ho hE T (wpAny_pure ?_)))
 have z : (((es.size : Nat) : Int) != ((L.length : Nat) : Int)) = false := by rw [hE.len]; simp
 dsimp only
 rw [z]
 simp only [Bool.false_eq_true, if_false, Int.toNat_natCast]
 refine wpAny_bind (b1I ho hE T (by omega) ?_)
 rw [hw]
 dsimp only [Option.map]
 refine wpAny_bind (wpAny_setField_rec hI (by simp) fun h1 hI1 sb1 => ?_)
 refine wpAny_bind (wpAny_setField_rec (s := { s with heap := h1 }) hI1 (by simp) fun h2 hI2 sb2 => ?_)
 refine wpAny_pure ⟨_, rfl, wpAny_pure (h h2 ?_ (sb1.trans sb2))⟩
 rw [hI2]
 simp [rawInt]
theorem c2J {I : Addr} {es : Array (Int × Value)} {ep : Nat} {t : SetTable} {Q : Option Value -> Shared -> Prop} (hh : A.handled = none) (ne : a ≠ I) (ho : s.heap.get? a = some (setO es ep t)) (hE : Es es L) (T : Tb (byT w) t L)
  (hI : s.heap.get? I = some (itO (a2E (byT w) t L.length) L.length a L.length ep))
  (h : ∀ h', Heap.ExtBut I s.heap h' -> Q none { s with heap := h' }) : wpAny (model prog w) A (pyNext (.ref I)) Q E s := by
 have hT : s.TypeIs (.ref I) "set_iterator" := ⟨_, hI, rfl⟩
 unfold pyNext
 refine wpAny_bind (wpAny_attempt (wpAny_callSpecial?_slot (name := Str.ofString "__next__") hT slot_si_next (wpAny_call_entry slot_si_next hT a3P ?_ (a4P _))))
 unfold Builtin.«set_iterator.__next__»
 refine wpAny_bind (m := slotArgs "__next__" 0 _) (wpAny_pure ?_)
 dsimp only
 refine wpAny_bind (wpAny_fieldsOf hI rfl ?_)
 dsimp only
 unfold setEntries
 refine wpAny_bind (wpAny_bind (a1F ho hE T (wpAny_pure ?_)))
 have z : (((es.size : Nat) : Int) != ((L.length : Nat) : Int)) = false := by rw [hE.len]; simp
 dsimp only
 rw [z]
 simp only [Bool.false_eq_true, if_false, Int.toNat_natCast]
 refine wpAny_bind (b1I ho hE T (by omega) ?_)
 rw [Array.getElem?_eq_none (by rw [a2C, hE.len]; exact Nat.le_refl _)]
 dsimp only [Option.map]
 refine wpAny_bind (wpAny_setField_rec hI (by simp) fun h1 hI1 sb1 => ?_)
 refine wpAny_bind ?_
 simp only [newExc, newTuple]
 refine wpAny_bind (wpAny_newObj_type ?_ (by size_fits))
 refine wpAny_bind (m := firstArgMember _ _) (wpAny_of_eq (a := Value.none) (by first | rfl | (simp only [firstArgMember]; rfl)) ?_); refine wpAny_newObj_type ?_ (by size_fits)
 simp only [raiseNew]
 refine wpAny_bind (wpAny_handled ?_)
 rw [show A.in1.handled = none from hh]; refine wpAny_bind (wpAny_pure (wpAny_throw ?_))
 refine wpAny_bind (wpAny_isInstance (U := "StopIteration") (T := "StopIteration") (b := true) ⟨_, Heap.get?_push_size _ rfl, rfl⟩ isSubtype_stop ?_)
 exact wpAny_pure (h _ ((sb1.extBut.push _).push _))
end
end Sm
set_option maxHeartbeats 4000000
namespace Sm
open PySem PyProof.Rows
section
variable {prog : Program} {w : World} {A : Around} {E : Value -> Shared -> Prop} {s : Shared} {a : Addr} {L : List Nat}
theorem c2K {I : Addr} {es : Array (Int × Value)} {ep : Nat} {t : SetTable} (hh : A.handled = none) (ne : a ≠ I) (hE : Es es L) (T : Tb (byT w) t L) :
  Walks prog w A I [I, a] [I] L.length (fun i v => ∃ e, (a1I w a ep es)[i]? = some e /\ v = e.2)
   (fun i h => h.get? I = some (itO (a2E (byT w) t i) i a L.length ep) /\ h.get? a = some (setO es ep t)) where
 sub := fun b hb => by simp at hb; simp [hb]
 frame := fun _ _ _ st hk => ⟨hk I (by simp) _ st.1, hk a (by simp) _ st.2⟩
 item := fun i s Q E hi st hQ => by
  obtain ⟨e, he⟩ : ∃ e, (a1I w a ep es)[i]? = some e := ⟨_, Array.getElem?_eq_getElem (by rw [a2C, hE.len]; exact hi)⟩
  refine b9X ne st.2 hE T st.1 he fun h' hI sb => ?_
  exact hQ _ h' s.toks ⟨e, he, rfl⟩ ⟨hI, by rw [sb.2 a ne]; exact st.2⟩ fun b o hb q => by rw [sb.2 b (fun c => hb (by simp [c]))]; exact q
 done := fun s Q E st hQ => c2J hh ne st.2 hE T st.1 fun h' xb => hQ h' s.toks fun b o hb q => xb b o (fun c => hb (by simp [c])) q
 self := fun i s Q E st hQ => by
  have hT : s.TypeIs (.ref I) "set_iterator" := ⟨_, st.1, rfl⟩
  refine wpAny_pyIter_slot hT a4Q (wpAny_call_entry a4Q hT a7N ?_ (a8Y _))
  show wpAny _ _ (ret (Value.ref I)) _ _ s; exact wpAny_pure ⟨_, rfl, "set_iterator", _, hT, slot_si_next.lookup, hQ⟩
theorem b7D (a : Addr) : setDrawn a = (do
 let (es, _, t) <- setState a
 let byText <- setsByText
 return !byText && (!t.plain && es.size > 1)) := rfl
theorem b9Y {es : Array (Int × Value)} {ep : Nat} {t : SetTable} {Q : Value -> Shared -> Prop} (ho : s.heap.get? a = some (setO es ep t)) (hE : Es es L) (T : Tb (byT w) t L)
  (h : Q (.ref s.heap.objs.size) { s with heap := s.heap.push (itO 0 0 a L.length ep) }) : wpAny (model prog w) A (pyIter (.ref a)) Q E s := by
 have hT : s.TypeIs (.ref a) "set" := ⟨_, ho, rfl⟩
 refine wpAny_pyIter_slot hT F.slot_set_iter (wpAny_call_entry F.slot_set_iter hT b2N ?_ (F.args_set_iter_1 _))
 unfold Builtin.«frozenset.__iter__»
 refine wpAny_bind (m := Builtin.Frozenset.slot0 _ _) (wpAny_pure ?_)
 unfold Builtin.Frozenset.sizeOf setEntries
 refine wpAny_bind (wpAny_bind (wpAny_bind (a1F ho hE T (wpAny_pure (wpAny_pure ?_)))))
 rw [b7D]
 refine wpAny_bind (wpAny_bind (a1F ho hE T ?_))
 refine wpAny_bind (a2M (wpAny_pure ?_))
 rw [T.pl]
 simp only [Bool.not_true, Bool.false_and, Bool.and_false, Bool.false_eq_true, if_false]
 refine wpAny_bind (wpAny_pure ?_)
 refine wpAny_bind (a7M ho hE T ?_)
 refine wpAny_bind ?_
 unfold newFields
 refine wpAny_newObj_type ?_
 refine wpAny_pure ⟨_, rfl, "set_iterator", _, ⟨_, Heap.get?_push_size _ rfl, rfl⟩, slot_si_next.lookup, ?_⟩
 rw [hE.len]
 exact h
theorem b9Z : (Value.type "set" == Value.type "list") = false := by decide
theorem c2L : (Value.type "set" == Value.type "tuple") = false := by decide
theorem b7E : typeLookup (.type "set") "__len__" = pure (some (.builtin "set.__len__")) := F.slot_set_len.lookup
theorem b5F : splitId "set.__len__" = some ("set", "__len__") := by decide +kernel
theorem b0F {es : Array (Int × Value)} {ep : Nat} {t : SetTable} {Q : List Value -> Shared -> Prop} (hh : A.handled = none) (ho : s.heap.get? a = some (setO es ep t)) (hE : Es es L) (T : Tb (byT w) t L)
  (h : ∀ (h' : Heap) (tk : Nat), (∀ b o, s.heap.get? b = some o -> h'.get? b = some o) -> s.heap.objs.size < h'.objs.size -> Q ((a1I w a ep es).toList.map (·.2)) { s with heap := h', toks := tk }) : wpAny (model prog w) A (collect (.ref a)) Q E s := by
 have lt : a < s.heap.objs.size := Heap.lt_size ho
 unfold collect
 refine wpAny_bind (wpAny_runValue (codeAny_builtin F.entry_proto_collect ?_))
 rw [Around.under_plainId F.plain_proto_collect _]
 show wpAny _ A.in1 (newList [] >>= fun l => again (.builtin "list.__iadd__" ⟨[l, .ref a], []⟩)) _ _ s
 refine wpAny_bind (wpAny_newObj_type (wpAny_pure ⟨plainId_quiet F.plain_list_iadd _, codeAny_builtin F.entry_list_iadd ?_⟩))
 rw [Around.under_plainId F.plain_list_iadd _]
 have S0 : (s.heap.push { cls := .type "list", data := .seq ([] : List Value).toArray }).get? s.heap.objs.size = some { cls := .type "list", data := .seq ([] : List Value).toArray } := Heap.get?_push_size _ rfl
 have ho1 : (s.heap.push { cls := .type "list", data := .seq ([] : List Value).toArray }).get? a = some (setO es ep t) := Heap.get?_push_of_some _ ho
 have hT1 : Shared.TypeIs { s with heap := s.heap.push { cls := .type "list", data := .seq ([] : List Value).toArray } } (.ref a) "set" := ⟨_, ho1, rfl⟩
 show wpAny _ A.in1 (Builtin.List.listExtendWith (.ref s.heap.objs.size) (.ref a) (.ref s.heap.objs.size)) _ _ { s with heap := s.heap.push { cls := .type "list", data := .seq ([] : List Value).toArray } }
 unfold Builtin.List.listExtendWith
 refine wpAny_bind (wpAny_typeOf hT1 ?_)
 have n1 : Builtin.List.listSameRef (.ref s.heap.objs.size) (.ref a) = false := by simp [Builtin.List.listSameRef, Nat.ne_of_gt lt]
 simp only [n1, b9Z, c2L, Bool.or_false, Bool.false_eq_true, if_false]
 refine wpAny_bind (b9Y ho1 hE T ?_)
 refine wpAny_bind (wpAny_holding ?_)
 have ho2 : ((s.heap.push { cls := .type "list", data := .seq ([] : List Value).toArray }).push (itO 0 0 a L.length ep)).get? a = some (setO es ep t) := Heap.get?_push_of_some _ ho1
 have hT2 : Shared.TypeIs { s with heap := (s.heap.push { cls := .type "list", data := .seq ([] : List Value).toArray }).push (itO 0 0 a L.length ep) } (.ref a) "set" := ⟨_, ho2, rfl⟩
 unfold Builtin.List.listLengthHint
 refine wpAny_bind (wpAny_specialOf hT2 b7E ?_)
 dsimp only
 rw [b5F]
 dsimp only
 refine wpAny_bind (wpAny_isInstance hT2 b5D ?_)
 rw [if_neg (by decide)]
 rw [if_pos (by decide +kernel)]
 refine wpAny_bind (wpAny_typeOf hT2 ?_)
 dsimp only
 refine wpAny_pure ?_
 rw [if_pos (by decide +kernel)]
 refine wpAny_bind (wpAny_rule ?_)
 have lsz : (s.heap.push { cls := .type "list", data := .seq ([] : List Value).toArray }).objs.size = s.heap.objs.size + 1 := size_push' _ _
 have S1 : ((s.heap.push { cls := .type "list", data := .seq ([] : List Value).toArray }).push (itO 0 0 a L.length ep)).get? s.heap.objs.size = some { cls := .type "list", data := .seq ([] : List Value).toArray } := Heap.get?_push_of_some _ S0
 refine wpAny_bind ?_
 show wpAny _ A.in1 (updateSeq s.heap.objs.size (·.push .none) >>= fun _ => updateSeq s.heap.objs.size (·.pop)) _ _ _
 refine wpAny_bind (wpAny_updateSeq S1 rfl ?_)
 have S2 := Heap.get?_update_self (Obj.mapSeq (·.push Value.none)) S1 rfl
 refine wpAny_updateSeq S2 rfl ?_
 have S3 := Heap.get?_update_self (Obj.mapSeq (·.pop)) S2 rfl
 have oth : ∀ b o, b ≠ s.heap.objs.size -> ((s.heap.push { cls := .type "list", data := .seq ([] : List Value).toArray }).push (itO 0 0 a L.length ep)).get? b = some o ->
   ((((s.heap.push { cls := .type "list", data := .seq ([] : List Value).toArray }).push (itO 0 0 a L.length ep)).update s.heap.objs.size (Obj.mapSeq (·.push Value.none))).update s.heap.objs.size (Obj.mapSeq (·.pop))).get? b = some o :=
  fun b o hb e => (Heap.get?_update_other _ _ (Ne.symm hb)).trans ((Heap.get?_update_other _ _ (Ne.symm hb)).trans e)
 have neI : a ≠ (s.heap.push { cls := .type "list", data := .seq ([] : List Value).toArray }).objs.size := by rw [lsz]; exact Nat.ne_of_lt (Nat.lt_succ_of_lt lt)
 have W := (c2K (prog := prog) (w := w) (A := A.in1) (I := (s.heap.push { cls := .type "list", data := .seq ([] : List Value).toArray }).objs.size) (ep := ep) (by simpa using hh) neI hE T).toS
 have l16 := T.len
 have sl0 : a2E (byT w) t 0 = 0 := by unfold a2E; split <;> rfl
 refine wpAny_pure ⟨plainId_quiet F.plain_extend_loop _, codeAny_extend_loopS W (by rw [sizeLine_eq]; omega) _ (by
   rw [lsz]; simp only [List.mem_cons, List.not_mem_nil, or_false, not_or]; exact ⟨Nat.ne_of_lt (Nat.lt_succ_self _), Nat.ne_of_gt lt⟩) _ _ 0 _ #[] _ rfl (Nat.zero_le _) ⟨?_, ?_⟩ S3 (ItemsOf.nil _) fun s' acc' c' hm hS' hacc => ?_⟩
 ·refine oth _ _ (by rw [lsz]; exact Nat.ne_of_gt (Nat.lt_succ_self _)) ?_
  rw [sl0]
  exact Heap.get?_push_size _ rfl
 ·exact oth _ _ (Nat.ne_of_lt lt) ho2
 ·obtain ⟨h', g', d', tk', os'⟩ := s'
  have eg : g' = s.gens := hm.gens
  have ed : d' = s.drawn := hm.drawn
  have eo : os' = s.os := hm.os
  subst eg; subst ed; subst eo
  show wpAny _ A (load s.heap.objs.size >>= _) _ _ _
  refine wpAny_bind (wpAny_load hS' ?_)
  dsimp only
  have el : acc'.toList = (a1I w a ep es).toList.map (·.2) := by
   apply List.ext_getElem?
   intro i
   rw [Array.getElem?_toList, List.getElem?_map, Array.getElem?_toList]
   rcases Nat.lt_or_ge i acc'.size with q | q
   ·obtain ⟨e, he, hv⟩ := hacc.2 i acc'[i] (Array.getElem?_eq_getElem q)
    rw [Array.getElem?_eq_getElem q, he, hv]
    rfl
   ·rw [Array.getElem?_eq_none q, Array.getElem?_eq_none (by rw [a2C, hE.len, <- hacc.1]; exact q)]
    rfl
  rw [el]
  refine wpAny_pure (h h' tk' (fun b o e => ?_) (Heap.lt_size hS'))
  have lb : b < s.heap.objs.size := Heap.lt_size e
  refine hm.heap b o (by rw [lsz]; simp only [List.mem_cons, List.not_mem_nil, or_false, not_or]; exact ⟨Nat.ne_of_lt lb, Nat.ne_of_lt (Nat.lt_succ_of_lt lb)⟩) (oth b o (Nat.ne_of_lt lb) (Heap.get?_push_of_some _ (Heap.get?_push_of_some _ e)))
theorem c2M {h : Heap} {a b : Addr} {vs : List Value} {out : Array Value} {o : Obj} (lb : b < h.objs.size) (ne : b ≠ a) (e : h.get? b = some o) : (sortedHeap h a vs out).get? b = some o := by
 unfold sortedHeap
 rw [Heap.get?_update_ne _ _ _ _ ne]
 exact Heap.get?_push_of_some _ (Heap.get?_push_of_some _ (by rw [Heap.get?_update_ne _ _ _ _ ne]; exact e))
theorem c4I {h : Heap} {a : Addr} {vs : List Value} {xs out : Array Value} {n : Nat} (e : h.get? a = some (seqObj "list" xs n)) : ∃ n', (sortedHeap h a vs out).get? a = some (seqObj "list" out n') := by
 unfold sortedHeap
 exact ⟨_, get?_update_seq (Heap.get?_push_of_some _ (Heap.get?_push_of_some _ (get?_update_seq e fun _ => #[]))) fun _ => out⟩
theorem b2P {Q : Value -> Shared -> Prop} (hh : A.handled = none) (S : SetAt (byT w) s.heap a L)
  (h : ∀ (h' : Heap) (tk : Nat) (p : Addr) (vs : List Value) (n : Nat) (ns : List Int), (∀ b o, s.heap.get? b = some o -> h'.get? b = some o) -> s.heap.objs.size <= p -> h'.get? p = some (seqObj "list" vs.toArray n) -> IntsAre vs ns ->
   ns.Perm (L.map fun v => ((v : Nat) : Int)) -> ns.Pairwise (· <= ·) -> Q (.ref p) { s with heap := h', toks := tk }) : wpAny (model prog w) A (call (.builtin "sorted") [.ref a]) Q E s := by
 obtain ⟨es, ep, t, ho, hE, T⟩ := S
 have l16 := T.len
 apply Calls.call_function_entry kind_sorted plain_sorted entry_sorted (args_sorted1 _)
 unfold Builtin.«sorted»
 refine wpAny_bind (m := checkCount "sorted" 1 1 _) (wpAny_pure ?_); refine wpAny_bind (b0F (by simpa using hh) ho hE T fun h1 tk k lz => ?_)
 obtain ⟨L', hP, pm⟩ := hE.perm (a5T w a ep es)
 have hl : L'.length = L.length := pm.length_eq
 have hI : IntsAre ((a1I w a ep es).toList.map (·.2)) (L'.map fun v => ((v : Nat) : Int)) := by
  generalize (a1I w a ep es).toList = l at hP
  clear pm hl
  induction hP with
  | nil => exact .nil
  | cons r _ ih =>
   obtain ⟨q, e⟩ := r.2
   rw [List.map_cons, List.map_cons, e]
   exact .cons _ q ih
 have hn : ((a1I w a ep es).toList.map (·.2)).length = L.length := by rw [List.length_map, Array.length_toList, a2C, hE.len]
 refine wpAny_bind (wpAny_newList ?_ (by rw [hn, sizeLine_eq]; omega))
 have o1 : (h1.push (seqObj "list" ((a1I w a ep es).toList.map (·.2)).toArray 0)).get? h1.objs.size = some (seqObj "list" ((a1I w a ep es).toList.map (·.2)).toArray 0) := Heap.get?_push_size _ rfl
 refine wpAny_bind (wpAny_holding (wpAny_call_entry slot_list_sort ⟨_, o1, rfl⟩ entry_list_sort (list_sort_tree o1 hI (by rw [hn]; omega) fun out ns a1 a2 a3 => ⟨_, rfl, ?_⟩) (args_list_sort _)))
 obtain ⟨n', o2⟩ := c4I (vs := (a1I w a ep es).toList.map (·.2)) (out := out) o1
 refine wpAny_pure ⟨_, rfl, h _ _ _ out.toList n' ns (fun b o e => ?_) (Nat.le_of_lt lz) (by simpa using o2) a1 (a2.trans (pm.map _)) a3⟩
 have lb : b < h1.objs.size := Nat.lt_trans (Heap.lt_size e) lz
 exact c2M (by rw [size_push']; exact Nat.lt_succ_of_lt lb) (Nat.ne_of_lt lb) (Heap.get?_push_of_some _ (k b o e))
end
end Sm
set_option maxHeartbeats 4000000
namespace Sm
open PySem PyProof.Rows
section
variable {prog : Program} {w : World} {A : Around} {R : Result -> Shared -> Prop} {I : Addr} {fp wr : List Addr} {G : Array GenState -> Array GenState -> Prop} {n : Nat} {P : Nat -> Value -> Prop} {St : Nat -> Shared -> Prop}
theorem c0A (W : WalksS prog w A.in1 I fp wr G n P St) (S : Addr) (nf : S ∉ fp) (val : Nat -> Nat) (hv : ∀ i v, i < n -> P i v -> ∃ t, v = .int ((val i : Nat) : Int) t) (lt : ∀ i, i < n -> val i < 16) :
  ∀ (k i : Nat) (s : Shared) (L : List Nat), n - i = k -> i <= n -> St i s -> SetAt (byT w) s.heap S L -> Dense s.heap S -> (∀ u, u ∈ L ↔ ∃ j, j < i /\ val j = u) ->
   (∀ s' L', Moved (S :: wr) G s s' -> SetAt (byT w) s'.heap S L' -> Dense s'.heap S -> (∀ u, u ∈ L' ↔ ∃ j, j < n /\ val j = u) -> R (.ok (.ret .none)) s') ->
   codeAny (model prog w) A (.builtin "set.update.loop" ⟨[.ref S, .ref I], []⟩) R s := by
 have nw : S ∉ wr := fun h => nf (W.sub _ h)
 have up : ∀ b ∈ wr, b ∈ S :: wr := fun b hb => List.mem_cons_of_mem _ hb
 intro k
 induction k with
 | zero =>
  intro i s L hk hi st hS hD mem hR
  obtain rfl : i = n := by omega
  refine codeAny_builtin F.entry_set_update_loop ?_
  rw [Around.under_plainId F.plain_set_update_loop _]; show wpAny _ A.in1 (pyNext (.ref I) >>= _) _ _ s; refine wpAny_bind (W.done s _ _ st fun s' hm => ?_)
  exact wpAny_pure (hR s' L (hm.mono up) (hS.keep fun o e => hm.heap S o nw e) (hD.keep fun o e => hm.heap S o nw e) mem)
 | succ k ih =>
  intro i s L hk hi st hS hD mem hR
  have li : i < n := by omega
  refine codeAny_builtin F.entry_set_update_loop ?_
  rw [Around.under_plainId F.plain_set_update_loop _]; show wpAny _ A.in1 (pyNext (.ref I) >>= _) _ _ s; refine wpAny_bind (W.item i s _ _ li st fun v s' hP st' hm => ?_)
  obtain ⟨t, rfl⟩ := hv i v li hP
  have hS' := hS.keep fun o e => hm.heap S o nw e
  have hD' := hD.keep fun o e => hm.heap S o nw e
  show wpAny _ A.in1 (holding [Value.int ((val i : Nat) : Int) t] (setAdd S (.int ((val i : Nat) : Int) t)) >>= _) _ _ s'
  refine wpAny_bind (wpAny_holding ?_)
  unfold setAdd
  refine wpAny_holding (wpAny_bind ((intKind prog w).pyHash (k := ((val i : Nat) : Int)) (intKind_is _ _ _ _) ?_))
  have eh : (intKind prog w).hash ((val i : Nat) : Int) = ((val i : Nat) : Int) := b5A _ (lt i li)
  rw [eh]
  refine b8L (s := { s' with toks := s'.toks + 1 }) hS' (lt i li) fun b h' L' sb S2 mem2 dn => ?_
  refine wpAny_pure ⟨plainId_quiet F.plain_set_update_loop _, ih (i + 1) _ L' (by omega) li (W.frame _ s' _ _ st' (Nat.le_succ _) fun c hc o e => ?_) S2 (dn hD') (fun u => ?_) fun s2 L2 hm2 h2 h3 h4 => hR s2 L2 (Moved.trans W.gtrans ((hm.mono up).then_heap (Nat.le_succ _) fun c o hc e => ?_) hm2) h2 h3 h4⟩
  ·rw [sb.2 c (fun q : c = S => nf (by rw [<- q]; exact hc))]; exact e
  ·rw [mem2 u, mem u]
   constructor
   ·rintro (rfl | ⟨j, hj, e⟩)
    ·exact ⟨i, Nat.lt_succ_self _, rfl⟩
    ·exact ⟨j, Nat.lt_succ_of_lt hj, e⟩
   ·rintro ⟨j, hj, e⟩
    rcases Nat.lt_or_ge j i with q | q
    ·exact .inr ⟨j, q, e⟩
    ·obtain rfl : j = i := by omega
     exact .inl e.symm
  ·rw [sb.2 c (fun q : c = S => hc (by rw [q]; exact List.mem_cons_self))]; exact e
end
section
variable {prog : Program} {w : World} {A : Around} {E : Value -> Shared -> Prop} {s : Shared}
theorem c0B (a : Value) {Q : Value -> Shared -> Prop} (h : Q (.ref s.heap.objs.size) { s with heap := s.heap.push (setO #[] 0 (.fresh 0 0 (!byT w))) }) :
  codeAny (model prog w) A (.call (.builtin "set.__new__") ⟨[.type "set", a], []⟩) (wants Q E) s := by
 refine codeAny_of_tree ?_
 show wpAny _ A.in1 (do checkBuiltinCall "set.__new__" ⟨[.type "set", a], []⟩; again (.builtin "set.__new__" ⟨[.type "set", a], []⟩)) _ _ s; refine wpAny_bind (wpAny_of_eq (F.newCall_set_1 a) (wpAny_pure ⟨plainId_quiet F.plain_set_new _, codeAny_builtin F.entry_set_new ?_⟩))
 rw [Around.under_plainId F.plain_set_new _]
 unfold Builtin.«set.__new__» Builtin.Frozenset.newClass
 have hsub := sub_set_self
 obtain ⟨hp, g, d, tk, os⟩ := s
 dsimp only at h ⊢
 wp_walk
 refine wpAny_askSetting (wpAny_pure ?_)
 dsimp only
 simp only [newObj]
 exact wpAny_bind (wpAny_alloc (wpAny_pure (wpAny_pure h)))
set_option maxHeartbeats 8000000 in
theorem c2N {l : Addr} {items : Array Value} {vals : List Nat} {Q : Value -> Shared -> Prop} (hh : A.handled = none) (hl : s.heap.IsList l items) (hi : IntsAre items.toList (vals.map fun v => ((v : Nat) : Int))) (lt : ∀ v ∈ vals, v < 16)
  (h : ∀ (h' : Heap) (tk : Nat) (L : List Nat), SetAt (byT w) h' s.heap.objs.size L -> Dense h' s.heap.objs.size -> (∀ u, u ∈ L ↔ u ∈ vals) -> (∀ b o, b < s.heap.objs.size -> s.heap.get? b = some o -> h'.get? b = some o) -> Q (.ref s.heap.objs.size) { s with heap := h', toks := tk }) :
  wpAny (model prog w) A (call (.type "set") [.ref l]) Q E s := by
 obtain ⟨c, tl, hmro⟩ := F.called_set.mro
 have hmade := F.called_set.made
 have hsub := F.called_set.sub
 have hlen : items.size = vals.length := by
  have := hi.length
  simpa using this
 refine wpAny_call (codeAny_of_tree ?_)
 show wpAny _ _ (callAny (.type "set") _) _ _ _; refine wpAny_pure ⟨Code.quiet_builtin _ (by decide +kernel), codeAny_builtin F.entry_type_call ?_⟩
 rw [Around.under_plain (weight_type_call_type "set" [.ref l] []) rfl]; have h1 := F.called_set.notType
 have h2 := F.called_set.canCreate
 have hct := F.typeCall_set_1 (.ref l)
 repeat (any_goals (first | assumption | wp_step))
 refine codeAny_mono (c0B (.ref l) (E := E) (Q := fun obj s₁ => obj = .ref s.heap.objs.size /\ s₁ = { s with heap := s.heap.push (setO #[] 0 (.fresh 0 0 (!byT w))) }) ⟨rfl, rfl⟩) fun r s₁ hr => ?_
 cases r with
 | error e => exact hr
 | ok fl =>
  cases fl with
  | ret obj =>
   obtain ⟨rfl, rfl⟩ := hr
   have gS : (s.heap.push (setO #[] 0 (.fresh 0 0 (!byT w)))).get? s.heap.objs.size = some (setO #[] 0 (.fresh 0 0 (!byT w))) := Heap.get?_push_size _ rfl
   have hT : Shared.TypeIs { s with heap := s.heap.push (setO #[] 0 (.fresh 0 0 (!byT w))) } (.ref s.heap.objs.size) "set" := ⟨_, gS, rfl⟩
   have hli := F.called_set.init.lookup
   have hbi := F.called_set.init.bind (.ref s.heap.objs.size)
   repeat (any_goals (first | assumption | wp_step))
   refine codeAny_mono (codeAny_call_builtin (R := wants (fun r s₂ => r = .none /\ ∃ h' tk L, s₂ = { s with heap := h', toks := tk } /\ SetAt (byT w) h' s.heap.objs.size L /\ Dense h' s.heap.objs.size /\ (∀ u, u ∈ L ↔ u ∈ vals) /\
     (∀ b o, b < s.heap.objs.size -> s.heap.get? b = some o -> h'.get? b = some o)) E) F.called_set.init.plain F.entry_set_init (check_set_init_1 hT ?_)) fun r₂ s₂ hr₂ => ?_
   ·obtain ⟨ol, hol, hcl, nl, hdl⟩ := hl
    obtain ⟨ocls, odict, odata, oslots⟩ := ol
    simp only at hcl hdl
    subst hcl; subst hdl
    have hol' : (s.heap.push (setO #[] 0 (.fresh 0 0 (!byT w)))).get? l = some { cls := .type "list", dict := odict, data := .seq items nl, slots := oslots } := Heap.get?_push_of_some _ hol
    have hsls := F.sub_list_set
    have hslf := F.sub_list_frozenset
    have hne : (Value.type "list" == Value.type "dict") = false := by decide
    have hl1 : (s.heap.push (setO #[] 0 (.fresh 0 0 (!byT w)))).IsList l items := ⟨_, hol', rfl, nl, rfl⟩
    unfold Builtin.«set.__init__» noKeywords Builtin.Frozenset.updateFrom
    generalize hPI : pyIter = PI
    wp_walk
    subst hPI
    refine wpAny_pyIter_list hl1 (wpAny_bind (wpAny_runValue ?_))
    have ll : l < s.heap.objs.size := Heap.lt_size hol
    have hh3 : A.in1.in1.in1.handled = none := by simp [hh]
    have ni : l ≠ (s.heap.push (setO #[] 0 (.fresh 0 0 (!byT w)))).objs.size := by rw [Heap.size_push]; exact Nat.ne_of_lt (Nat.lt_succ_of_lt ll)
    have nf : s.heap.objs.size ∉ [(s.heap.push (setO #[] 0 (.fresh 0 0 (!byT w)))).objs.size, l] := by
     rw [Heap.size_push]; simp only [List.mem_cons, List.not_mem_nil, or_false, not_or]
     exact ⟨Nat.ne_of_lt (Nat.lt_succ_self _), Nat.ne_of_gt ll⟩
    have hval : ∀ (i : Nat) (v : Value), i < items.size -> items[i]? = some v -> ∃ t, v = .int (((fun i => vals.getD i 0) i : Nat) : Int) t := fun i v li hv => by
     obtain ⟨t, e⟩ := PyProof.Rows.IntsAre.int_at hi i v (by rw [Array.getElem?_toList]; exact hv)
     have lv : i < vals.length := by omega
     refine ⟨t, ?_⟩
     rw [e]
     simp [List.getD, lv]
    refine c0A ((Walks.list hh3 _ l ni items).toS) s.heap.objs.size nf (fun i => vals.getD i 0) hval (fun i li => ?_) (items.size - 0) 0 _ [] (by omega) (Nat.zero_le _) ⟨⟨_, Heap.get?_push_size _ rfl, rfl, rfl⟩, (hl1.push _)⟩ ?hS0 ?hD0 (fun u => by simp) ?hR
    ·have lv : i < vals.length := by omega
     refine lt _ ?_
     simp [List.getD, lv]
    case hS0 => exact ⟨#[], 0, _, Heap.get?_push_of_some _ gS, .nil, b1H _⟩
    case hD0 => exact ⟨#[], 0, _, Heap.get?_push_of_some _ gS, .inl rfl⟩
    case hR =>
     intro s' L' hm hS' hD' mem
     obtain ⟨h', g', d', tk', os'⟩ := s'
     have eg : g' = s.gens := hm.gens
     have ed : d' = s.drawn := hm.drawn
     have eo : os' = s.os := hm.os
     subst eg; subst ed; subst eo
     show wpAny _ _ _ _ _ _
     refine wpAny_pure ?_
     show wpAny _ _ (ret Value.none) _ _ _; refine wpAny_pure ⟨rfl, h', tk', L', rfl, hS', hD', fun u => ?_, fun b o hb e => ?_⟩
     ·rw [mem u]
      constructor
      ·rintro ⟨j, hj, rfl⟩
       have lv : j < vals.length := by omega
       simp [List.getD, lv]
      ·intro hu
       obtain ⟨j, hj, e⟩ := List.getElem_of_mem hu
       exact ⟨j, by omega, by simp [List.getD, hj, e]⟩
     ·have b1 : b ≠ s.heap.objs.size := Nat.ne_of_lt hb
      have b2 : b ≠ (s.heap.push (setO #[] 0 (.fresh 0 0 (!byT w)))).objs.size := by rw [Heap.size_push]; exact Nat.ne_of_lt (Nat.lt_succ_of_lt hb)
      exact hm.heap b o (by simp only [List.mem_cons, List.not_mem_nil, or_false, not_or]; exact ⟨b1, b2⟩) (Heap.get?_push_of_some _ (Heap.get?_push_of_some _ e))
   ·cases r₂ with
    | error e => exact hr₂
    | ok fl₂ =>
     cases fl₂ with
     | ret r =>
      obtain ⟨rfl, h', tk, L, rfl, q1, q2, q3, q4⟩ := hr₂
      repeat (any_goals (first | assumption | wp_step))
      exact h _ _ L q1 q2 q3 q4
     | _ => exact hr₂.elim
  | _ => exact hr.elim
end
end Sm
set_option maxHeartbeats 4100000
namespace L2
open PySem PySem.Spec PyProof.Rows Sm
def SetV (w : World) (a : Addr) (d : Bool) (L : List Nat) : HO := .ext fun h => SetAt (byT w) h a L /\ (d = true -> Dense h a)
def b5G (ns : List Int) : Prop := ∀ n ∈ ns, 0 <= n /\ n < 16
def upF (p : Int -> Bool) : List Int := ((List.range 16).map fun i => ((i : Nat) : Int)).filter p
theorem c2O (p : Int -> Bool) : (upF p).Pairwise (· < ·) := by
 unfold upF
 refine List.Pairwise.filter _ ?_
 rw [List.pairwise_map]
 exact List.pairwise_lt_range.imp fun h => by omega
theorem c0C {p : Int -> Bool} {v : Int} : v ∈ upF p ↔ 0 <= v /\ v < 16 /\ p v = true := by
 unfold upF
 rw [List.mem_filter, List.mem_map]
 constructor
 ·rintro ⟨⟨i, hi, rfl⟩, h⟩
  have := List.mem_range.mp hi
  exact ⟨by omega, by omega, h⟩
 ·rintro ⟨h0, h1, h⟩
  exact ⟨⟨v.toNat, List.mem_range.mpr (by omega), by omega⟩, h⟩
theorem c2P : ∀ {xs ys : List Int}, xs.Pairwise (· < ·) -> ys.Pairwise (· < ·) -> (∀ v, v ∈ xs ↔ v ∈ ys) -> xs = ys
 | [], [], _, _, _ => rfl
 | [], y :: ys, _, _, h => absurd ((h y).mpr List.mem_cons_self) List.not_mem_nil
 | x :: xs, [], _, _, h => absurd ((h x).mp List.mem_cons_self) List.not_mem_nil
 | x :: xs, y :: ys, hx, hy, h => by
  obtain ⟨x1, x2⟩ := List.pairwise_cons.mp hx
  obtain ⟨y1, y2⟩ := List.pairwise_cons.mp hy
  have e : x = y := by
   rcases List.mem_cons.mp ((h x).mp List.mem_cons_self) with e | e
   ·exact e
   ·rcases List.mem_cons.mp ((h y).mpr List.mem_cons_self) with f | f
    ·exact f.symm
    ·have a := y1 x e
     have b := x1 y f
     omega
  subst e
  congr 1
  refine c2P x2 y2 fun v => ?_
  constructor
  ·intro q
   rcases List.mem_cons.mp ((h v).mp (List.mem_cons_of_mem _ q)) with e | e
   ·subst e; have := x1 v q; omega
   ·exact e
  ·intro q
   rcases List.mem_cons.mp ((h v).mpr (List.mem_cons_of_mem _ q)) with e | e
   ·subst e; have := y1 v q; omega
   ·exact e
def c4J (w : World) (K : Φρ) : List V -> Hp -> VK -> Prop := fun xs H Q => ∃ l ns, xs = [.ref l] /\ SqL K H l (List.map V.int ns) /\ b5G ns /\ ∀ p L H', New H p (SetV w p true L) H' -> (∀ u : Nat, u ∈ L ↔ (u : Int) ∈ ns) -> Q (.ref p) H'
def rOrS (w : World) : R2 := fun x y H Q => ∃ a b L1 L2, x = .ref a /\ y = .ref b /\ a ≠ b /\ H a = some (SetV w a true L1) /\ H b = some (SetV w b true L2) /\ ∀ p L H', New H p (SetV w p false L) H' -> (∀ u : Nat, u ∈ L ↔ u ∈ L1 \/ u ∈ L2) -> Q (.ref p) H'
def c2Q (w : World) : List V -> Hp -> VK -> Prop := fun xs H Q => ∃ a d L, xs = [.ref a] /\ H a = some (SetV w a d L) /\ ∀ p H', New H p (.lst ((upF fun v => decide (v.toNat ∈ L)).map V.int)) H' -> Q (.ref p) H'
def c2R (K : Φρ) : List V -> Hp -> VK -> Prop := fun xs H Q => ∃ l ns, xs = [.ref l] /\ SqL K H l (List.map V.int ns) /\ ns.length < 64 /\ ∀ p H' zs, New H p (.lst (List.map V.int zs)) H' -> zs.Perm ns -> zs.Pairwise (· <= ·) -> Q (.ref p) H'
theorem a5U : ∀ {vs : List Value} {ns : List Int}, IntsAre vs ns -> Vals (ns.map V.int) vs
 | _, _, .nil => .nil
 | _, _, .cons n t r => .cons ⟨t, rfl⟩ (a5U r)
theorem b7F {xs : List Int} {L : List Nat} (pm : xs.Perm (L.map fun v => ((v : Nat) : Int))) (nd : L.Nodup) (lt : ∀ v ∈ L, v < 16) (le : xs.Pairwise (· <= ·)) : xs = upF fun v => decide (v.toNat ∈ L) := by
 have nd2 : xs.Nodup := pm.nodup_iff.mpr (by
  unfold List.Nodup
  rw [List.pairwise_map]
  exact nd.imp fun h e => h (by omega))
 have lt2 : xs.Pairwise (· < ·) := by
  unfold List.Nodup at nd2
  exact (le.and nd2).imp fun h => by omega
 refine c2P lt2 (c2O _) fun v => ?_
 rw [pm.mem_iff, c0C, List.mem_map]
 constructor
 ·rintro ⟨u, hu, rfl⟩
  have := lt u hu
  exact ⟨by omega, by omega, decide_eq_true (by rw [Int.toNat_natCast]; exact hu)⟩
 ·rintro ⟨h0, h1, h⟩
  exact ⟨v.toNat, of_decide_eq_true h, by omega⟩
section
variable {X : Cx} {K : Φρ} {w : World}
theorem b5H {H : Hp} {h : Heap} {a : Addr} {d : Bool} {L : List Nat} {P : Program} {w' : World} (S : SetAt (byT w) h a L) (D : d = true -> Dense h a) : ObjOk P w' H h a (SetV w a d L) := by
 refine ⟨⟨S, D⟩, ?_, ?_⟩
 ·obtain ⟨_, _, _, ho, _⟩ := S
  exact ⟨_, ho⟩
 ·rintro h1 h2 ⟨s1, d1⟩ k
  exact ⟨s1.keep k, fun e => (d1 e).keep k⟩
theorem a8Z (ek : X.K = K) (ew : X.w = w) (cm : X.calm = true) : CallR X (.type "set") (c4J w K) := by
 subst ek; subst ew
 intro pins s σ H xs us Q I r h
 obtain ⟨l, ns, rfl, hL, sm, q⟩ := h
 obtain ⟨u, rfl, rx⟩ := a4X r
 cases rx
 obtain ⟨its, r', pl, hz⟩ := I.list hL
 have hi := a3J r'
 have e : (ns.map Int.toNat).map (fun v => ((v : Nat) : Int)) = ns := by
  rw [List.map_map]
  have : ∀ n ∈ ns, ((fun v => ((v : Nat) : Int)) ∘ Int.toNat) n = id n := fun n hn => by
   have := (sm n hn).1
   show ((n.toNat : Nat) : Int) = n
   omega
  rw [List.map_congr_left this, List.map_id]
 refine c2N (vals := ns.map Int.toNat) (I.ok.hd cm) pl.isList (by rw [e]; simpa using hi) (fun v hv => ?_) fun h' tk L S D mem k => ?_
 ·obtain ⟨n, hn, rfl⟩ := List.mem_map.mp hv
  have := sm n hn
  omega
 ·have hf : H s.heap.objs.size = none := I.hok.fresh (Nat.le_refl _)
  refine ⟨.ref s.heap.objs.size, _, I.laid (t' := tk) (o := SetV X.w s.heap.objs.size true L) (fun b o eo => k b o (Heap.lt_size eo) eo) (Nat.le_refl _) (b5H S fun _ => D), rfl, q _ L _ (New.mk0 hf) fun u => ?_⟩
  rw [mem u, List.mem_map]
  constructor
  ·rintro ⟨n, hn, rfl⟩
   have := (sm n hn).1
   have e2 : ((n.toNat : Nat) : Int) = n := by omega
   rw [e2]; exact hn
  ·intro hn
   exact ⟨_, hn, by omega⟩
theorem c2S (ew : X.w = w) : OpR X (binaryOp .BitOr) (rOrS w) := by
 subst ew
 intro pins s σ H x y v u Q I rx ry h
 obtain ⟨a, b, L1, L2, rfl, rfl, ne, hA, hB, q⟩ := h
 cases rx
 cases ry
 obtain ⟨⟨S1, D1⟩, _⟩ := I.hok a _ hA
 obtain ⟨⟨S2, D2⟩, _⟩ := I.hok b _ hB
 refine c4H ne S1 (D1 rfl) S2 (D2 rfl) fun h' L k S mem => ?_
 have hf : H s.heap.objs.size = none := I.hok.fresh (Nat.le_refl _)
 exact ⟨.ref s.heap.objs.size, _, I.laid (t' := s.toks) (o := SetV X.w s.heap.objs.size false L) (fun b o eo => k b o eo) (Nat.le_refl _) (b5H S fun e => by cases e), rfl, q _ L _ (New.mk0 hf) mem⟩
theorem a9A (ew : X.w = w) (cm : X.calm = true) : CallR X (.builtin "sorted") (c2Q w) := by
 subst ew
 intro pins s σ H xs us Q I r h
 obtain ⟨a, d, L, rfl, hA, q⟩ := h
 obtain ⟨u, rfl, rx⟩ := a4X r
 cases rx
 obtain ⟨⟨S, _⟩, _⟩ := I.hok a _ hA
 obtain ⟨_, _, t, _, _, T⟩ := id S
 refine b2P (I.ok.hd cm) S fun h' tk p vs n ns k hp ho hi pm le => ?_
 have e := b7F pm T.nd T.lt le
 subst e
 have l16 : (upF fun v => decide (v.toNat ∈ L)).length <= 16 := by rw [pm.length_eq, List.length_map]; exact T.len
 have hf : H p = none := I.hok.fresh hp
 refine ⟨.ref p, _, I.laid (t' := tk) (o := .lst ((upF fun v => decide (v.toNat ∈ L)).map V.int)) k hp ⟨?_, vs, n, a5U hi, ho⟩, rfl, q p _ (New.mk0 hf)⟩
 rw [List.length_map, sizeLine_eq]
 omega
theorem a2X (e : X.K = K) : CallR X (.builtin "sorted") (c2R K) := by
 subst e
 intro pins s σ H xs us Q I r h
 obtain ⟨l, ns, rfl, hL, h64, q⟩ := h
 obtain ⟨u, rfl, rx⟩ := a4X r
 cases rx
 obtain ⟨its, r', pl, hz⟩ := I.list hL
 have hlen := r'.length
 rw [List.length_map] at hlen
 refine sorted_ints (ns := ns) pl.isList (a3J r') (by omega) fun out zs hi pm le => ?_
 obtain ⟨c, hc⟩ := sortedAll_at s.heap its out
 refine ⟨.ref (s.heap.objs.size + 1), _, I.laid (t' := s.toks) (o := .lst (zs.map V.int)) (fun b o eo => sortedAll_old eo) (Nat.le_succ _) ⟨?_, out.toList, c, a5U hi, by simpa using hc⟩, rfl, q _ _ zs (New.mk0 (I.hok.fresh (Nat.le_succ _))) pm le⟩
 rw [List.length_map, pm.length_eq, sizeLine_eq]
 omega
end
end L2
namespace L2
open PySem PySem.Spec PyProof.Rows
def Itz (K : Φρ) (a b : Addr) : It :=
 ⟨fun i H => ∃ xs ys x y, SqL K H a xs /\ SqL K H b ys /\ xs[i]? = some x /\ ys[i]? = some y,
 fun i H v H' => ∃ p x y, v = .ref p /\ New H p (.tup [x, y]) H' /\ (∀ xs, SqL K H a xs -> xs[i]? = some x) /\ ∀ ys, SqL K H b ys -> ys[i]? = some y,
 fun i H => ∃ xs ys, SqL K H a xs /\ SqL K H b ys /\ (xs.length <= i \/ ys.length <= i)⟩
theorem b5I {X : Cx} {pins : List (Addr × Obj)} {σ : St} {H : Hp} {s : Shared} (I : Inv X pins σ H s) {h2 : Heap} (ch : List Addr) (fk : ∀ b ∈ ch, FpOk X pins H b)
  (kp : ∀ b o, b ∉ ch -> s.heap.get? b = some o -> h2.get? b = some o) : Inv X pins σ H { s with heap := h2 } := by
 refine I.step (t' := s.toks) (g' := s.gens) (d' := s.drawn) (H' := H) (ch := ch) (fun b hb => ?_) (fun b o _ _ hc q _ => kp b o hc q) (fun b o _ _ hc q _ => ⟨o.slots, kp b o hc q⟩) (fun _ _ _ _ n => n)
  (fun b o hc q => ⟨o, kp b o hc q⟩) (fun _ _ q => q) (fun _ _ _ q => q) (fun b ps q => ⟨#[], by rw [q]; simp⟩) (fun m hm => ?_) (fun b o q => ?_) I.bare
 ·obtain ⟨f0, f1, f2, f3, f4, f5⟩ := fk b hb
  exact ⟨f3, f1, f4, f5⟩
 ·obtain ⟨o, es, ep, q, r⟩ := hm
  exact ⟨o, es, ep, kp _ o (fun z => (fk _ z).2.1 rfl) q, r⟩
 ·have nb : ∀ c v, H c = some v -> c ∉ ch := fun c v q z => a0K q (fk c z).1 rfl
  refine (I.hok b o q).stay (fun c v hcc r => kp c v ?_ r) (fun _ q => q) fun _ _ q => q
  rcases hcc with z | z
  ·rw [z]; exact nb b o q
  ·exact nb c _ z
theorem b7G {P : Program} {w : World} {K : Φρ} {elts : List Expr} {k : Nat} {pos : Pos} (a b z TI TO i1 i2 : Addr) (D : ZipApart z TI TO i1 i2 a b) :
  Turn P w K (.Tuple elts k pos) (Itz K a b) [z, TI, TO, i1, i2] z (fun i h => IsZip h z TI TO .none /\ IsPair h TI (.ref i1) (.ref i2) /\ (∃ x y, IsPair h TO x y) /\ h.IsListIter i1 a i /\ h.IsListIter i2 b i) where
 mem := by simp
 obj := fun i h st c hc => by
  obtain ⟨hz, hTI, ⟨x, y, hTO⟩, ⟨o1, e1, c1, d1⟩, ⟨o2, e2, c2, d2⟩⟩ := st
  simp only [List.mem_cons, List.not_mem_nil, or_false] at hc
  rcases hc with rfl | rfl | rfl | rfl | rfl
  ·exact ⟨_, hz, fun v q => by have q' : Data.fields _ = Data.cell v := q; cases q'⟩
  ·exact ⟨_, hTI, fun v q => by cases q⟩
  ·exact ⟨_, hTO, fun v q => by cases q⟩
  ·exact ⟨o1, e1, fun v q => by rw [d1] at q; cases q⟩
  ·exact ⟨o2, e2, fun v q => by rw [d2] at q; cases q⟩
 keep := fun i h h' st kk => by
  obtain ⟨hz, hTI, ⟨x, y, hTO⟩, h1, h2⟩ := st
  exact ⟨kk z (by simp) _ hz, kk TI (by simp) _ hTI, ⟨x, y, kk TO (by simp) _ hTO⟩, h1.at fun o q => kk i1 (by simp) o q, h2.at fun o q => kk i2 (by simp) o q⟩
 item := by
  intro X hP hw hK hc i pins s σ H E I hf st hg
  subst hP hw hK
  obtain ⟨xs, ys, x, y, hq1, hq2, hx, hy⟩ := hg
  obtain ⟨its1, rv1, pl1, hz1⟩ := I.list hq1
  obtain ⟨its2, rv2, pl2, hz2⟩ := I.list hq2
  obtain ⟨u1, hu1, ru1⟩ := rv1.get hx
  obtain ⟨u2, hu2, ru2⟩ := rv2.get hy
  obtain ⟨hz, hTI, ⟨x0, y0, hTO⟩, h1, h2⟩ := st
  refine wpAny_pyNext_zip_item D hz hTI hTO h1 h2 pl1.isList pl2.isList (x := u1) (y := u2) (by simpa using hu1) (by simpa using hu2) fun h' a1 a2 a3 a4 a5 a6 hk => ?_
  refine ⟨_, rfl, wpAny_letOwnedTupleGo_zip a1 fun h3 hz3 hs3 => ?_⟩
  have lt : ∀ {c o}, s.heap.get? c = some o -> s.heap.objs.size ≠ c := fun e => Nat.ne_of_gt (Heap.lt_size e)
  have nz := lt hz
  have nTI := lt hTI
  have nTO := lt hTO
  have n1 : s.heap.objs.size ≠ i1 := by obtain ⟨_, e, _⟩ := h1; exact lt e
  have n2 : s.heap.objs.size ≠ i2 := by obtain ⟨_, e, _⟩ := h2; exact lt e
  have hT3 : h3.get? s.heap.objs.size = some { cls := .type "tuple", data := .seq #[u1, u2] } := (hs3.2 _ nz).trans a5
  have kp : ∀ c o, c ∉ [z, TO, i1, i2] -> s.heap.get? c = some o -> h3.get? c = some o := fun c o hc q => by
   simp only [List.mem_cons, List.not_mem_nil, or_false, not_or] at hc
   exact (hs3.2 c hc.1).trans (hk c o hc.1 hc.2.1 hc.2.2.1 hc.2.2.2 q)
  have I1 : Inv X pins σ H { s with heap := h3 } := b5I I [z, TO, i1, i2] (fun c hc => hf c (by simp only [List.mem_cons, List.not_mem_nil, or_false] at hc ⊢; rcases hc with h | h | h | h <;> simp [h])) kp
  have hfree : H s.heap.objs.size = none := I.hok.fresh (Nat.le_refl _)
  have I2 : Inv X pins σ (upd H s.heap.objs.size (.tup [x, y])) { s with heap := h3 } := by
   refine Inv.track I1 hfree I.sz (Nat.ne_of_gt I.lt) (fun y c q => ?_) (fun p hp => Nat.ne_of_lt (Heap.lt_size (I.pin p hp).1)) ?_
   ·obtain ⟨v, oc, q1, _⟩ := I.cell y c q
    exact Nat.ne_of_lt (Heap.lt_size q1)
   ·exact ⟨(by show 2 <= sizeLine; decide), [u1, u2], .cons ru1 (.cons ru2 .nil), ⟨_, hT3, rfl, _, rfl⟩⟩
  refine ⟨.ref s.heap.objs.size, _, I2, rfl, ⟨_, x, y, rfl, New.mk0 hfree, fun xs' hy' => by rw [I.list_inj hy' hq1]; exact hx, fun ys' hy' => by rw [I.list_inj hy' hq2]; exact hy⟩,
   ⟨hz3, (hs3.2 TI D.TIz).trans (hk TI _ D.TIz D.TITO D.TIi1 D.TIi2 hTI), ⟨_, _, (hs3.2 TO D.TOz).trans a2⟩, a3.at fun o q => (hs3.2 i1 D.i1z).trans q, a4.at fun o q => (hs3.2 i2 D.i2z).trans q⟩, fun c hc => ?_⟩
  have f0 := (hf c hc).1
  rw [a0P ?_]
  ·exact f0
  ·simp only [List.mem_cons, List.not_mem_nil, or_false] at hc
   rcases hc with rfl | rfl | rfl | rfl | rfl
   ·exact Ne.symm nz
   ·exact Ne.symm nTI
   ·exact Ne.symm nTO
   ·exact Ne.symm n1
   ·exact Ne.symm n2
 done := by
  intro X hP hw hK hc i pins s σ H E I hf st hg
  subst hP hw hK
  obtain ⟨xs, ys, hq1, hq2, hl⟩ := hg
  obtain ⟨its1, rv1, pl1, hz1⟩ := I.list hq1
  obtain ⟨its2, rv2, pl2, hz2⟩ := I.list hq2
  have l1 := rv1.length
  have l2 := rv2.length
  obtain ⟨hz, hTI, ⟨x0, y0, hTO⟩, h1, h2⟩ := st
  refine wpAny_pyNext_zip_end (I.ok.hd hc) D hz hTI hTO h1 h2 pl1.isList pl2.isList ?_ fun h' hk => ⟨rfl, b5I I [z, TO, i1, i2] (fun c hc => hf c (by simp only [List.mem_cons, List.not_mem_nil, or_false] at hc ⊢; rcases hc with h | h | h | h <;> simp [h])) fun c o hc q => ?_⟩
  ·rcases hl with hl | hl
   ·exact .inl (by simp; omega)
   ·exact .inr (by simp; omega)
  ·simp only [List.mem_cons, List.not_mem_nil, or_false, not_or] at hc
   exact hk c o hc.1 hc.2.1 hc.2.2.1 hc.2.2.2 q
 self := fun _ _ _ _ _ st h => wpAny_pyIter_zip st.1 h
section
variable {X : Cx} {K : Φρ}
theorem b7H : bootBuiltins "zip" = some (.type "zip") := by decide +kernel
def iZip (K : Φρ) (ta : TA) : TI := fun σ H R => ta σ H fun vs H1 => ∃ a b, vs = [.ref a, .ref b] /\ (∃ xs, SqL K H1 a xs) /\ (∃ ys, SqL K H1 b ys) /\ R (Itz K a b) H1
theorem b8M {elts : List Expr} {k : Nat} {tpos : Pos} {l m : Expr} {ta : TA} {p pos : Pos} (e0 : X.K = K) (hg : Gl X "zip") (hm : X.mg "zip" = none) (ha : PA X [l, m] ta) (hs : starEach [l, m] X.env = [(false, eval l X.env), (false, eval m X.env)] := by rfl) (hs2 : starEach [m] X.env = [(false, eval m X.env)] := by rfl) :
  PI X (.Tuple elts k tpos) (.Call (.Name "zip" p) [l, m] [] pos) (iZip K ta) := by
 subst e0
 intro pins s σ H R I h
 refine wpAny_Call_Name_kw (a4I I hg hm b7H ?_)
 refine PyProof.Rows.callWith_type1 (thn (ha pos pins s σ H _ I h) fun us s1 ⟨vs, H1, I1, r1, q1⟩ => ?_) (by rw [hs, hs2]) (by rw [hs2]; rfl)
 obtain ⟨a, b, e, ⟨xs, hq1⟩, ⟨ys, hq2⟩, q⟩ := q1
 subst e
 obtain ⟨u1, u2, rfl, r1, r2⟩ := b2E r1
 cases r1
 cases r2
 obtain ⟨its1, rv1, pl1, hz1⟩ := I1.list hq1
 obtain ⟨its2, rv2, pl2, hz2⟩ := I1.list hq2
 refine call_zip_2 pl1.isList pl2.isList fun h' hz hTI hTO h1 h2 hsz hk => ?_
 refine wpAny_pyIter_zip hz ?_
 have I2 : Inv X pins σ H1 { s1 with heap := h' } := I1.kept (t' := s1.toks) hk
 have la : a < s1.heap.objs.size := by obtain ⟨o, e, _⟩ := pl1.isList; exact Heap.lt_size e
 have lb : b < s1.heap.objs.size := by obtain ⟨o, e, _⟩ := pl2.isList; exact Heap.lt_size e
 refine ⟨s1.heap.objs.size + 4, [s1.heap.objs.size + 4, s1.heap.objs.size + 2, s1.heap.objs.size + 3, s1.heap.objs.size, s1.heap.objs.size + 1], _, _, H1, rfl, I2,
  b7G a b _ _ _ _ _ (zipApart_new la lb), ⟨hz, hTI, ⟨_, _, hTO⟩, h1, h2⟩, fun c hc => ?_, q⟩
 have hb' : s1.heap.objs.size <= c := by
  simp only [List.mem_cons, List.not_mem_nil, or_false] at hc
  rcases hc with rfl | rfl | rfl | rfl | rfl
  ·exact Nat.le_add_right _ _
  ·exact Nat.le_add_right _ _
  ·exact Nat.le_add_right _ _
  ·exact Nat.le_refl _
  ·exact Nat.le_add_right _ _
 exact I1.fpOk hb' (I1.hok.fresh hb')
end
theorem c0D {K : Φρ} {a b : Addr} {xs ys : List V} {g : TG} {tb : TS} {D : Ends} {σ : St} {H : Hp} (el : xs.length = ys.length) (Pv : Nat -> St -> Hp -> Prop) (h0 : Pv 0 σ H) (hl : ∀ i σ H, i <= xs.length -> Pv i σ H -> SqL K H a xs /\ SqL K H b ys)
  (hs : ∀ (i : Nat) x y σ H p H', xs[i]? = some x -> ys[i]? = some y -> Pv i σ H -> New H p (.tup [x, y]) H' -> g (.ref p) σ H' fun σ2 H2 => tb { D with nx := Pv (i + 1), ct := Pv (i + 1), bk := D.nx } σ2 H2) (hd : ∀ σ H, Pv xs.length σ H -> D.nx σ H) :
  ∃ W : Nat -> Nat -> St -> Hp -> Prop, (∃ m, W 0 m σ H) /\ ∀ i m σ H, W i m σ H ->
   ((Itz K a b).stop i H /\ D.nx σ H) \/ ((Itz K a b).go i H /\ ∃ N : St -> Hp -> Prop, (∀ σ' H', N σ' H' -> ∃ m', m' < m /\ W (i + 1) m' σ' H') /\ ∀ x H', (Itz K a b).yld i H x H' -> g x σ H' fun σ2 H2 => tb { D with nx := N, ct := N, bk := D.nx } σ2 H2) := by
 refine ⟨fun i m σ H => m = xs.length - i /\ i <= xs.length /\ Pv i σ H, ⟨xs.length, by simp, Nat.zero_le _, h0⟩, ?_⟩
 rintro i m σ H ⟨rfl, hi, p⟩
 obtain ⟨q1, q2⟩ := hl i σ H hi p
 by_cases hlt : i < xs.length
 ·refine .inr ⟨⟨xs, ys, xs[i], ys[i], q1, q2, by simp [hlt], by simp [el ▸ hlt]⟩, Pv (i + 1), fun σ' H' p' => ⟨xs.length - (i + 1), by omega, rfl, hlt, p'⟩, fun x H' y => ?_⟩
  obtain ⟨pp, x0, y0, rfl, nw, ex, ey⟩ := y
  exact hs i x0 y0 σ H pp H' (ex xs q1) (ey ys q2) p nw
 ·have e : i = xs.length := by omega
  subst e
  exact .inl ⟨⟨xs, ys, q1, q2, .inl (Nat.le_refl _)⟩, hd σ H p⟩
end L2
namespace L2
open PySem PySem.Spec PyProof.Rows
section
variable {X : Cx}
end
end L2
namespace L2
open PySem PySem.Spec PyProof.Rows
theorem us1 {A : Type} {us : List A} {P : List A -> Prop} (h : us.length = 1) (f : ∀ a, P [a]) : P us := by
 match us, h with
 | [a], _ => exact f a
theorem us2 {A : Type} {us : List A} {P : List A -> Prop} (h : us.length = 2) (f : ∀ a b, P [a, b]) : P us := by
 match us, h with
 | [a, b], _ => exact f a b
theorem us3 {A : Type} {us : List A} {P : List A -> Prop} (h : us.length = 3) (f : ∀ a b c, P [a, b, c]) : P us := by
 match us, h with
 | [a, b, c], _ => exact f a b c
theorem us4 {A : Type} {us : List A} {P : List A -> Prop} (h : us.length = 4) (f : ∀ a b c d, P [a, b, c, d]) : P us := by
 match us, h with
 | [a, b, c, d], _ => exact f a b c d
theorem dn_mk1 {K : Φρ} {h : Heap} {mg : Str -> Option Value} {x : Str} {st : Stmt} {ps : List Str} {f : Addr} {oc : Value} {od an : Option Addr} {osl : Array (Option Value)} {kV doc pm cdv ct : Value} (X : K.In h) (G : h.Ns mainGlobals mg)
  (a : PySem.W.nsIn K mainGlobals x = some (some (.ref f))) (l : K.lookup f = some ⟨oc, od, .func (PySem.W.fnOf x x (a0Z st) (a0U st) (a0D st) .none kV doc pm an cdv ct), osl⟩) (c : PySem.W.codeIn K cdv x = true) (k : PySem.W.keepIn K (.ref f) = true)
  (hp : ps.length = 1)
  (hb : ∀ (kV doc pm : Value) (an : Option Addr) (cdv ct : Value) (u0 : Value), bindArgs (PySem.W.fnOf x x (a0Z st) (a0U st) (a0D st) .none kV doc pm an cdv ct) ⟨[u0], []⟩ = pure (ps.zip [u0])) :
  Nonempty (Dn K mg x st ps) :=
 b6N X G a l c k fun kV doc pm an cdv ct us hl => us1 (P := fun us => bindArgs (PySem.W.fnOf x x (a0Z st) (a0U st) (a0D st) .none kV doc pm an cdv ct) ⟨us, []⟩ = pure (ps.zip us)) (hl.trans hp) fun u0 => hb kV doc pm an cdv ct u0
theorem dn_mk2 {K : Φρ} {h : Heap} {mg : Str -> Option Value} {x : Str} {st : Stmt} {ps : List Str} {f : Addr} {oc : Value} {od an : Option Addr} {osl : Array (Option Value)} {kV doc pm cdv ct : Value} (X : K.In h) (G : h.Ns mainGlobals mg)
  (a : PySem.W.nsIn K mainGlobals x = some (some (.ref f))) (l : K.lookup f = some ⟨oc, od, .func (PySem.W.fnOf x x (a0Z st) (a0U st) (a0D st) .none kV doc pm an cdv ct), osl⟩) (c : PySem.W.codeIn K cdv x = true) (k : PySem.W.keepIn K (.ref f) = true)
  (hp : ps.length = 2)
  (hb : ∀ (kV doc pm : Value) (an : Option Addr) (cdv ct : Value) (u0 u1 : Value), bindArgs (PySem.W.fnOf x x (a0Z st) (a0U st) (a0D st) .none kV doc pm an cdv ct) ⟨[u0, u1], []⟩ = pure (ps.zip [u0, u1])) :
  Nonempty (Dn K mg x st ps) :=
 b6N X G a l c k fun kV doc pm an cdv ct us hl => us2 (P := fun us => bindArgs (PySem.W.fnOf x x (a0Z st) (a0U st) (a0D st) .none kV doc pm an cdv ct) ⟨us, []⟩ = pure (ps.zip us)) (hl.trans hp) fun u0 u1 => hb kV doc pm an cdv ct u0 u1
theorem dn_mk3 {K : Φρ} {h : Heap} {mg : Str -> Option Value} {x : Str} {st : Stmt} {ps : List Str} {f : Addr} {oc : Value} {od an : Option Addr} {osl : Array (Option Value)} {kV doc pm cdv ct : Value} (X : K.In h) (G : h.Ns mainGlobals mg)
  (a : PySem.W.nsIn K mainGlobals x = some (some (.ref f))) (l : K.lookup f = some ⟨oc, od, .func (PySem.W.fnOf x x (a0Z st) (a0U st) (a0D st) .none kV doc pm an cdv ct), osl⟩) (c : PySem.W.codeIn K cdv x = true) (k : PySem.W.keepIn K (.ref f) = true)
  (hp : ps.length = 3)
  (hb : ∀ (kV doc pm : Value) (an : Option Addr) (cdv ct : Value) (u0 u1 u2 : Value), bindArgs (PySem.W.fnOf x x (a0Z st) (a0U st) (a0D st) .none kV doc pm an cdv ct) ⟨[u0, u1, u2], []⟩ = pure (ps.zip [u0, u1, u2])) :
  Nonempty (Dn K mg x st ps) :=
 b6N X G a l c k fun kV doc pm an cdv ct us hl => us3 (P := fun us => bindArgs (PySem.W.fnOf x x (a0Z st) (a0U st) (a0D st) .none kV doc pm an cdv ct) ⟨us, []⟩ = pure (ps.zip us)) (hl.trans hp) fun u0 u1 u2 => hb kV doc pm an cdv ct u0 u1 u2
theorem dn_mk4 {K : Φρ} {h : Heap} {mg : Str -> Option Value} {x : Str} {st : Stmt} {ps : List Str} {f : Addr} {oc : Value} {od an : Option Addr} {osl : Array (Option Value)} {kV doc pm cdv ct : Value} (X : K.In h) (G : h.Ns mainGlobals mg)
  (a : PySem.W.nsIn K mainGlobals x = some (some (.ref f))) (l : K.lookup f = some ⟨oc, od, .func (PySem.W.fnOf x x (a0Z st) (a0U st) (a0D st) .none kV doc pm an cdv ct), osl⟩) (c : PySem.W.codeIn K cdv x = true) (k : PySem.W.keepIn K (.ref f) = true)
  (hp : ps.length = 4)
  (hb : ∀ (kV doc pm : Value) (an : Option Addr) (cdv ct : Value) (u0 u1 u2 u3 : Value), bindArgs (PySem.W.fnOf x x (a0Z st) (a0U st) (a0D st) .none kV doc pm an cdv ct) ⟨[u0, u1, u2, u3], []⟩ = pure (ps.zip [u0, u1, u2, u3])) :
  Nonempty (Dn K mg x st ps) :=
 b6N X G a l c k fun kV doc pm an cdv ct us hl => us4 (P := fun us => bindArgs (PySem.W.fnOf x x (a0Z st) (a0U st) (a0D st) .none kV doc pm an cdv ct) ⟨us, []⟩ = pure (ps.zip us)) (hl.trans hp) fun u0 u1 u2 u3 => hb kV doc pm an cdv ct u0 u1 u2 u3
end L2
namespace L2
open PySem PySem.Spec PySem.Calls PyProof.Rows PySem.Builtin PySem.Builtin.ObjectAttr
abbrev c0E : List Value := [.type "ValueError", .type "Exception", .type "BaseException", .type "object"]
structure Xk (K : Φρ) (C : Addr) : Prop where
 ga : PySem.W.findIn K (.ref C) "__getattribute__" = some (some (.builtin "BaseException.__getattribute__"))
 gh : PySem.W.findIn K (.ref C) "__getattr__" = some none
 ca : PySem.W.findIn K (.ref C) "__class__" = some (some (.builtin "object.__class__"))
 gt : PySem.W.specialIn K (.builtin "object.__class__") "__get__" = some (some (.builtin "getset_descriptor.__get__"))
 tk : PySem.W.takesIn K (.builtin "object.__class__") = some true
 mo : PySem.W.mroIn K C (.type "object") = some true
 mb : PySem.W.mroIn K C (.type "BaseException") = some true
 ex : PySem.W.excIn K C c0E "ValueError.__new__" = true
def AtC (x C : Addr) (h : Heap) : Prop := ∃ o, h.get? x = some o /\ o.cls = .ref C
section
variable {prog : Program} {w : World} {A : Around} {E : Value -> Shared -> Prop} {s : Shared} {K : Φρ} {x C : Addr}
theorem AtC.type {M : Model} {h : Heap} (I : AtC x C h) : PySem.W.Looks M h (typeOf (.ref x)) (.ref C) := by
 obtain ⟨o, h1, h2⟩ := I
 exact h2 ▸ (PySem.W.Looks.ld h1).andThen .now
theorem c4K {M : Model} {h : Heap} (X : K.In h) (k : Xk K C) : PySem.W.Looks M h (find (.ref x) (.ref C) "__class__") (.bind (.builtin "getset_descriptor.__get__") (.builtin "object.__class__")) := by
 have L3 := PySem.W.looks_takesIn (M := M) X k.tk
 refine (PySem.W.looks_findIn X k.ca).andThen ((show PySem.W.Looks M h (getOf (some (.builtin "object.__class__"))) _ from PySem.W.looks_specialIn X k.gt).andThen ?_)
 have q : PySem.W.Looks M h (dataDescriptor? (some (.builtin "object.__class__")) (some (.builtin "getset_descriptor.__get__"))) (some (.builtin "getset_descriptor.__get__", .builtin "object.__class__")) := L3.andThen .now
 exact q.andThen (PySem.W.Looks.tag .now)
theorem b2Q {R : Result -> Shared -> Prop} {tp : Value} (X : K.In s.heap) (I : AtC x C s.heap) (k : Xk K C)
  (h : R (.ok (.ret (.ref C))) s) : codeAny (model prog w) A (.call (.builtin "getset_descriptor.__get__") ⟨[.builtin "object.__class__", .ref x, tp], []⟩) R s := by
 obtain ⟨hp, g, dr, t, os⟩ := s
 have L0 := I.type (M := model prog w)
 have L1 := PySem.W.looks_mroIn (M := model prog w) X k.mo
 have gs := PySem.W.KF.slot_gs
 refine codeAny_call_builtin gs.plain PySem.W.KF.entry_gs (gs.check _ _ _ _ _ _ _ _ PySem.W.KF.type_class (PySem.W.KF.args_gs _ _ _) ?_)
 unfold Builtin.«getset_descriptor.__get__»; unfold Builtin.Getset_descriptor.descrGet
 rw [PySem.W.dga_obj]; refine wpAny_bind (wpAny_pure ?_)
 unfold Builtin.Getset_descriptor.descrGetter Builtin.Getset_descriptor.descrCheckInstance Builtin.Getset_descriptor.descrNameAndClass isInstance
 simp only [PySem.W.KF.owner_class]; repeat lk
 refine ⟨Code.quiet_builtin _ (by decide +kernel), codeAny_builtin PySem.W.KF.entry_class ?_⟩
 unfold Builtin.«object.__class__»; unfold shownTypeOf; repeat lk
 exact h
theorem c2T {Q : Option Value -> Shared -> Prop} (X : K.In s.heap) (I : AtC x C s.heap) (k : Xk K C) (h : Q (some (.ref C)) { s with toks := s.toks + 1 }) :
  wpAny (model prog w) A (getAttr? (.ref x) "__class__") Q E s := by
 obtain ⟨hp, g, dr, t, os⟩ := s
 have L0 := I.type (M := model prog w)
 have L1 := PySem.W.looks_findIn (M := model prog w) X k.ga
 have L2 := PySem.W.looks_findIn (M := model prog w) X k.gh
 have L3 := c4K (M := model prog w) (x := x) X k
 have L4 := PySem.W.looks_mroIn (M := model prog w) X k.mb
 have ga := PySem.F.attr_ValueError.ga
 unfold getAttr? getAttrBy? getAttrBy
 refine wpAny_bind (wpAny_mkText (wpAny_bind (wpAny_attempt (wpAny_holding (wpAny_bind (L0.at (wpAny_bind (L1.at ?_))))))))
 show wpAny _ _ (getAttrByItsOwn _ _ _ _ _ _) _ _ _
 unfold getAttrByItsOwn hookBefore
 refine wpAny_bind ?_
 show wpAny _ _ (typeLookup (.ref C) "__getattr__") _ _ _
 refine L2.at ?_
 refine wpAny_bind (wpAny_attempt (wpAny_holding ?_))
 show wpAny _ _ (boundAndCalled _ _ _) _ _ _
 unfold boundAndCalled
 rw [ga.bind]
 refine wpAny_bind (wpAny_pure ?_)
 refine wpAny_call (codeAny_call_builtin ga.plain PySem.F.entry_bexc_ga ?_)
 have hk : builtinKind "BaseException.__getattribute__" = some .slot := by decide +kernel
 have hsp : splitId "BaseException.__getattribute__" = some ("BaseException", "__getattribute__") := by decide +kernel
 have LI : PySem.W.Looks (model prog w) hp (isInstance (.ref x) (.type "BaseException")) true := L0.andThen L4
 have ha := PySem.F.args_bexc_ga (.ref x) (.str "__class__" t)
 simp only [checkBuiltinCall, hk, hsp]
 refine wpAny_bind (LI.at ?_)
 repeat lk
 refine wpAny_run (c := .call _ _) (h := none) (b2Q (s := ⟨hp, g, dr, t + 1, os⟩) X I k ?_)
 dsimp only
 refine wpAny_pure (wpAny_pure ?_)
 dsimp only
 exact wpAny_pure (wpAny_pure h)
theorem xkit (k : Xk K C) : PySem.W.KitX K (.ref x) (.ref C) (AtC x C) where
 ty := fun _ _ _ I => I.type
 it := fun M h X _ => by
  have q := k.mo
  unfold PySem.W.mroIn at q
  obtain ⟨cd, hc, _⟩ := Option.bind_eq_some_iff.mp q
  unfold PySem.W.clsIn at hc
  split at hc
  ·rename_i c' d' cd' sl' ho
   intro A' Q' E' s' kk qq
   unfold isType; unfold loadHead
   exact wpAny_bind (wpAny_loadPart (kk _ _ (X _ _ ho)) (wpAny_pure qq))
  ·cases hc
 ne := fun h tp dd its n sl X htp => by
  have q := k.mo
  unfold PySem.W.mroIn at q
  obtain ⟨cd, hc, _⟩ := Option.bind_eq_some_iff.mp q
  refine Bool.eq_false_iff.mpr fun z => ?_
  have e : C = tp := Value.ref.inj (beq_iff_eq.mp z)
  subst e
  unfold PySem.W.clsIn at hc
  split at hc
  ·rename_i ho
   cases (X _ _ ho).symm.trans htp
  ·cases hc
 ca := fun X I q => c2T X I k q
end
def ExcO (p C : Addr) : HO := .ext (AtC p C)
theorem c0F {P : Program} {w : World} {H : Hp} {h : Heap} {p C : Addr} (a : AtC p C h) : ObjOk P w H h p (ExcO p C) :=
 ⟨a, let ⟨o, e, _⟩ := a; ⟨o, e⟩, fun h1 h2 ⟨o, e, c⟩ k => ⟨o, k o e, c⟩⟩
section
variable {X : Cx}
def c2U (K : Φρ) : List V -> Hp -> VK -> Prop := fun xs H Q => ∃ p C c cv b, xs = [.ref p, c] /\ H p = some (ExcO p C) /\ Xk K C /\ clsV c = some cv /\ PySem.W.kitOne K (.ref C) cv = some b /\ Q (.bl b) H
theorem a1X {K : Φρ} (e : X.K = K) : CallR X (.builtin "isinstance") (c2U K) := by
 subst e
 intro pins s σ H xs us Q I r h
 obtain ⟨p, C, c, cv, b, rfl, ep, k, hc, hk, q⟩ := h
 obtain ⟨u1, u2, rfl, r1, r2⟩ := b2E r
 obtain rfl := b0W hc r2
 cases (show u1 = Value.ref p from r1)
 obtain ⟨a, _⟩ := (show ObjOk X.prog X.w H s.heap p (ExcO p C) from I.hok p _ ep)
 exact PySem.W.kia_one (xkit k) I.kIn a hk (fun z => nomatch z) fun tk => ⟨.bl b, H, I.tok tk, rfl, q⟩
end
end L2
namespace L2
open PySem PySem.Spec PySem.Calls PyProof.Rows
structure UnB (fs : List Addr) (H H' : Hp) (h B : Heap) : Prop where
 keep : ∀ b o, h.get? b = some o -> H b = none -> b ∉ fs -> B.get? b = some o
 free : ∀ b o, h.get? b = some o -> H b = none -> H' b = none
 there : ∀ b o, h.get? b = some o -> b ∉ fs -> ∃ o', B.get? b = some o'
 tups : ∀ b xs, H b = some (.tup xs) -> H' b = some (.tup xs)
 frzs : ∀ b o u, H b = some (.frz o u) -> H' b = some (.frz o u)
 tbls : ∀ b ps, H b = some (.tbl ps) -> ∃ more, H' b = some (.tbl (ps ++ more))
def CXE (P : Program) (w : World) : CXT := fun outer H s E e s' => ∃ (p C : Addr) (a0 : Value) (B : Heap) (H' : Hp),
 e = .ref p /\ s'.os = s.os /\ AllBare s'.gens /\ Heap.FlyingW B outer p (.ref C) a0 s'.heap /\ HOk P w H' B /\ UnB (frs outer) H H' s.heap B /\
 (∀ b ∈ frs outer, ∀ o, s.heap.get? b = some o -> ∃ sl, s'.heap.get? b = some { o with slots := sl }) /\ H' p = none /\ E (.ref p) (some C) H'
theorem UnB.un {fs : List Addr} {H H' : Hp} {h B h' : Heap} (u : UnB fs H H' h B) (st : B.StaysIn h') (fr : ∀ b ∈ fs, ∀ o, h.get? b = some o -> ∃ sl, h'.get? b = some { o with slots := sl }) :
  Un fs [] H H' h h' where
 keep := fun b o e n hb _ => st b o (u.keep b o e n hb)
 slot := fun b o e n hb _ => fr b hb o e
 free := fun b o e n _ => u.free b o e n
 there := fun b o e _ => by
  by_cases hb : b ∈ fs
  ·obtain ⟨sl, q⟩ := fr b hb o e
   exact ⟨_, q⟩
  ·obtain ⟨o', q⟩ := u.there b o e hb
   exact ⟨o', st b o' q⟩
 tups := u.tups
 frzs := u.frzs
 tbls := u.tbls
section
variable {X : Cx} {pins : List (Addr × Obj)} {σ : St} {H H' : Hp} {s : Shared}
structure Own (X : Cx) : Prop where
 stk : X.stack = X.env :: X.outer
 fr : X.env.frame = some X.env.locals
 ex : X.ex = []
theorem Own.frs (O : Own X) : frs X.stack = X.env.locals :: X.fs := by
 rw [O.stk]; unfold L2.frs; rw [List.filterMap_cons, O.fr]; rfl
theorem Inv.unB {B : Heap} (I : Inv X pins σ H s) (O : Own X) (u : UnB (L2.frs X.stack) H H' s.heap B) : UnB X.fs X.H₀ H' X.s₀.heap B where
 keep := fun b o e n hb => by
  have nx : b ∉ X.ex := by rw [O.ex]; simp
  refine u.keep b o (I.base.keep b o e n hb nx) (I.base.free b o e n nx) ?_
  rw [O.frs]
  intro z
  rcases List.mem_cons.mp z with z | z
  ·exact absurd (Nat.lt_of_lt_of_le (Heap.lt_size e) I.ok.above) (by rw [z]; exact Nat.lt_irrefl _)
  ·exact hb z
 free := fun b o e n => by
  have nx : b ∉ X.ex := by rw [O.ex]; simp
  obtain ⟨o', e'⟩ := I.base.there b o e nx
  exact u.free b o' e' (I.base.free b o e n nx)
 there := fun b o e hb => by
  have nx : b ∉ X.ex := by rw [O.ex]; simp
  obtain ⟨o', e'⟩ := I.base.there b o e nx
  refine u.there b o' e' ?_
  rw [O.frs]
  intro z
  rcases List.mem_cons.mp z with z | z
  ·exact absurd (Nat.lt_of_lt_of_le (Heap.lt_size e) I.ok.above) (by rw [z]; exact Nat.lt_irrefl _)
  ·exact hb z
 tups := fun b xs e => u.tups b xs (I.base.tups b xs e)
 frzs := fun b o xs e => u.frzs b o xs (I.base.frzs b o xs e)
 tbls := fun b ps e => by
  obtain ⟨m1, e1⟩ := I.base.tbls b ps e
  obtain ⟨m2, e2⟩ := u.tbls b _ e1
  exact ⟨m1 ++ m2, by rw [e2, Array.append_assoc]⟩
theorem Inv.slots {h2 h3 : Heap} (I : Inv X pins σ H s) (O : Own X) (fr : ∀ b ∈ L2.frs X.stack, ∀ o, s.heap.get? b = some o -> ∃ sl, h2.get? b = some { o with slots := sl }) (hs : h2.UpToSlots h3) :
  ∀ b ∈ X.fs, ∀ o, X.s₀.heap.get? b = some o -> ∃ sl, h3.get? b = some { o with slots := sl } := fun b hb o e => by
 have nx : b ∉ X.ex := by rw [O.ex]; simp
 obtain ⟨sl, e1⟩ := I.base.slot b o e (I.ok.frf b hb) hb nx
 obtain ⟨sl2, e2⟩ := fr b (by rw [O.frs]; exact List.mem_cons_of_mem _ hb) _ e1
 obtain ⟨_, of, hof, hnf⟩ := I.ok.funs.mem hb
 rw [e] at hof
 cases hof
 obtain ⟨sl3, e3⟩ := hs b _ e2 hnf
 exact ⟨sl3, e3⟩
end
theorem a6I {P : Program} {w : World} {K : Φρ} {mg : Str -> Option Value} {base : Heap} {N : List Str} {qual : Str} {scope : Scope} {f : Addr} {cd : Value} {A : Around} {outer : List Env} {s : Shared} {H : Hp} {E : XK} :
  b0T (CXE P w) (cxOf (CXE P w) P w K mg base N qual scope f cd A outer s H E) E := by
 intro pins σ H1 s1 e s2 I h
 have O : Own (cxOf (CXE P w) P w K mg base N qual scope f cd A outer s H E) := ⟨rfl, rfl, rfl⟩
 obtain ⟨p, C, a0, B, H', rfl, os, bare, fl, hok, u, fr, hp, hE⟩ := h
 refine wpAny_leaves_onW (env := envOfC qual scope s.heap.objs.size f cd) (outer := outer) I.ok.frames rfl fl fun h3 fl3 hs => ?_
 exact ⟨p, C, a0, B, H', rfl, os.trans I.os, bare, fl3, hok, I.unB O u, I.slots O fr hs, hp, hE⟩
end L2
namespace L2
open PySem PySem.Spec PySem.Calls PyProof.Rows
theorem b7I {P : Program} {w : World} {H : Hp} {h : Heap} {a : Addr} {o : HO} (x : ObjOk P w H h a o) : ∃ ob, h.get? a = some ob := by
 cases o with
 | lst xs => obtain ⟨_, _, _, _, e⟩ := x; exact ⟨_, e⟩
 | tup xs => obtain ⟨_, _, _, p⟩ := x; obtain ⟨ob, e, _⟩ := p; exact ⟨ob, e⟩
 | dK kvs => obtain ⟨_, _, _, _, ob, _, _, e, _⟩ := x; exact ⟨ob, e⟩
 | dT kvs => obtain ⟨_, _, _, _, ob, _, _, e, _⟩ := x; exact ⟨ob, e⟩
 | set S n => obtain ⟨ob, _, _, _, e, _⟩ := x; exact ⟨ob, e⟩
 | ins C dx fs => obtain ⟨_, _, _, e, _⟩ := x; exact ⟨_, e⟩
 | own y => exact x
 | xd fs => obtain ⟨_, ⟨ob, _, _, e, _⟩, _⟩ := x; exact ⟨ob, e⟩
 | rng lo hi => obtain ⟨_, _, _, e⟩ := x; exact ⟨_, e⟩
 | frz ob u => obtain ⟨e, _⟩ := x; exact ⟨_, e⟩
 | tbl ps => exact ⟨_, x⟩
 | met f y => exact ⟨_, x⟩
 | ext φ => obtain ⟨_, e, _⟩ := x; exact e
theorem xobj {K : Φρ} {h : Heap} {C : Addr} {bl : List Value} {ni : String} (X : K.In h) (q : PySem.W.excIn K C bl ni = true) :
  ∃ bm N nm qn bs hd sn sub ab col dd k0 k1 k2 k3 k5 mN, h.get? C = some (excClassObj nm qn C N bs bm hd sn sub ab col dd k0 k1 k2 k3 k5 ni) /\ h.Ns N mN /\ mN "__init__" = none /\ OwnTail h bl bm := by
 unfold PySem.W.excIn at q
 split at q
 ·rename_i du cu su hu
  split at q
  ·rename_i Cu bu l0 l1 l2 l3 nu l5 mu eu
   simp only [Bool.and_eq_true, beq_iff_eq, Bool.not_eq_true'] at q
   obtain ⟨⟨⟨⟨⟨rfl, rfl⟩, nodel⟩, tl⟩, good⟩, noin⟩ := q
   obtain ⟨c1, c2, c3, c4, c5, c6, c7, c8, c9, c10, c11⟩ := cu
   dsimp only at mu nodel good noin
   subst mu nodel
   obtain ⟨ls⟩ := su
   dsimp only at eu
   subst eu
   exact ⟨bu, c4, c1, c5, c2, c6, c7, c8, c9, c10, du, l0, l1, l2, l3, l5, _, X _ _ hu, .of_isNs (PySem.W.isNs_of_in X good), PySem.W.nsMap_none_of_in X good noin, PySem.W.tail_of_in X tl⟩
  ·cases q
 ·cases q
def c2V (E : XK) (C : Addr) (t : TA) : TS := fun _ σ H => t σ H fun vs H1 => vs.length <= sizeLine /\ ∀ p, H1 p = none -> E (.ref p) (some C) H1
section
variable {P : Program} {w : World} {K : Φρ} {mg : Str -> Option Value} {base : Heap} {N : List Str} {qual : Str} {scope : Scope} {f : Addr} {cd : Value} {A : Around} {outer : List Env} {s₀ : Shared} {H₀ : Hp} {E : XK}
theorem b0G {pins : List (Addr × Obj)} {σ : St} {H : Hp} {s : Shared} {h' : Heap} {p C : Addr} {us : List Value}
  (I : Inv (cxOf (CXE P w) P w K mg base N qual scope f cd A outer s₀ H₀ E) pins σ H s) (m : Heap.MadeExcOf s.heap h' p (.ref C) us) (hE : H p = none -> E (.ref p) (some C) H) :
  (cxOf (CXE P w) P w K mg base N qual scope f cd A outer s₀ H₀ E).xe (.ref p) { s with heap := h' } := by
 have O : Own (cxOf (CXE P w) P w K mg base N qual scope f cd A outer s₀ H₀ E) := ⟨rfl, rfl, rfl⟩
 have hin : ∀ ev ∈ (envOfC qual scope s₀.heap.objs.size f cd :: outer), ∀ b, ev.frame = some b -> b ∈ frs (envOfC qual scope s₀.heap.objs.size f cd :: outer) := fun ev he b hb => List.mem_filterMap.mpr ⟨ev, he, hb⟩
 have hst : s.heap.FunFrames base (envOfC qual scope s₀.heap.objs.size f cd :: outer) := I.stack
 have hp : H p = none := by
  cases q : H p with
  | none => rfl
  | some u =>
   obtain ⟨ob, eo⟩ := b7I (I.hok p u q)
   have z := m.new
   rw [z] at eo; cases eo
 refine wpAny_leaves_madeW (base := PySem.W.hideAll s.heap (frs (envOfC qual scope s₀.heap.objs.size f cd :: outer))) (h := s.heap) (env := envOfC qual scope s₀.heap.objs.size f cd) (outer := outer) I.ok.frames rfl
  (fun b o q => PySem.W.of_hideAll _ q) (PySem.W.funFrames_hide hst hin) m fun h3 t fl tup nt up => ?_
 refine ⟨p, C, _, _, H, rfl, I.os, I.bare, fl, ?_, I.unB O ?_, I.slots O (h2 := h') ?_ up, hp, hE hp⟩
 ·intro a u e
  have nf : ∀ b v, H b = some v -> b ∉ frs (envOfC qual scope s₀.heap.objs.size f cd :: outer) := fun b v q z => by rw [I.stkFree b z] at q; cases q
  refine (I.hok a u e).stay (fun b v hb q => PySem.W.hideAll_get _ q ?_) (fun _ q => q) fun _ _ q => q
  rcases hb with rfl | hb
  ·exact nf _ _ e
  ·exact nf _ _ hb
 ·exact ⟨fun b o e n hb => PySem.W.hideAll_get _ e hb, fun b o e n => n, fun b o e hb => ⟨o, PySem.W.hideAll_get _ e hb⟩, fun b xs e => e, fun b o u e => e, fun b ps e => ⟨#[], by rw [e]; simp⟩⟩
 ·exact fun b hb o e => ⟨o.slots, m.keeps b o e⟩
theorem b1J {x : Str} {C : Addr} {np cpos pos : Pos} {e : Expr} {es : List Expr} {t : TA} (hd : (A.deeper (envOfC qual scope s₀.heap.objs.size f cd)).handled = none)
  (hg : Gl (cxOf (CXE P w) P w K mg base N qual scope f cd A outer s₀ H₀ E) x) (hm : mg x = some (.ref C)) (k : Xk K C) (ha : PA (cxOf (CXE P w) P w K mg base N qual scope f cd A outer s₀ H₀ E) (e :: es) t)
  (hdb : (x == ("__debug__" : Str)) = false := by decide)
  (he : starEach (e :: es) (envOfC qual scope s₀.heap.objs.size f cd) = (false, eval e (envOfC qual scope s₀.heap.objs.size f cd)) :: starEach es (envOfC qual scope s₀.heap.objs.size f cd) := by rfl)
  (hpl : (backTo cpos (starEach es (envOfC qual scope s₀.heap.objs.size f cd))).any (·.1) = false := by rfl) :
  PS (cxOf (CXE P w) P w K mg base N qual scope f cd A outer s₀ H₀ E) (.Raise (some (.Call (.Name x np) (e :: es) [] cpos)) none pos) (c2V E C t) := by
 intro pins s σ H D I h
 obtain ⟨bm, M, nm, qn, bs, hdc, sn, sub, ab, col, dd, k0, k1, k2, k3, k5, mN, hC, hN, hni, T⟩ := xobj I.mod.kin k.ex
 have FB := PySem.F.excBase_ValueError
 refine wpAny_Raise_call_subT (C := C) (nm := nm) (q := qn) (N := M) (bs := bs) (bm := bm) (hdct := hdc) (sn := sn) (sub := sub) (ab := ab) (col := col) (dd := dd) (k0 := k0) (k1 := k1) (k2 := k2) (k3 := k3) (k5 := k5) FB (mN := mN)
  (T.hasType FB.hasBase) hd (by show (backTo cpos (starEach (e :: es) (envOfC qual scope s₀.heap.objs.size f cd))).any (·.1) = false; rw [he]; show (false || (backTo cpos (starEach es (envOfC qual scope s₀.heap.objs.size f cd))).any (·.1)) = false; rw [hpl]; rfl) hni (a4B I hg hm ⟨rfl, ?_⟩ hdb)
 have z := ha cpos pins s σ H _ I h
 have he' : starEach (e :: es) (cxOf (CXE P w) P w K mg base N qual scope f cd A outer s₀ H₀ E).env = (false, eval e (cxOf (CXE P w) P w K mg base N qual scope f cd A outer s₀ H₀ E).env) :: starEach es (cxOf (CXE P w) P w K mg base N qual scope f cd A outer s₀ H₀ E).env := he
 rw [he'] at z ⊢
 refine Calls.evalArgs_plain (wpAny_mono z (fun us s2 ⟨vs, H2, I2, r, hl, q⟩ => ?_) fun _ _ y => y)
 exact ⟨rfl, (by rw [<- r.length]; exact hl), I2.bk _ _ hC, hN.keeps I2.bk, T.keeps I2.bk, fun h' p m => b0G I2 m (q p)⟩
end
end L2
namespace L2
open PySem PySem.Spec PySem.Calls PyProof.Rows
abbrev Cx.hand (X : Cx) (p : Addr) : Cx := { X with A := X.A.mark (some (.ref p)), calm := false, xe := fun _ _ => False }
section
variable {X : Cx} {pins : List (Addr × Obj)} {σ : St} {H : Hp} {s : Shared} {p : Addr}
theorem Inv.hand (I : Inv X pins σ H s) : Inv (X.hand p) pins σ H s :=
 ⟨⟨I.ok.mod, I.ok.kind, I.ok.glob, I.ok.blt, I.ok.above, I.ok.inj, I.ok.has, I.ok.cab, (fun z => by cases z), I.ok.frames, I.ok.stk, I.ok.exf, I.ok.bs, I.ok.bsz, I.ok.noex, I.ok.exfs, I.ok.funs, I.ok.frf⟩, I.os, I.bare, I.base, I.loc, I.cell, I.free, I.freeC, I.pin, I.hok, I.len⟩
theorem Inv.unhand (I : Inv (X.hand p) pins σ H s) (ok : X.Ok) : Inv X pins σ H s := ⟨ok, I.os, I.bare, I.base, I.loc, I.cell, I.free, I.freeC, I.pin, I.hok, I.len⟩
theorem Inv.gone {i : Nat} {n : Str} {v : Option Value} {m : Str -> Option Value} {h' : Heap} {t' : Nat} (I : Inv X pins σ H s) (hN : X.N.Nodup) (hi : X.N[i]? = some n) (hk : X.env.scope.names.lookup n = some .local) (hm : s.heap.Ns X.env.locals m)
  (hl : ∀ (j : Nat) (y : Str) (v : V), X.N[j]? = some y -> σ[j]? = some (some v) -> Vis X.env.scope y -> ∃ u, RelV v u /\ Look X.env s.heap m y u)
  (hn : h'.Ns X.env.locals (fun y => if y = n then v else m y)) (hs : Heap.SameBut X.env.locals s.heap h') : Inv X pins (σ.set i none) H { s with heap := h', toks := t' } := by
 have ne0 : ∀ b o, X.s₀.heap.get? b = some o -> b ≠ X.env.locals := fun b o e => Nat.ne_of_lt (Nat.lt_of_lt_of_le (Heap.lt_size e) I.ok.above)
 have ck : ∀ y c, X.env.cells.lookup y = some c -> ∀ w, s.heap.IsCell c w -> h'.IsCell c w := fun y c e w z => z.sameBut hs (I.cne y c e)
 refine ⟨I.ok, I.os, I.bare, ⟨?_, ?_, I.base.free, ?_, I.base.tups, I.base.frzs, I.base.tbls⟩, ⟨_, hn, ?_⟩, ?_, I.free, I.freeC, ?_, ?_, by rw [List.length_set]; exact I.len⟩
 ·intro b o e z hb hx
  exact (hs.2 b (ne0 b o e)).trans (I.base.keep b o e z hb hx)
 ·intro b o e z hb hx
  obtain ⟨sl, q⟩ := I.base.slot b o e z hb hx
  exact ⟨sl, (hs.2 b (ne0 b o e)).trans q⟩
 ·intro b o e hx
  obtain ⟨o', q⟩ := I.base.there b o e hx
  exact ⟨o', (hs.2 b (ne0 b o e)).trans q⟩
 ·intro j y v' e1 e2 e3
  have hj : j ≠ i := by
   rintro rfl
   rw [List.getElem?_set] at e2
   split at e2
   ·split at e2 <;> cases e2
   ·rename_i z; exact z rfl
  rw [List.getElem?_set_ne (Ne.symm hj)] at e2
  obtain ⟨u, r, q⟩ := hl j y v' e1 e2 e3
  refine ⟨u, r, ?_⟩
  rcases q with ⟨k, e⟩ | ⟨k, c, e, z⟩
  ·have hy : y ≠ n := fun e' => hj (a6Z hN e1 (e' ▸ hi))
   exact .inl ⟨k, by show (if y = n then v else m y) = some u; rw [if_neg hy]; exact e⟩
  ·exact .inr ⟨k, c, e, ck y c e _ z⟩
 ·intro y c e
  obtain ⟨w, z⟩ := I.cell y c e
  exact ⟨w, ck y c e w z⟩
 ·intro q hq
  obtain ⟨e, n', ne, nf, d⟩ := I.pin q hq
  exact ⟨(hs.2 q.1 ne).trans e, n', ne, nf, d⟩
 ·intro b u e
  have nl : ∀ c w, H c = some w -> c ≠ X.env.locals := fun c w q z => by rw [z, I.free] at q; cases q
  refine (I.hok b u e).stay (fun c w hc q => (hs.2 c ?_).trans q) (fun _ q => q) fun _ _ q => q
  rcases hc with rfl | hc
  ·exact nl _ _ e
  ·exact nl _ _ hc
def Ld (X : Cx) (pins : List (Addr × Obj)) (σ : St) (H' : Hp) (p C : Addr) (s : Shared) : Prop := ∃ (H1 : Hp) (s1 : Shared) (a0 : Value) (B : Heap), Inv X pins σ H1 s1 /\ s.os = s1.os /\ AllBare s.gens /\ Heap.FlyingW B X.stack p (.ref C) a0 s.heap /\
 HOk X.prog X.w H' B /\ UnB (frs X.stack) H1 H' s1.heap B /\ (∀ b ∈ frs X.stack, ∀ o, s1.heap.get? b = some o -> ∃ sl, s.heap.get? b = some { o with slots := sl }) /\ H' p = none
variable {C : Addr} {H' : Hp}
theorem b1K {l : List Env} {base g h h' : Heap} (F : g.FunFrames base l) (a : ∀ b ∈ frs l, ∀ o, g.get? b = some o -> ∃ sl, h.get? b = some { o with slots := sl }) (u : h.UpToSlots h') : ∀ b ∈ frs l, ∀ o, g.get? b = some o -> ∃ sl, h'.get? b = some { o with slots := sl } := fun b hb o e => by
 obtain ⟨sl, q⟩ := a b hb o e
 obtain ⟨_, of, hof, hnf⟩ := F.mem hb
 rw [e] at hof; cases hof
 obtain ⟨sl2, q2⟩ := u b _ q hnf
 exact ⟨sl2, q2⟩
theorem b7J {E : XK} {H1 : Hp} {s1 s2 : Shared} {e : Value} {M : Model} {A : Around} {XE : Value -> Shared -> Prop} {Q : Shared -> Prop} (hA : A.frames = some X.stack) (O : Own X) (I : Inv X pins σ H1 s1) (h : CXE X.prog X.w X.stack H1 s1 E e s2)
  (hQ : ∀ p C H' s', e = .ref p -> Ld X pins σ H' p C s' -> E (.ref p) (some C) H' -> Q s') :
  wpAny M A (noteFrame e X.env) (fun _ s₂ => wpAny M A (setFlight e none) (fun _ s₃ => Q s₃) XE s₂) XE s2 := by
 obtain ⟨p, C, a0, B, H', rfl, os, bare, fl, hok, u, fr, hp, hE⟩ := h
 rw [O.stk] at fl
 refine wpAny_looks_onW (by rw [hA, O.stk]) O.fr fl fun h3 held up3 => ?_
 refine wpAny_landsW held fun h4 fl4 up4 => ?_
 refine hQ p C H' _ rfl ⟨H1, s1, a0, B, I, os, bare, ?_, hok, u, ?_, hp⟩ hE
 ·rw [O.stk]; exact fl4
 ·exact b1K I.stack fr (up3.trans up4)
theorem b5J {M : Model} {A : Around} {XE : Value -> Shared -> Prop} {Q : Unit -> Shared -> Prop} (L : Ld X pins σ H' p C s) (hQ : ∀ s', Ld X pins σ H' p C s' -> Q () s') : wpAny M A (setFlight (.ref p) none) Q XE s := by
 obtain ⟨H1, s1, a0, B, I, os, bare, fl, hok, u, fr, hp⟩ := L
 exact lands_againW fl fun h4 fl4 up4 => hQ _ ⟨H1, s1, a0, B, I, os, bare, fl4, hok, u, b1K I.stack fr up4, hp⟩
theorem Ld.inv (L : Ld X pins σ H' p C s) : Inv X pins σ (upd H' p (ExcO p C)) s := by
 obtain ⟨H1, s1, a0, B, I, os, bare, fl, hok, u, fr, hp⟩ := L
 obtain ⟨oe, vs, he, hec, hed, _⟩ := fl.first
 have hat : AtC p C s.heap := ⟨oe, he, hec⟩
 have nB : ∀ b o, s1.heap.get? b = some o -> b ≠ p := fun b o e z => by
  by_cases hb : b ∈ frs X.stack
  ·obtain ⟨_, of, hof, hnf⟩ := I.stack.mem hb
   rw [e] at hof; cases hof
   obtain ⟨sl, q⟩ := fr b hb o e
   rw [z, he] at q; cases q
   exact hnf vs hed
  ·obtain ⟨o', q⟩ := u.there b o e hb
   rw [z, fl.2.1] at q; cases q
 have UN := u.un fl.1 fr
 refine I.call' os ⟨UN.keep, UN.slot, fun b o e n hx => ?_, UN.there, fun b xs e => ?_, fun b o xs e => ?_, fun b ps e => ?_⟩ ?_ bare (fun b z => absurd z (by simp))
 ·rw [a0P (nB b o e)]; exact UN.free b o e n hx
 ·have q := UN.tups b xs e
  rw [a0P (a0K q hp)]; exact q
 ·have q := UN.frzs b o xs e
  rw [a0P (a0K q hp)]; exact q
 ·obtain ⟨more, q⟩ := UN.tbls b ps e
  exact ⟨more, by rw [a0P (a0K q hp)]; exact q⟩
 ·intro b o e
  by_cases hb : b = p
  ·subst hb
   rw [a1V] at e; cases e
   exact c0F hat
  ·rw [a0P hb] at e
   exact (hok b o e).stay (fun c v _ q => fl.1 c v q) (fun c q => by rw [a0P (a0K q hp)]; exact q) fun c xs q => by rw [a0P (a0K q hp)]; exact q
end
end L2
namespace L2
open PySem PySem.Spec PySem.Calls PyProof.Rows
abbrev TXS := Ends -> (St -> XK) -> St -> Hp -> Prop
abbrev TXE := (St -> XK) -> St -> Hp -> VK -> Prop
def XEnd (X : Cx) (pins : List (Addr × Obj)) (E : St -> XK) (ev : Value) (s' : Shared) : Prop := ∃ σ1 H1 s1, Inv X pins σ1 H1 s1 /\ CXE X.prog X.w X.stack H1 s1 (E σ1) ev s'
def PXE (X : Cx) (e : Expr) (t : TXE) : Prop :=
 ∀ (pins : List (Addr × Obj)) (s : Shared) (σ : St) (H : Hp) (Q : VK) (E : St -> XK), Inv X pins σ H s -> t E σ H Q -> wpAny (model X.prog X.w) X.A (eval e X.env) (EP X pins σ Q) (XEnd X pins E) s
def PXS (X : Cx) (st : Stmt) (t : TXS) : Prop :=
 ∀ (pins : List (Addr × Obj)) (s : Shared) (σ : St) (H : Hp) (D : Ends) (E : St -> XK), Inv X pins σ H s -> t D E σ H -> wpAny (model X.prog X.w) X.A (exec st X.env) (SP X pins D) (XEnd X pins E) s
def PXSs (X : Cx) (sts : List Stmt) (t : TXS) : Prop :=
 ∀ (pins : List (Addr × Obj)) (s : Shared) (σ : St) (H : Hp) (D : Ends) (E : St -> XK), Inv X pins σ H s -> t D E σ H -> wpAny (model X.prog X.w) X.A (execs sts X.env) (SP X pins D) (XEnd X pins E) s
def NoX (X : Cx) : Prop := ∀ e s, X.xe e s -> False
section
variable {X : Cx} {st : Stmt} {rest : List Stmt} {e : Expr} {es : List Expr} {pos : Pos} {t u : TXS} {te : TXE}
theorem xthn {α : Type} {m : Sem α} {Q Q' : α -> Shared -> Prop} {M : Model} {A : Around} {E E' : Value -> Shared -> Prop} {s : Shared} (h : wpAny M A m Q E s) (hx : ∀ e s, E e s -> False) (hQ : ∀ a s, Q a s -> Q' a s) : wpAny M A m Q' E' s := wpAny_mono h hQ fun e s z => (hx e s z).elim
theorem b1L (h1 : PXS X st t) : PXSs X [st] t := by
 intro pins s σ H D E I h
 refine wpAny_execs_cons (thn (h1 pins s σ H D E I h) fun f s1 q => ?_)
 cases f with
 | next => exact wpAny_execs_nil q
 | ret v => exact q
 | brk => exact q
 | cont => exact q
theorem b1M (he : PXE X e te) (hs : swapsWith e none pos.line X.env = pure false := by rfl) : PXS X (.Expr e pos) (fun D E σ H => te E σ H fun _ H1 => D.nx σ H1) := by
 intro pins s σ H D E I h
 exact wpAny_Expr_any (thn (he pins s σ H _ E I h) fun v s1 ⟨x, H1, I1, r1, q1⟩ => ⟨σ, H1, I1, q1⟩) I.quiet hs
theorem b1N {k : Nat} {f : Addr} {fd : FuncData} {ps : List Str} {sp : Sp} {dvs : List V} {ds : List Value} {x : Str} {p : Pos} {t : TA} (hn : NoX X) (F : FnOk X.prog X.w X.K X.mg X.base (CXE X.prog X.w) k f fd ps sp) (hr : Room k X.A) (hg : Gl X x) (hm : X.mg x = some (.ref f))
  (hk : PySem.W.keepIn X.K (.ref f) = true) (hb : Binds X.K fd ps ds) (hd : Vals dvs ds) (ha : PA X (e :: es) t) (hdb : (x == ("__debug__" : Str)) = false := by decide)
  (he : starEach (e :: es) X.env = (false, eval e X.env) :: starEach es X.env := by rfl) (hpl : (backTo pos (starEach es X.env)).any (·.1) = false := by rfl) :
  PXE X (.Call (.Name x p) (e :: es) [] pos) (fun E σ H Q => t σ H fun vs H1 => sp (vs ++ dvs) H1 Q (E σ)) := by
 intro pins s σ H Q E I h
 refine wpAny_Call_Name_kw (a4B I hg hm ?_ hdb)
 refine PySem.W.callWith_K (h₀ := X.base) I.ok.mod.kin hk (xthn (ha pos pins s σ H _ I h) hn fun us s1 ⟨vs, H1, I1, r, q⟩ => ⟨I1.kIn, ?_⟩) he hpl
 have r2 : Vals (vs ++ dvs) (us ++ ds) := r.append hd
 have hl : (us ++ ds).length = ps.length := by rw [<- r2.length]; exact F.len _ _ _ _ q
 refine wpAny_call (codeAny_mono (F.run X.A X.stack s1 H1 ⟨[] ++ us, []⟩ (us ++ ds) (vs ++ dvs) Q (E σ) hr I1.env0 (hb s1 us I1.kIn hl) r2 q) fun r s' hq => ?_)
 cases r with
 | error ev => exact ⟨σ, H1, s1, I1, hq⟩
 | ok fl =>
  cases fl with
  | ret v => exact I1.after hq
  | next => exact False.elim hq
  | brk => exact False.elim hq
  | cont => exact False.elim hq
end
def PH (X : Cx) (p C : Addr) (hs : List ExceptHandler) (t : TS) : Prop :=
 ∀ (pins : List (Addr × Obj)) (s : Shared) (σ : St) (H' : Hp) (D : Ends), Ld X pins σ H' p C s -> t D σ (upd H' p (ExcO p C)) -> wpAny (model X.prog X.w) X.A (handleBy (.ref p) X.env hs) (SP X pins D) X.xe s
section
variable {X : Cx} {pos np : Pos} {t : TS} {tx : TXS} {p C : Addr}
def Ends.forget (D : Ends) (i : Nat) : Ends := { nx := fun σ H => D.nx (σ.set i none) H, rt := D.rt, bk := fun σ H => D.bk (σ.set i none) H, ct := fun σ H => D.ct (σ.set i none) H }
theorem c2W {D : Addr} {x n : Str} {i : Nat} {b₀ : Stmt} {suite : List Stmt} {rest : List ExceptHandler} (hg : Gl X x) (hm : X.mg x = some (.ref D)) (hx : PySem.W.exmOne X.K (.ref C) (.ref D) = some true) (hN : X.N.Nodup) (hi : X.N[i]? = some n)
  (hl : X.env.scope.names.lookup n = some .local) (hb : PSs (X.hand p) (b₀ :: suite) t) (hd : (x == ("__debug__" : Str)) = false := by decide) :
  PH X p C (.ExceptHandler (some (.Name x np)) (some n) (b₀ :: suite) pos :: rest) (fun D' σ H => t (D'.forget i) (σ.set i (some (.ref p))) H) := by
 intro pins s σ H' D' L h
 have I := L.inv
 have J := I.hand (p := p)
 refine wpAny_handleBy_cons (codeAny_handlers_test (a4B (X := X.hand p) J hg hm ?_ hd)) (by intro q; cases q)
 have hat : AtC p C s.heap := (show ObjOk X.prog X.w _ s.heap p (ExcO p C) from I.hok p _ a1V).1
 refine (PySem.W.exm_one (M := model X.prog X.w) I.kIn hat.type hx).here ?_
 refine codeAny_handlers_suite_as (b5J L fun s2 L2 => ?_)
 have I2 := L2.inv
 refine a7A (X := X.hand p) (I2.hand (p := p)) hN hi (.inl hl) (v := .ref p) (u := .ref p) rfl (fun s3 I3 => ?_) (.inr hl)
 refine wpAny_mono (hb pins s3 _ _ (D'.forget i) I3 h) (fun fl s4 q => ?_) fun _ _ z => False.elim z
 have fin : ∀ {σ4 : St} {H4 : Hp} {fl : Flow}, Inv (X.hand p) pins σ4 H4 s4 -> (∀ s5, Inv X pins (σ4.set i none) H4 s5 -> SP X pins D' fl s5) ->
   wpAny (model X.prog X.w) X.A (do bindName X.env n .none; unbindBehindTheSuite X.env n pos) (fun _ s5 => SP X pins D' fl s5) X.xe s4 := fun {σ4 H4 fl} J4 k => by
  have I4 := J4.unhand I.ok
  obtain ⟨m, hn, hl'⟩ := id I4.loc
  exact wpAny_nameGoes_keeps hl hn (by rw [I.ok.kind]; rfl) fun h5 v hn5 hs5 => k _ (I4.gone hN hi hl hn hl' hn5 hs5)
 cases fl with
 | next => obtain ⟨σ4, H4, J4, q⟩ := q; exact fin J4 fun s5 I5 => ⟨_, H4, I5, q⟩
 | brk => obtain ⟨σ4, H4, J4, q⟩ := q; exact fin J4 fun s5 I5 => ⟨_, H4, I5, q⟩
 | cont => obtain ⟨σ4, H4, J4, q⟩ := q; exact fin J4 fun s5 I5 => ⟨_, H4, I5, q⟩
 | ret u => obtain ⟨v, σ4, H4, J4, r, q⟩ := q; exact fin J4 fun s5 I5 => ⟨v, _, H4, I5, r, q⟩
theorem b8N {body : List Stmt} {h₀ : ExceptHandler} {hs : List ExceptHandler} {th : Addr -> Addr -> TS} {ok : Addr -> Prop} (O : Own X) (hb : PXSs X body tx) (hp : ∀ p C, ok C -> PH X p C (h₀ :: hs) (th p C)) :
  PS X (.Try body (h₀ :: hs) [] [] pos) (fun D σ H => tx D (fun σ1 v c H' => ∀ p C, v = .ref p -> c = some C -> ok C /\ th p C D σ1 (upd H' p (ExcO p C))) σ H) := by
 intro pins s σ H D I h
 refine wpAny_Try_except (wpAny_mono (hb pins s σ H D _ I h) (fun fl s1 q => ?_) fun ev s1 q => ?_)
 ·cases fl with
  | next => exact wpAny_execs_nil q
  | brk => exact q
  | cont => exact q
  | ret u => exact q
 ·obtain ⟨σ1, H1, s0, I1, hc⟩ := q
  refine b7J (XE := X.xe) I1.ok.frames O I1 hc fun p C H' s' e L hE => ?_
  subst e
  obtain ⟨o, z⟩ := hE p C rfl rfl
  exact hp p C o pins s' σ1 H' D L z
end
end L2
namespace L2
open PySem PySem.Spec PySem.Calls PyProof.Rows
theorem Fun.okE {P : Program} {w : World} {K : Φρ} {mg : Str -> Option Value} {base : Heap} {x qual : Str} {st : Stmt} {f : Addr} {fd : FuncData} {N ps : List Str} {k : Nat} {sp : Sp} (F : Fun K x qual st f fd) (S : FnScope N ps (a0D st)) (len : ∀ vs H Q E, sp vs H Q E -> vs.length = ps.length)
  (hbody : ∀ (cdv : Value) (A : Around) (outer : List Env) (s : Shared) (H : Hp) (vs : List V) (Q : VK) (E : XK), Room k (A.deeper (envOfC qual (a0D st) s.heap.objs.size f cdv)) -> sp vs H Q E ->
   ∃ t, PSs (cxOf (CXE P w) P w K mg base N qual (a0D st) f cdv A outer s H E) (a0U st) t /\ t { nx := fun _ H' => Q .non H', rt := Q } (a4D N vs) H) : FnOk P w K mg base (CXE P w) (k + 1) f fd ps sp := by
 obtain ⟨oc, od, kV, doc, pm, an, cdv, ct, osl, rfl, lk, hcd⟩ := F.ex
 exact c1R lk hcd S len fun A outer s H vs Q E hr hsp => hbody cdv A outer s H vs Q E hr hsp
end L2
namespace L2
open PySem PySem.Spec PySem.Calls PyProof.Rows
structure RoomH (k : Nat) (A : Around) : Prop where
 dp : A.depth + 3 * k + 5 < recursionLimit
 un : A.units + 16 * k + 200 < cLine
theorem Room.h {k : Nat} {A : Around} (r : Room k A) : RoomH k A := ⟨r.dp, r.un⟩
theorem RoomH.mark {k : Nat} {A : Around} (r : RoomH k A) (e : Option Value) : RoomH k (A.mark e) := ⟨r.dp, r.un⟩
theorem RoomH.mono {j k : Nat} {A : Around} (r : RoomH k A) (h : j <= k) : RoomH j A := ⟨by have := r.dp; omega, by have := r.un; omega⟩
theorem RoomH.deeper {k : Nat} {A : Around} (r : RoomH (k + 1) A) (env : Env) : RoomH k (A.deeper env) :=
 ⟨by have := r.dp; show A.depth + 1 + 3 * k + 5 < _; omega, by have := r.un; show A.units + 3 + 16 * k + 200 < _; omega⟩
structure FnOkH (P : Program) (w : World) (K : Φρ) (mg : Str -> Option Value) (base : Heap) (k : Nat) (f : Addr) (fd : FuncData) (ps : List Str) (sp : Sp) : Prop where
 len : ∀ vs H Q E, sp vs H Q E -> vs.length = ps.length
 run : ∀ (A : Around) (outer : List Env) (s : Shared) (H : Hp) (args : Args) (us : List Value) (vs : List V) (Q : VK) (E : XK), RoomH k A -> Env0 P w K mg base A outer s H -> BindsTo s fd args (ps.zip us) -> Vals vs us -> sp vs H Q E ->
  codeAny (model P w) A (.call (.ref f) args) (CR CX0 outer P w H s Q E) s
theorem FnOkH.mono {P : Program} {w : World} {K : Φρ} {mg : Str -> Option Value} {base : Heap} {j k : Nat} {f : Addr} {fd : FuncData} {ps : List Str} {sp : Sp} (F : FnOkH P w K mg base j f fd ps sp) (h : j <= k) : FnOkH P w K mg base k f fd ps sp :=
 ⟨F.len, fun A outer s H args us vs Q E hr => F.run A outer s H args us vs Q E (hr.mono h)⟩
abbrev Cx.stir (X : Cx) : Cx := { X with calm := false }
theorem Fun.okH {P : Program} {w : World} {K : Φρ} {mg : Str -> Option Value} {base : Heap} {x qual : Str} {st : Stmt} {f : Addr} {fd : FuncData} {N ps : List Str} {k : Nat} {sp : Sp} (F : Fun K x qual st f fd) (S : FnScope N ps (a0D st)) (len : ∀ vs H Q E, sp vs H Q E -> vs.length = ps.length)
  (hbody : ∀ (cdv : Value) (A : Around) (outer : List Env) (s : Shared) (H : Hp) (vs : List V) (Q : VK) (E : XK), RoomH k (A.deeper (envOfC qual (a0D st) s.heap.objs.size f cdv)) -> sp vs H Q E ->
   ∃ t, PSs ((cxOf CX0 P w K mg base N qual (a0D st) f cdv A outer s H E).nox.stir) (a0U st) t /\ t { nx := fun _ H' => Q .non H', rt := Q } (a4D N vs) H) : FnOkH P w K mg base (k + 1) f fd ps sp := by
 obtain ⟨oc, od, kV, doc, pm, an, cdv, ct, osl, rfl, lk, hcd⟩ := F.ex
 refine ⟨len, fun A outer s H args us vs Q E hr e0 hb r hsp => ?_⟩
 have hl := len _ _ _ _ hsp
 have KX : K.In s.heap := e0.mod.kin.keeps fun b o e => (e0.bs b o e).1
 have lim : s.heap.NoLimit := e0.mod.nolimit.keeps fun b o e => (e0.bs b o e).1
 have hkind : ∀ y ∈ ps.zip us, (a0D st).names.lookup y.1 = some .local \/ ((a0D st).names.lookup y.1 = some .cell /\ ((cellsFrom (s.heap.objs.size + 1) (a0D st).names []).lookup y.1).isSome = true) := fun ⟨n, v⟩ hy => by
  rcases S.par n (List.of_mem_zip hy).1 with q | q
  ·exact .inl q
  ·exact .inr ⟨q, PySem.W.cellsFrom_some _ _ _ (.inl q)⟩
 have hdep : A.depth < recursionLimit := by have := hr.dp; omega
 refine codeAny_call_function hdep (KX _ _ lk) rfl S.co S.gen rfl (PySem.W.codeRec_of KX hcd) (hb _ _ _ _ ?_)
 refine wpAny_newFunctionEnv_cells S.kind hkind fun env he s1 x => ?_
 subst he
 refine ⟨lim.keeps x.toInCall.keep, codeAny_func ?_⟩
 obtain ⟨t, ht, hq⟩ := hbody cdv A outer s H vs Q E (hr.deeper _) hsp
 have e1 : Env0 P w K mg base { A with handled := none } outer s H := ⟨e0.frames, e0.mod, e0.bs, e0.bsz, e0.funs, e0.frf, e0.hok, e0.bare⟩
 have I0 : Inv (cxOf CX0 P w K mg base N qual (a0D st) f cdv { A with handled := none } outer s H E) [] (a4D N vs) H s1 := a8E S rfl e1 hl r x
 have I : Inv ((cxOf CX0 P w K mg base N qual (a0D st) f cdv A outer s H E).nox.stir) [] (a4D N vs) H s1 :=
  ⟨⟨I0.ok.mod, I0.ok.kind, I0.ok.glob, I0.ok.blt, I0.ok.above, I0.ok.inj, I0.ok.has, I0.ok.cab, (fun z => by cases z), Around.frames_deeper e0.frames, I0.ok.stk, I0.ok.exf, I0.ok.bs, I0.ok.bsz, I0.ok.noex, I0.ok.exfs, I0.ok.funs, I0.ok.frf⟩, I0.os, I0.bare, I0.base, I0.loc, I0.cell, I0.free, I0.freeC, I0.pin, I0.hok, I0.len⟩
 refine wpAny_mono (ht [] s1 (a4D N vs) H _ I hq) (fun fl s' hs => ?_) fun e s' hs => hs.elim
 cases fl with
 | ret u =>
  obtain ⟨v, σ', H', J, rv, q⟩ := hs
  exact ⟨v, H', J.os, J.bare, J.base, J.hok, rv, q⟩
 | next =>
  obtain ⟨σ', H', J, q⟩ := hs
  exact ⟨V.non, H', J.os, J.bare, J.base, J.hok, rfl, q⟩
 | brk =>
  obtain ⟨_, _, _, q⟩ := hs
  exact False.elim q
 | cont =>
  obtain ⟨_, _, _, q⟩ := hs
  exact False.elim q
section
variable {X : Cx} {k : Nat} {f : Addr} {fd : FuncData} {ps : List Str} {sp : Sp} {dvs : List V} {ds : List Value} {x : Str} {p pos : Pos} {e : Expr} {es : List Expr} {t : TA}
theorem b1O (F : FnOkH X.prog X.w X.K X.mg X.base k f fd ps sp) (hr : RoomH k X.A) (hg : Gl X x) (hm : X.mg x = some (.ref f)) (hk : PySem.W.keepIn X.K (.ref f) = true) (hb : Binds X.K fd ps ds) (hd : Vals dvs ds)
  (ha : PA X (e :: es) t) (hdb : (x == ("__debug__" : Str)) = false := by decide) (he : starEach (e :: es) X.env = (false, eval e X.env) :: starEach es X.env := by rfl) (hpl : (backTo pos (starEach es X.env)).any (·.1) = false := by rfl) :
  PE X (.Call (.Name x p) (e :: es) [] pos) (c1P sp dvs E0 t) := by
 intro pins s σ H Q I h
 refine wpAny_Call_Name_kw (a4B I hg hm ?_ hdb)
 refine PySem.W.callWith_K (h₀ := X.base) I.ok.mod.kin hk (thn (ha pos pins s σ H _ I h) fun us s1 ⟨vs, H1, I1, r, q⟩ => ⟨I1.kIn, ?_⟩) he hpl
 have r2 : Vals (vs ++ dvs) (us ++ ds) := r.append hd
 have hl : (us ++ ds).length = ps.length := by rw [<- r2.length]; exact F.len _ _ _ _ q
 refine wpAny_call (codeAny_mono (F.run X.A X.stack s1 H1 ⟨[] ++ us, []⟩ (us ++ ds) (vs ++ dvs) Q E0 hr I1.env0 (hb s1 us I1.kIn hl) r2 q) fun r s' hq => ?_)
 cases r with
 | error ev => exact hq.elim
 | ok fl =>
  cases fl with
  | ret v => exact I1.after hq
  | next => exact False.elim hq
  | brk => exact False.elim hq
  | cont => exact False.elim hq
def c0G (K : Φρ) : List V -> Hp -> VK -> Prop := fun xs H Q => ∃ (p C q : Addr) (vs : List V) (cs : List Addr) (b : Bool), xs = [.ref p, .ref q] /\ H p = some (ExcO p C) /\ Xk K C /\ H q = some (.tup vs) /\ vs = cs.map V.ref /\ PySem.W.kitAny K (.ref C) (cs.map Value.ref) = some b /\ Q (.bl b) H
theorem a9B : ∀ {cs : List Addr} {us : List Value}, Vals (cs.map V.ref) us -> us = cs.map Value.ref
 | [], _, .nil => rfl
 | a :: r, _, .cons h t => by
  cases (show _ = Value.ref a from h)
  rw [a9B t]; rfl
theorem a5V {K : Φρ} (e : X.K = K) : CallR X (.builtin "isinstance") (c0G K) := by
 subst e
 intro pins s σ H xs us Q I r h
 obtain ⟨p, C, q, vs, cs, b, rfl, ep, k, eq, rfl, hk, qq⟩ := h
 obtain ⟨u1, u2, rfl, r1, r2⟩ := b2E r
 cases (show u1 = Value.ref p from r1)
 cases (show u2 = Value.ref q from r2)
 obtain ⟨a, _⟩ := (show ObjOk X.prog X.w H s.heap p (ExcO p C) from I.hok p _ ep)
 obtain ⟨_, its, rv, it⟩ := (show ObjOk X.prog X.w H s.heap q (.tup (cs.map V.ref)) from I.hok q _ eq)
 obtain ⟨o, e1, e2, n, e3⟩ := it
 obtain ⟨oc, od, da, sl⟩ := o
 dsimp only at e2 e3
 subst e2 e3
 have hi := a9B rv
 subst hi
 exact PySem.W.kia_tup (xkit k) I.kIn a e1 hk (fun z => nomatch z) fun tk => ⟨.bl b, H, I.tok tk, rfl, qq⟩
end
end L2
namespace K
open PySem L2 Lw Bg
def top (i : Nat) : Stmt := PySem.Challenge.pw_bagwood_k22_no_order_no_place.main.body.getD i (.Pass ⟨0, 0, 0, 0⟩)
structure Cl (K : Φρ) (mg : Str -> Option Value) where
 BagError : Addr
 m_BagError : mg "BagError" = some (.ref BagError)
 NoGraph : Addr
 m_NoGraph : mg "NoGraph" = some (.ref NoGraph)
 NoPlace : Addr
 m_NoPlace : mg "NoPlace" = some (.ref NoPlace)
 NoTie : Addr
 m_NoTie : mg "NoTie" = some (.ref NoTie)
 NoBag : Addr
 m_NoBag : mg "NoBag" = some (.ref NoBag)
 NoTree : Addr
 m_NoTree : mg "NoTree" = some (.ref NoTree)
 NoOrder : Addr
 m_NoOrder : mg "NoOrder" = some (.ref NoOrder)
 NoPart : Addr
 m_NoPart : mg "NoPart" = some (.ref NoPart)
 NoSteps : Addr
 m_NoSteps : mg "NoSteps" = some (.ref NoSteps)
 TooWide : Addr
 m_TooWide : mg "TooWide" = some (.ref TooWide)
 NoColours : Addr
 m_NoColours : mg "NoColours" = some (.ref NoColours)
 NoWeights : Addr
 m_NoWeights : mg "NoWeights" = some (.ref NoWeights)
 NoNumber : Addr
 m_NoNumber : mg "NoNumber" = some (.ref NoNumber)
 NoName : Addr
 m_NoName : mg "NoName" = some (.ref NoName)
 NoText : Addr
 m_NoText : mg "NoText" = some (.ref NoText)
 NoRow : Addr
 m_NoRow : mg "NoRow" = some (.ref NoRow)
 k_NoOrder : Xk K NoOrder
 v_NoOrder : PySem.W.kitOne K (.ref NoOrder) (.type "ValueError") = some true
 q_NoOrder_BagError : PySem.W.kitOne K (.ref NoOrder) (.ref BagError) = some true
 x_NoOrder_BagError : PySem.W.exmOne K (.ref NoOrder) (.ref BagError) = some true
 q_NoOrder_NoGraph : PySem.W.kitOne K (.ref NoOrder) (.ref NoGraph) = some false
 x_NoOrder_NoGraph : PySem.W.exmOne K (.ref NoOrder) (.ref NoGraph) = some false
 q_NoOrder_NoPlace : PySem.W.kitOne K (.ref NoOrder) (.ref NoPlace) = some false
 x_NoOrder_NoPlace : PySem.W.exmOne K (.ref NoOrder) (.ref NoPlace) = some false
 q_NoOrder_NoTie : PySem.W.kitOne K (.ref NoOrder) (.ref NoTie) = some false
 x_NoOrder_NoTie : PySem.W.exmOne K (.ref NoOrder) (.ref NoTie) = some false
 q_NoOrder_NoBag : PySem.W.kitOne K (.ref NoOrder) (.ref NoBag) = some false
 x_NoOrder_NoBag : PySem.W.exmOne K (.ref NoOrder) (.ref NoBag) = some false
 q_NoOrder_NoTree : PySem.W.kitOne K (.ref NoOrder) (.ref NoTree) = some false
 x_NoOrder_NoTree : PySem.W.exmOne K (.ref NoOrder) (.ref NoTree) = some false
 q_NoOrder_NoOrder : PySem.W.kitOne K (.ref NoOrder) (.ref NoOrder) = some true
 x_NoOrder_NoOrder : PySem.W.exmOne K (.ref NoOrder) (.ref NoOrder) = some true
 q_NoOrder_NoPart : PySem.W.kitOne K (.ref NoOrder) (.ref NoPart) = some false
 x_NoOrder_NoPart : PySem.W.exmOne K (.ref NoOrder) (.ref NoPart) = some false
 q_NoOrder_NoSteps : PySem.W.kitOne K (.ref NoOrder) (.ref NoSteps) = some false
 x_NoOrder_NoSteps : PySem.W.exmOne K (.ref NoOrder) (.ref NoSteps) = some false
 q_NoOrder_TooWide : PySem.W.kitOne K (.ref NoOrder) (.ref TooWide) = some false
 x_NoOrder_TooWide : PySem.W.exmOne K (.ref NoOrder) (.ref TooWide) = some false
 q_NoOrder_NoColours : PySem.W.kitOne K (.ref NoOrder) (.ref NoColours) = some false
 x_NoOrder_NoColours : PySem.W.exmOne K (.ref NoOrder) (.ref NoColours) = some false
 q_NoOrder_NoWeights : PySem.W.kitOne K (.ref NoOrder) (.ref NoWeights) = some false
 x_NoOrder_NoWeights : PySem.W.exmOne K (.ref NoOrder) (.ref NoWeights) = some false
 q_NoOrder_NoNumber : PySem.W.kitOne K (.ref NoOrder) (.ref NoNumber) = some false
 x_NoOrder_NoNumber : PySem.W.exmOne K (.ref NoOrder) (.ref NoNumber) = some false
 q_NoOrder_NoName : PySem.W.kitOne K (.ref NoOrder) (.ref NoName) = some false
 x_NoOrder_NoName : PySem.W.exmOne K (.ref NoOrder) (.ref NoName) = some false
 q_NoOrder_NoText : PySem.W.kitOne K (.ref NoOrder) (.ref NoText) = some false
 x_NoOrder_NoText : PySem.W.exmOne K (.ref NoOrder) (.ref NoText) = some false
 q_NoOrder_NoRow : PySem.W.kitOne K (.ref NoOrder) (.ref NoRow) = some false
 x_NoOrder_NoRow : PySem.W.exmOne K (.ref NoOrder) (.ref NoRow) = some false
 k_NoPlace : Xk K NoPlace
 v_NoPlace : PySem.W.kitOne K (.ref NoPlace) (.type "ValueError") = some true
 q_NoPlace_BagError : PySem.W.kitOne K (.ref NoPlace) (.ref BagError) = some true
 x_NoPlace_BagError : PySem.W.exmOne K (.ref NoPlace) (.ref BagError) = some true
 q_NoPlace_NoGraph : PySem.W.kitOne K (.ref NoPlace) (.ref NoGraph) = some false
 x_NoPlace_NoGraph : PySem.W.exmOne K (.ref NoPlace) (.ref NoGraph) = some false
 q_NoPlace_NoPlace : PySem.W.kitOne K (.ref NoPlace) (.ref NoPlace) = some true
 x_NoPlace_NoPlace : PySem.W.exmOne K (.ref NoPlace) (.ref NoPlace) = some true
 q_NoPlace_NoTie : PySem.W.kitOne K (.ref NoPlace) (.ref NoTie) = some false
 x_NoPlace_NoTie : PySem.W.exmOne K (.ref NoPlace) (.ref NoTie) = some false
 q_NoPlace_NoBag : PySem.W.kitOne K (.ref NoPlace) (.ref NoBag) = some false
 x_NoPlace_NoBag : PySem.W.exmOne K (.ref NoPlace) (.ref NoBag) = some false
 q_NoPlace_NoTree : PySem.W.kitOne K (.ref NoPlace) (.ref NoTree) = some false
 x_NoPlace_NoTree : PySem.W.exmOne K (.ref NoPlace) (.ref NoTree) = some false
 q_NoPlace_NoOrder : PySem.W.kitOne K (.ref NoPlace) (.ref NoOrder) = some false
 x_NoPlace_NoOrder : PySem.W.exmOne K (.ref NoPlace) (.ref NoOrder) = some false
 q_NoPlace_NoPart : PySem.W.kitOne K (.ref NoPlace) (.ref NoPart) = some false
 x_NoPlace_NoPart : PySem.W.exmOne K (.ref NoPlace) (.ref NoPart) = some false
 q_NoPlace_NoSteps : PySem.W.kitOne K (.ref NoPlace) (.ref NoSteps) = some false
 x_NoPlace_NoSteps : PySem.W.exmOne K (.ref NoPlace) (.ref NoSteps) = some false
 q_NoPlace_TooWide : PySem.W.kitOne K (.ref NoPlace) (.ref TooWide) = some false
 x_NoPlace_TooWide : PySem.W.exmOne K (.ref NoPlace) (.ref TooWide) = some false
 q_NoPlace_NoColours : PySem.W.kitOne K (.ref NoPlace) (.ref NoColours) = some false
 x_NoPlace_NoColours : PySem.W.exmOne K (.ref NoPlace) (.ref NoColours) = some false
 q_NoPlace_NoWeights : PySem.W.kitOne K (.ref NoPlace) (.ref NoWeights) = some false
 x_NoPlace_NoWeights : PySem.W.exmOne K (.ref NoPlace) (.ref NoWeights) = some false
 q_NoPlace_NoNumber : PySem.W.kitOne K (.ref NoPlace) (.ref NoNumber) = some false
 x_NoPlace_NoNumber : PySem.W.exmOne K (.ref NoPlace) (.ref NoNumber) = some false
 q_NoPlace_NoName : PySem.W.kitOne K (.ref NoPlace) (.ref NoName) = some false
 x_NoPlace_NoName : PySem.W.exmOne K (.ref NoPlace) (.ref NoName) = some false
 q_NoPlace_NoText : PySem.W.kitOne K (.ref NoPlace) (.ref NoText) = some false
 x_NoPlace_NoText : PySem.W.exmOne K (.ref NoPlace) (.ref NoText) = some false
 q_NoPlace_NoRow : PySem.W.kitOne K (.ref NoPlace) (.ref NoRow) = some false
 x_NoPlace_NoRow : PySem.W.exmOne K (.ref NoPlace) (.ref NoRow) = some false
theorem c4N {K : Φρ} {h : Heap} {mg : Str -> Option Value} {BagError NoGraph NoPlace NoTie NoBag NoTree NoOrder NoPart NoSteps TooWide NoColours NoWeights NoNumber NoName NoText NoRow : Addr} (X : K.In h) (G : h.Ns mainGlobals mg)
  (a_BagError : PySem.W.nsIn K mainGlobals "BagError" = some (some (.ref BagError)))
  (a_NoGraph : PySem.W.nsIn K mainGlobals "NoGraph" = some (some (.ref NoGraph)))
  (a_NoPlace : PySem.W.nsIn K mainGlobals "NoPlace" = some (some (.ref NoPlace)))
  (a_NoTie : PySem.W.nsIn K mainGlobals "NoTie" = some (some (.ref NoTie)))
  (a_NoBag : PySem.W.nsIn K mainGlobals "NoBag" = some (some (.ref NoBag)))
  (a_NoTree : PySem.W.nsIn K mainGlobals "NoTree" = some (some (.ref NoTree)))
  (a_NoOrder : PySem.W.nsIn K mainGlobals "NoOrder" = some (some (.ref NoOrder)))
  (a_NoPart : PySem.W.nsIn K mainGlobals "NoPart" = some (some (.ref NoPart)))
  (a_NoSteps : PySem.W.nsIn K mainGlobals "NoSteps" = some (some (.ref NoSteps)))
  (a_TooWide : PySem.W.nsIn K mainGlobals "TooWide" = some (some (.ref TooWide)))
  (a_NoColours : PySem.W.nsIn K mainGlobals "NoColours" = some (some (.ref NoColours)))
  (a_NoWeights : PySem.W.nsIn K mainGlobals "NoWeights" = some (some (.ref NoWeights)))
  (a_NoNumber : PySem.W.nsIn K mainGlobals "NoNumber" = some (some (.ref NoNumber)))
  (a_NoName : PySem.W.nsIn K mainGlobals "NoName" = some (some (.ref NoName)))
  (a_NoText : PySem.W.nsIn K mainGlobals "NoText" = some (some (.ref NoText)))
  (a_NoRow : PySem.W.nsIn K mainGlobals "NoRow" = some (some (.ref NoRow)))
  (g_NoOrder : Xk K NoOrder)
  (t_NoOrder : [PySem.W.kitOne K (.ref NoOrder) (.type "ValueError"), PySem.W.kitOne K (.ref NoOrder) (.ref BagError), PySem.W.exmOne K (.ref NoOrder) (.ref BagError), PySem.W.kitOne K (.ref NoOrder) (.ref NoGraph), PySem.W.exmOne K (.ref NoOrder) (.ref NoGraph), PySem.W.kitOne K (.ref NoOrder) (.ref NoPlace), PySem.W.exmOne K (.ref NoOrder) (.ref NoPlace), PySem.W.kitOne K (.ref NoOrder) (.ref NoTie), PySem.W.exmOne K (.ref NoOrder) (.ref NoTie), PySem.W.kitOne K (.ref NoOrder) (.ref NoBag), PySem.W.exmOne K (.ref NoOrder) (.ref NoBag), PySem.W.kitOne K (.ref NoOrder) (.ref NoTree), PySem.W.exmOne K (.ref NoOrder) (.ref NoTree), PySem.W.kitOne K (.ref NoOrder) (.ref NoOrder), PySem.W.exmOne K (.ref NoOrder) (.ref NoOrder), PySem.W.kitOne K (.ref NoOrder) (.ref NoPart), PySem.W.exmOne K (.ref NoOrder) (.ref NoPart), PySem.W.kitOne K (.ref NoOrder) (.ref NoSteps), PySem.W.exmOne K (.ref NoOrder) (.ref NoSteps), PySem.W.kitOne K (.ref NoOrder) (.ref TooWide), PySem.W.exmOne K (.ref NoOrder) (.ref TooWide), PySem.W.kitOne K (.ref NoOrder) (.ref NoColours), PySem.W.exmOne K (.ref NoOrder) (.ref NoColours), PySem.W.kitOne K (.ref NoOrder) (.ref NoWeights), PySem.W.exmOne K (.ref NoOrder) (.ref NoWeights), PySem.W.kitOne K (.ref NoOrder) (.ref NoNumber), PySem.W.exmOne K (.ref NoOrder) (.ref NoNumber), PySem.W.kitOne K (.ref NoOrder) (.ref NoName), PySem.W.exmOne K (.ref NoOrder) (.ref NoName), PySem.W.kitOne K (.ref NoOrder) (.ref NoText), PySem.W.exmOne K (.ref NoOrder) (.ref NoText), PySem.W.kitOne K (.ref NoOrder) (.ref NoRow), PySem.W.exmOne K (.ref NoOrder) (.ref NoRow)] = [some true, some true, some true, some false, some false, some false, some false, some false, some false, some false, some false, some false, some false, some true, some true, some false, some false, some false, some false, some false, some false, some false, some false, some false, some false, some false, some false, some false, some false, some false, some false, some false, some false])
  (g_NoPlace : Xk K NoPlace)
  (t_NoPlace : [PySem.W.kitOne K (.ref NoPlace) (.type "ValueError"), PySem.W.kitOne K (.ref NoPlace) (.ref BagError), PySem.W.exmOne K (.ref NoPlace) (.ref BagError), PySem.W.kitOne K (.ref NoPlace) (.ref NoGraph), PySem.W.exmOne K (.ref NoPlace) (.ref NoGraph), PySem.W.kitOne K (.ref NoPlace) (.ref NoPlace), PySem.W.exmOne K (.ref NoPlace) (.ref NoPlace), PySem.W.kitOne K (.ref NoPlace) (.ref NoTie), PySem.W.exmOne K (.ref NoPlace) (.ref NoTie), PySem.W.kitOne K (.ref NoPlace) (.ref NoBag), PySem.W.exmOne K (.ref NoPlace) (.ref NoBag), PySem.W.kitOne K (.ref NoPlace) (.ref NoTree), PySem.W.exmOne K (.ref NoPlace) (.ref NoTree), PySem.W.kitOne K (.ref NoPlace) (.ref NoOrder), PySem.W.exmOne K (.ref NoPlace) (.ref NoOrder), PySem.W.kitOne K (.ref NoPlace) (.ref NoPart), PySem.W.exmOne K (.ref NoPlace) (.ref NoPart), PySem.W.kitOne K (.ref NoPlace) (.ref NoSteps), PySem.W.exmOne K (.ref NoPlace) (.ref NoSteps), PySem.W.kitOne K (.ref NoPlace) (.ref TooWide), PySem.W.exmOne K (.ref NoPlace) (.ref TooWide), PySem.W.kitOne K (.ref NoPlace) (.ref NoColours), PySem.W.exmOne K (.ref NoPlace) (.ref NoColours), PySem.W.kitOne K (.ref NoPlace) (.ref NoWeights), PySem.W.exmOne K (.ref NoPlace) (.ref NoWeights), PySem.W.kitOne K (.ref NoPlace) (.ref NoNumber), PySem.W.exmOne K (.ref NoPlace) (.ref NoNumber), PySem.W.kitOne K (.ref NoPlace) (.ref NoName), PySem.W.exmOne K (.ref NoPlace) (.ref NoName), PySem.W.kitOne K (.ref NoPlace) (.ref NoText), PySem.W.exmOne K (.ref NoPlace) (.ref NoText), PySem.W.kitOne K (.ref NoPlace) (.ref NoRow), PySem.W.exmOne K (.ref NoPlace) (.ref NoRow)] = [some true, some true, some true, some false, some false, some true, some true, some false, some false, some false, some false, some false, some false, some false, some false, some false, some false, some false, some false, some false, some false, some false, some false, some false, some false, some false, some false, some false, some false, some false, some false, some false, some false]) : Nonempty (Cl K mg) := by
 simp only [List.cons.injEq] at t_NoOrder
 obtain ⟨w_NoOrder, b_NoOrder_BagError, c_NoOrder_BagError, b_NoOrder_NoGraph, c_NoOrder_NoGraph, b_NoOrder_NoPlace, c_NoOrder_NoPlace, b_NoOrder_NoTie, c_NoOrder_NoTie, b_NoOrder_NoBag, c_NoOrder_NoBag, b_NoOrder_NoTree, c_NoOrder_NoTree, b_NoOrder_NoOrder, c_NoOrder_NoOrder, b_NoOrder_NoPart, c_NoOrder_NoPart, b_NoOrder_NoSteps, c_NoOrder_NoSteps, b_NoOrder_TooWide, c_NoOrder_TooWide, b_NoOrder_NoColours, c_NoOrder_NoColours, b_NoOrder_NoWeights, c_NoOrder_NoWeights, b_NoOrder_NoNumber, c_NoOrder_NoNumber, b_NoOrder_NoName, c_NoOrder_NoName, b_NoOrder_NoText, c_NoOrder_NoText, b_NoOrder_NoRow, c_NoOrder_NoRow, _⟩ := t_NoOrder
 simp only [List.cons.injEq] at t_NoPlace
 obtain ⟨w_NoPlace, b_NoPlace_BagError, c_NoPlace_BagError, b_NoPlace_NoGraph, c_NoPlace_NoGraph, b_NoPlace_NoPlace, c_NoPlace_NoPlace, b_NoPlace_NoTie, c_NoPlace_NoTie, b_NoPlace_NoBag, c_NoPlace_NoBag, b_NoPlace_NoTree, c_NoPlace_NoTree, b_NoPlace_NoOrder, c_NoPlace_NoOrder, b_NoPlace_NoPart, c_NoPlace_NoPart, b_NoPlace_NoSteps, c_NoPlace_NoSteps, b_NoPlace_TooWide, c_NoPlace_TooWide, b_NoPlace_NoColours, c_NoPlace_NoColours, b_NoPlace_NoWeights, c_NoPlace_NoWeights, b_NoPlace_NoNumber, c_NoPlace_NoNumber, b_NoPlace_NoName, c_NoPlace_NoName, b_NoPlace_NoText, c_NoPlace_NoText, b_NoPlace_NoRow, c_NoPlace_NoRow, _⟩ := t_NoPlace
 exact ⟨{ BagError := BagError, m_BagError := PySem.W.mg_of X G a_BagError, NoGraph := NoGraph, m_NoGraph := PySem.W.mg_of X G a_NoGraph, NoPlace := NoPlace, m_NoPlace := PySem.W.mg_of X G a_NoPlace, NoTie := NoTie, m_NoTie := PySem.W.mg_of X G a_NoTie, NoBag := NoBag, m_NoBag := PySem.W.mg_of X G a_NoBag, NoTree := NoTree, m_NoTree := PySem.W.mg_of X G a_NoTree, NoOrder := NoOrder, m_NoOrder := PySem.W.mg_of X G a_NoOrder, NoPart := NoPart, m_NoPart := PySem.W.mg_of X G a_NoPart, NoSteps := NoSteps, m_NoSteps := PySem.W.mg_of X G a_NoSteps, TooWide := TooWide, m_TooWide := PySem.W.mg_of X G a_TooWide, NoColours := NoColours, m_NoColours := PySem.W.mg_of X G a_NoColours, NoWeights := NoWeights, m_NoWeights := PySem.W.mg_of X G a_NoWeights, NoNumber := NoNumber, m_NoNumber := PySem.W.mg_of X G a_NoNumber, NoName := NoName, m_NoName := PySem.W.mg_of X G a_NoName, NoText := NoText, m_NoText := PySem.W.mg_of X G a_NoText, NoRow := NoRow, m_NoRow := PySem.W.mg_of X G a_NoRow, k_NoOrder := g_NoOrder, v_NoOrder := w_NoOrder, q_NoOrder_BagError := b_NoOrder_BagError, x_NoOrder_BagError := c_NoOrder_BagError, q_NoOrder_NoGraph := b_NoOrder_NoGraph, x_NoOrder_NoGraph := c_NoOrder_NoGraph, q_NoOrder_NoPlace := b_NoOrder_NoPlace, x_NoOrder_NoPlace := c_NoOrder_NoPlace, q_NoOrder_NoTie := b_NoOrder_NoTie, x_NoOrder_NoTie := c_NoOrder_NoTie, q_NoOrder_NoBag := b_NoOrder_NoBag, x_NoOrder_NoBag := c_NoOrder_NoBag, q_NoOrder_NoTree := b_NoOrder_NoTree, x_NoOrder_NoTree := c_NoOrder_NoTree, q_NoOrder_NoOrder := b_NoOrder_NoOrder, x_NoOrder_NoOrder := c_NoOrder_NoOrder, q_NoOrder_NoPart := b_NoOrder_NoPart, x_NoOrder_NoPart := c_NoOrder_NoPart, q_NoOrder_NoSteps := b_NoOrder_NoSteps, x_NoOrder_NoSteps := c_NoOrder_NoSteps, q_NoOrder_TooWide := b_NoOrder_TooWide, x_NoOrder_TooWide := c_NoOrder_TooWide, q_NoOrder_NoColours := b_NoOrder_NoColours, x_NoOrder_NoColours := c_NoOrder_NoColours, q_NoOrder_NoWeights := b_NoOrder_NoWeights, x_NoOrder_NoWeights := c_NoOrder_NoWeights, q_NoOrder_NoNumber := b_NoOrder_NoNumber, x_NoOrder_NoNumber := c_NoOrder_NoNumber, q_NoOrder_NoName := b_NoOrder_NoName, x_NoOrder_NoName := c_NoOrder_NoName, q_NoOrder_NoText := b_NoOrder_NoText, x_NoOrder_NoText := c_NoOrder_NoText, q_NoOrder_NoRow := b_NoOrder_NoRow, x_NoOrder_NoRow := c_NoOrder_NoRow, k_NoPlace := g_NoPlace, v_NoPlace := w_NoPlace, q_NoPlace_BagError := b_NoPlace_BagError, x_NoPlace_BagError := c_NoPlace_BagError, q_NoPlace_NoGraph := b_NoPlace_NoGraph, x_NoPlace_NoGraph := c_NoPlace_NoGraph, q_NoPlace_NoPlace := b_NoPlace_NoPlace, x_NoPlace_NoPlace := c_NoPlace_NoPlace, q_NoPlace_NoTie := b_NoPlace_NoTie, x_NoPlace_NoTie := c_NoPlace_NoTie, q_NoPlace_NoBag := b_NoPlace_NoBag, x_NoPlace_NoBag := c_NoPlace_NoBag, q_NoPlace_NoTree := b_NoPlace_NoTree, x_NoPlace_NoTree := c_NoPlace_NoTree, q_NoPlace_NoOrder := b_NoPlace_NoOrder, x_NoPlace_NoOrder := c_NoPlace_NoOrder, q_NoPlace_NoPart := b_NoPlace_NoPart, x_NoPlace_NoPart := c_NoPlace_NoPart, q_NoPlace_NoSteps := b_NoPlace_NoSteps, x_NoPlace_NoSteps := c_NoPlace_NoSteps, q_NoPlace_TooWide := b_NoPlace_TooWide, x_NoPlace_TooWide := c_NoPlace_TooWide, q_NoPlace_NoColours := b_NoPlace_NoColours, x_NoPlace_NoColours := c_NoPlace_NoColours, q_NoPlace_NoWeights := b_NoPlace_NoWeights, x_NoPlace_NoWeights := c_NoPlace_NoWeights, q_NoPlace_NoNumber := b_NoPlace_NoNumber, x_NoPlace_NoNumber := c_NoPlace_NoNumber, q_NoPlace_NoName := b_NoPlace_NoName, x_NoPlace_NoName := c_NoPlace_NoName, q_NoPlace_NoText := b_NoPlace_NoText, x_NoPlace_NoText := c_NoPlace_NoText, q_NoPlace_NoRow := b_NoPlace_NoRow, x_NoPlace_NoRow := c_NoPlace_NoRow }⟩
abbrev a6V : Stmt := top 18
theorem b0H : FnScope ["thing"] ["thing"] (a0D a6V) := ⟨rfl, rfl, rfl, by decide +kernel, rfl, by decide +kernel, by decide +kernel⟩
abbrev a6W : Stmt := top 19
theorem b0I : FnScope ["n", "thing"] ["n", "thing"] (a0D a6W) := ⟨rfl, rfl, rfl, by decide +kernel, rfl, by decide +kernel, by decide +kernel⟩
abbrev b1P : Stmt := top 20
theorem b5K : FnScope ["n", "places"] ["n", "places"] (a0D b1P) := ⟨rfl, rfl, rfl, by decide +kernel, rfl, by decide +kernel, by decide +kernel⟩
def c0H (K : Φρ) : Sp := fun vs H Q _ => ∃ (x : V) (t : Value) (bi bb : Bool), vs = [x] /\ TyOf K H x t /\ PySem.W.kitOne K t (.type "int") = some bi /\ PySem.W.kitOne K t (.type "bool") = some bb /\ Q (.bl (bi && !bb)) H
def c0I : Sp := fun vs H Q _ => ∃ (n : Int) (o : Option Int), vs = [.int n, upV o] /\ Q (.bl (a2K n o)) H
def c4L (K : Φρ) : Sp := fun vs H Q _ => ∃ (n : Int) (a : Addr) (ns : List Int), vs = [.int n, .ref a] /\ SqL K H a (ns.map V.int) /\ ns.length <= 1000 /\ ∀ H', Same H H' -> Q (.bl (setF n ns)) H'
section
variable {P : Program} {w : World} {K : Φρ} {mg : Str -> Option Value} {base : Heap}
abbrev DZ13 (K : PySem.W.Frag) (mg : Str -> Option Value) := Dn K mg "is_whole" a6V ["thing"]
set_option maxHeartbeats 4000000 in
theorem b0J (B : Bl mg) (dZ13 : DZ13 K mg) : FnOk P w K mg base CX0 1 dZ13.f dZ13.fd ["thing"] (c0H K) := by
 refine dZ13.F.ok b0H (fun vs H Q E h => ?_) (fun cdv A outer s H vs Q E hr h => ?_)
 ·obtain ⟨x, t, bi, bb, rfl, _⟩ := h
  rfl
 obtain ⟨x, t, bi, bb, rfl, ty, h1, h2, q⟩ := h
 refine ⟨_, (a0E (a0J (b0Q (a0I (a2W (K := K) rfl) rfl B.isinstance (by decide +kernel) (a0A (pv 0) (a0A (a5H (v := .ty "int") (u := .type "int") rfl B.int (by decide +kernel) rfl) a0B))) (b0P (b2Y (a0I (a2W (K := K) rfl) rfl B.isinstance (by decide +kernel) (a0A (pv 0) (a0A (a5H (v := .ty "bool") (u := .type "bool") rfl B.bool (by decide +kernel) rfl) a0B)))))))), ?_⟩
 refine ⟨_, rfl, _, _, _, _, _, rfl, rfl, ty, h1, _, rfl, ?_⟩
 cases bi with
 | true =>
  refine iteT ?_
  exact ⟨_, rfl, _, _, _, _, _, rfl, rfl, ty, h2, _, rfl, q⟩
 | false => exact iteF q
abbrev DZ10 (K : PySem.W.Frag) (mg : Str -> Option Value) := Dn K mg "is_below" a6W ["n", "thing"]
set_option maxHeartbeats 4000000 in
theorem a2Q (B : Bl mg) (dZ13 : DZ13 K mg) (dZ10 : DZ10 K mg) : FnOk P w K mg base CX0 2 dZ10.f dZ10.fd ["n", "thing"] c0I := by
 have gZ13 : FnOk P w K mg base CX0 1 _ _ _ _ := b0J B dZ13
 refine dZ10.F.ok b0I (fun vs H Q E h => ?_) (fun cdv A outer s H vs Q E hr h => ?_)
 ·obtain ⟨n, i, rfl, _⟩ := h
  rfl
 obtain ⟨n, o, rfl, q⟩ := h
 refine ⟨_, (a0E (a0J (b0Q (a0G gZ13 hr rfl dZ13.m dZ13.F.kp dZ13.b .nil a0T (a0A (pv 1) a0B)) (b0P (b6G c3K b8U a0F (pv 1) (pv 0)))))), ?_⟩
 cases o with
 | none => exact ⟨_, rfl, _, _, _, _, rfl, TyOf.non, a9U, a8M, _, rfl, iteF q⟩
 | some i =>
  refine ⟨_, rfl, _, _, _, _, rfl, TyOf.int i, a9T, a8L, _, rfl, ?_⟩
  refine iteT ?_
  refine ⟨_, rfl, _, _, rfl, rfl, _, rfl, ?_⟩
  refine ite2 (fun c => ?_) (fun c => ?_)
  ·have c' : 0 <= i := of_decide_eq_true c
   refine ⟨_, rfl, _, _, rfl, rfl, ?_⟩
   have e : a2K n (some i) = decide (i < n) := by unfold a2K; simp [c']
   rw [e] at q; exact q
  ·have c' : ¬ 0 <= i := of_decide_eq_false (Bool.eq_false_iff.mpr c)
   have e : a2K n (some i) = false := by unfold a2K; simp [c']
   rw [e] at q; exact q
abbrev DZ12 (K : PySem.W.Frag) (mg : Str -> Option Value) := Dn K mg "is_set" b1P ["n", "places"]
set_option maxHeartbeats 4000000 in
theorem a9C (B : Bl mg) (dZ13 : DZ13 K mg) (dZ10 : DZ10 K mg) (dZ12 : DZ12 K mg) : FnOk P w K mg base CX0 3 dZ12.f dZ12.fd ["n", "places"] (c4L K) := by
 have gZ10 : FnOk P w K mg base CX0 2 _ _ _ _ := a2Q B dZ13 dZ10
 refine dZ12.F.ok b5K (fun vs H Q E h => ?_) (fun cdv A outer s H vs Q E hr h => ?_)
 ·obtain ⟨n, a, ns, rfl, _⟩ := h
  rfl
 obtain ⟨n, a, ns, rfl, hS, hz, q⟩ := h
 refine ⟨_, (a0C (a1N (a3E (a0Y (K := K) rfl (a0I (a8N (K := K) rfl rfl) rfl B.all (by decide +kernel) (a0A (a7D ["v", "n"] [none, some 0]  (by kernel_rfl) rfl (a1G (K := K) rfl (pv 1)) (fun _ _ _ _ _ => (a0N (i := 0) (show (["v", "n"] : List Str).Nodup by decide +kernel) rfl (Or.inl rfl))) (fun _ _ _ _ _ => a2O) (fun _ _ _ _ _ => (a0G gZ10 hr rfl dZ10.m dZ10.F.kp dZ10.b .nil a0T (a0A (pv 1) (a0A (pv 0) a0B))))) a0B)) (fun _ => rfl)))
   (a0E (a0J a4W))
   a0M)
   (a0E (a0J (a0I (a8N (K := K) rfl rfl) rfl B.all (by decide +kernel) (a0A (a7D ["k", "places"] [none, some 1]  (by kernel_rfl) rfl (a7X rfl B.range (a0A a0F (a0A (a0I (a1L (K := K) rfl) rfl B.len (by decide +kernel) (a0A (pv 1) a0B)) a0B))) (fun _ _ _ _ _ => (a0N (i := 0) (show (["k", "places"] : List Str).Nodup by decide +kernel) rfl (Or.inl rfl))) (fun _ _ _ _ _ => a2O) (fun _ _ _ _ _ => (a4C b8U (a1K (a1B (K := K) rfl) (pv 1) (a0H a2T (pv 0) a0F) (fun _ _ => rfl)) (a1K (a1B (K := K) rfl) (pv 1) (pv 0) (fun _ _ => rfl)) (a0Q _)))) a0B))))), ?_⟩
 refine ⟨_, rfl, a, rfl, ⟨_, hS⟩, ?_⟩
 refine b0X (fun x => match x with | .int v => some (.bl (decide (0 <= v /\ v < n))) | _ => none) hS (by rw [List.length_map]; exact hz) (fun x H1 N hx sm hN => ?_) (fun H1 p H1' sm hp => ?_)
 ·obtain ⟨v, hv, rfl⟩ := List.mem_map.mp hx
  exact ⟨_, rfl, _, rfl, n, some v, rfl, hN H1 sm⟩
 have e1 : (ns.map V.int).filterMap (fun x => match x with | .int v => some (V.bl (decide (0 <= v /\ v < n))) | _ => none) = (ns.map fun v => decide (0 <= v /\ v < n)).map V.bl := by
  rw [List.map_map]
  exact b9G fun v _ => rfl
 rw [e1] at hp
 refine ⟨p, _, _, rfl, SqL.of hp.here, Truths.bls _, _, rfl, ?_⟩
 have s1 : Same H H1' := sm.trans hp.same
 have e2 : ((ns.map fun v => decide (0 <= v /\ v < n)).all id) = ns.all fun v => decide (0 <= v /\ v < n) := by rw [List.all_map]; rfl
 rw [e2]
 cases c : ns.all fun v => decide (0 <= v /\ v < n) with
 | false =>
  refine iteT ?_
  have e : setF n ns = false := by unfold setF; rw [c]; rfl
  rw [e] at q
  exact q _ s1
 | true =>
  refine iteF ?_
  have hl : ((ns.map V.int).length : Int) = ns.length := by rw [List.length_map]
  refine ⟨_, rfl, a, _, rfl, .inl (s1.seq hS), 1, _, rfl, ⟨by decide, by decide, by omega, by omega⟩, ?_⟩
  have en : ((((ns.map V.int).length : Nat) : Int) - 1).toNat = ns.length - 1 := by rw [List.length_map]; omega
  rw [en]
  refine a9X (fun i => some (.bl (decide (ns.getD i 0 < ns.getD (i + 1) 0)))) (by omega) (fun i H2 N hi sm2 hN => ?_) (fun H2 p2 H2' sm2 hp2 => ?_)
  ·refine ⟨_, rfl, _, rfl, _, _, rfl, rfl, a, _, _, _, rfl, rfl, sm2.seq (s1.seq hS), a7F (by omega) (by omega), _, rfl, _, rfl, a, _, _, _, rfl, rfl, sm2.seq (s1.seq hS), a7F (by omega) (by omega), _, _, rfl, rfl, ?_⟩
   have z1 : (1 + (i : Int) - 1).toNat = i := by omega
   have z2 : (1 + (i : Int)).toNat = i + 1 := by omega
   rw [z1, z2]
   exact hN H2 sm2
  ·have e3 : (List.range (ns.length - 1)).filterMap (fun i => some (V.bl (decide (ns.getD i 0 < ns.getD (i + 1) 0)))) = ((List.range (ns.length - 1)).map fun i => decide (ns.getD i 0 < ns.getD (i + 1) 0)).map V.bl := by
    rw [List.map_map]
    exact a3H fun _ _ => rfl
   rw [e3] at hp2
   refine ⟨p2, _, _, rfl, SqL.of hp2.here, Truths.bls _, ?_⟩
   have e : setF n ns = ((List.range (ns.length - 1)).map fun i => decide (ns.getD i 0 < ns.getD (i + 1) 0)).all id := by
    unfold setF a8O; rw [c, List.all_map]; rfl
   rw [e] at q
   exact q _ (s1.trans (sm2.trans hp2.same))
end
def c0J (xs ys : List Int) : List Int := xs.filter fun v => !decide (v ∈ ys)
def c2X (K : Φρ) : Sp := fun vs H Q _ => ∃ (a b : Addr) (xs ys : List Int), vs = [.ref a, .ref b] /\ SqL K H a (xs.map V.int) /\ SqL K H b (ys.map V.int) /\ xs.length <= 1000 /\
 ∀ H0 p H', Same H H0 -> New H0 p (.lst ((c0J xs ys).map V.int)) H' -> Q (.ref p) H'
theorem c2Y (xs : List Int) (c : Int -> Bool) : (xs.map V.int).filterMap (fun x => match x with | .int v => if c v then some (.int v) else none | _ => none) = (xs.filter c).map V.int := by
 induction xs with
 | nil => rfl
 | cons x r ih =>
  rw [List.map_cons, List.filter_cons]
  cases e : c x with
  | true => rw [List.filterMap_cons_some (by simp only [e]; rfl), ih]; simp
  | false => rw [List.filterMap_cons_none (by simp only [e]; rfl), ih]; simp
abbrev b5L : Stmt := top 22
theorem c0K : FnScope ["one", "other"] ["one", "other"] (a0D b5L) := ⟨rfl, rfl, rfl, by decide +kernel, rfl, by decide +kernel, by decide +kernel⟩
section
variable {P : Program} {w : World} {K : Φρ} {mg : Str -> Option Value} {base : Heap}
abbrev DZ17 (K : PySem.W.Frag) (mg : Str -> Option Value) := Dn K mg "less" b5L ["one", "other"]
set_option maxHeartbeats 4000000 in
theorem b5M (B : Bl mg) (dZ17 : DZ17 K mg) : FnOk P w K mg base CX0 1 dZ17.f dZ17.fd ["one", "other"] (c2X K) := by
 refine dZ17.F.ok c0K (fun vs H Q E h => ?_) (fun cdv A outer s H vs Q E hr h => ?_)
 ·obtain ⟨a, b, xs, ys, rfl, _⟩ := h
  rfl
 obtain ⟨a, b, xs, ys, rfl, hA, hB, hz, q⟩ := h
 have hv : (A.deeper (PyProof.Rows.envOfC "less" (a0D b5L) s.heap.objs.size dZ17.f cdv)).units + 65 < cLine := by have := hr.un; omega
 refine ⟨_, (a0E (a0J (a7D ["v", "other"] [none, some 1]  (by kernel_rfl) rfl (a1G (K := K) rfl (pv 0)) (fun _ _ _ _ _ => (a0N (i := 0) (show (["v", "other"] : List Str).Nodup by decide +kernel) rfl (Or.inl rfl))) (fun _ _ _ _ _ => (b3Q (a0L (a6Q (K := K) rfl hv) (pv 0) (pv 1) (by with_unfolding_all rfl)))) (fun _ _ _ _ _ => (pv 0))))), ?_⟩
 refine ⟨_, rfl, a, rfl, ⟨_, hA⟩, ?_⟩
 refine b0X (fun x => match x with | .int v => if !decide (v ∈ ys) then some (.int v) else none | _ => none) hA (by rw [List.length_map]; exact hz) (fun x H1 N hx sm hN => ?_) (fun H1 p H1' sm hp => ?_)
 ·obtain ⟨v, hv, rfl⟩ := List.mem_map.mp hx
  have hN' := hN H1 sm
  refine ⟨_, rfl, _, rfl, a8P (sm.seq hB) ⟨_, rfl, ?_⟩⟩
  dsimp only at hN'
  cases c : decide (v ∈ ys) with
  | true => rw [c] at hN'; exact iteF hN'
  | false => rw [c] at hN'; exact iteT ⟨_, rfl, hN'⟩
 ·rw [c2Y] at hp
  exact q _ _ _ sm hp
end
abbrev b5N : Stmt := top 21
theorem b7K : FnScope ["one", "other"] ["one", "other"] (a0D b5N) := ⟨rfl, rfl, rfl, by decide +kernel, rfl, by decide +kernel, by decide +kernel⟩
theorem b5O {p q : Int -> Bool} (h : ∀ v, 0 <= v -> v < 16 -> p v = q v) : upF p = upF q := by
 unfold upF
 refine List.filter_congr fun v hv => ?_
 obtain ⟨i, hi, rfl⟩ := List.mem_map.mp hv
 have := List.mem_range.mp hi
 exact h _ (by omega) (by omega)
def a6X (xs ys : List Int) : List Int := upF fun v => decide (v ∈ xs \/ v ∈ ys)
def c0L (K : Φρ) : Sp := fun vs H Q _ => ∃ (a b : Addr) (xs ys : List Int), vs = [.ref a, .ref b] /\ SqL K H a (xs.map V.int) /\ SqL K H b (ys.map V.int) /\ b5G xs /\ b5G ys /\
 ∀ H0 p H', Same H H0 -> New H0 p (.lst ((a6X xs ys).map V.int)) H' -> Q (.ref p) H'
section
variable {P : Program} {w : World} {K : Φρ} {mg : Str -> Option Value} {base : Heap}
abbrev DZ14 (K : PySem.W.Frag) (mg : Str -> Option Value) := Dn K mg "joint" b5N ["one", "other"]
set_option maxHeartbeats 4000000 in
theorem b7L (B : Bl mg) (dZ14 : DZ14 K mg) : FnOk P w K mg base CX0 1 dZ14.f dZ14.fd ["one", "other"] (c0L K) := by
 refine dZ14.F.ok b7K (fun vs H Q E h => ?_) (fun cdv A outer s H vs Q E hr h => ?_)
 ·obtain ⟨a, b, xs, ys, rfl, _⟩ := h
  rfl
 obtain ⟨a, b, xs, ys, rfl, hA, hB, sA, sB, q⟩ := h
 refine ⟨_, (a0E (a0J (a0I (a9A (w := w) rfl rfl) rfl B.sorted (by decide +kernel) (a0A (a0H (c2S (w := w) rfl) (a1J (a8Z (K := K) (w := w) rfl rfl rfl) rfl B.set (by decide +kernel) (a0A (pv 0) a0B)) (a1J (a8Z (K := K) (w := w) rfl rfl rfl) rfl B.set (by decide +kernel) (a0A (pv 1) a0B))) a0B)))), ?_⟩
 refine ⟨_, rfl, a, xs, rfl, hA, sA, fun p1 L1 H1 n1 m1 => ?_⟩
 refine ⟨_, rfl, b, ys, rfl, n1.same.seq hB, sB, fun p2 L2 H2 n2 m2 => ?_⟩
 refine ⟨p1, p2, L1, L2, rfl, rfl, n2.ne n1.here, n2.same _ _ n1.here, n2.here, fun p3 L H3 n3 m3 => ?_⟩
 refine ⟨p3, false, L, rfl, n3.here, fun p4 H4 n4 => ?_⟩
 have e : (upF fun v => decide (v.toNat ∈ L)) = a6X xs ys := b5O fun v h0 h1 => by
  have ev : ((v.toNat : Nat) : Int) = v := by omega
  rw [decide_eq_decide, m3 v.toNat, m1 v.toNat, m2 v.toNat, ev]
 rw [e] at n4
 exact q H3 p4 H4 (n1.same.trans (n2.same.trans n3.same)) n4
end
abbrev natV (l : List Nat) : List V := l.map fun (x : Nat) => V.int (x : Int)
theorem b1Q : ∀ {m : Nat} {l : List Nat}, l.Nodup -> (∀ x ∈ l, x < m) -> l.length <= m
 | 0, l, _, lt => by
  cases l with
  | nil => exact Nat.le_refl _
  | cons x r => exact absurd (lt x List.mem_cons_self) (Nat.not_lt_zero _)
 | m + 1, l, nd, lt => by
  have ih := b1Q (m := m) (nd.erase m) fun x hx => by
   obtain ⟨h1, h2⟩ := nd.mem_erase_iff.mp hx
   have := lt x h2
   omega
  rw [List.length_erase] at ih
  split at ih <;> omega
theorem a0W (l : List Nat) : natV l = (l.map fun (x : Nat) => (x : Int)).map V.int := by
 unfold natV
 rw [List.map_map]
 rfl
theorem a2Y {l : List Nat} {j : Nat} (h : j < l.length) : atI (natV l) (j : Int) = some (.int ((l.getD j 0 : Nat) : Int)) := a9P (by
 unfold natV
 rw [List.getElem?_map, List.getElem?_eq_getElem h, τα, List.getElem?_eq_getElem h]; rfl)
theorem c2Z {K : Φρ} {H : Hp} {b : Addr} {l : List Nat} {x : Nat} {Q : VK} (hS : SqL K H b (natV l)) (q : Q (.bl (decide (x ∈ l))) H) : rInD K false (.int (x : Int)) (.ref b) H Q := by
 rw [a0W] at hS
 refine b8I hS ?_
 have e : decide ((x : Int) ∈ l.map fun (x : Nat) => (x : Int)) = decide (x ∈ l) := by
  rw [Bool.eq_iff_iff, decide_eq_true_iff, decide_eq_true_iff, List.mem_map]
  constructor
  ·rintro ⟨y, hy, e⟩
   have : y = x := by omega
   rw [<- this]; exact hy
  ·intro h
   exact ⟨x, h, rfl⟩
 rw [e]
 exact q
abbrev a5W : Stmt := top 26
theorem a9D : FnScope ["mask"] ["mask"] (a0D a5W) := ⟨rfl, rfl, rfl, by decide +kernel, rfl, by decide +kernel, by decide +kernel⟩
abbrev a4R : Stmt := top 27
theorem sc_first_bags : FnScope ["graph", "bags", "a", "b"] ["graph"] (a0D a4R) := ⟨rfl, rfl, rfl, by decide +kernel, rfl, by decide +kernel, by decide +kernel⟩
abbrev a5X : Stmt := top 28
theorem sc_taken_out : FnScope ["bags", "v", "bit", "left"] ["bags", "v"] (a0D a5X) := ⟨rfl, rfl, rfl, by decide +kernel, rfl, by decide +kernel, by decide +kernel⟩
def b2R : Sp := fun vs H Q _ => ∃ (m : Nat), vs = [.int (m : Int)] /\ m < 2 ^ 10 /\ ∀ H0 p H', Same H H0 -> New H0 p (.lst (natV (a1U m))) H' -> Q (.ref p) H'
def c0M (K : Φρ) : Sp := fun vs H Q _ => ∃ (g : V) (n : Nat) (ts : List ζζ), vs = [g] /\ GraphV K H g n ts /\ (∀ t ∈ ts, 0 <= t.1 /\ t.1 < t.2 /\ t.2 < (n : Int)) /\ n <= 10 /\
 ∀ p ms H', Same H H' -> H p = none -> H' p = some (.lst (natV ms)) -> BagsM n ms (a3N n ts) -> Q (.ref p) H'
def b7M (K : Φρ) : Sp := fun vs H Q _ => ∃ (a : Addr) (n : Nat) (ms : List Nat) (R : Nat -> Nat -> Bool) (v : Nat), vs = [.ref a, .int (v : Int)] /\ SqL K H a (natV ms) /\ BagsM n ms R /\ v < n /\
 ∀ p H', Same H H' -> H p = none -> H' p = some (.lst (natV (a7L v ms))) -> Q (.ref p) H'
theorem shl1 (v : Nat) : ((1 : Int) * 2 ^ ((v : Nat) : Int).toNat) = ((2 ^ v : Nat) : Int) := by
 rw [Int.toNat_natCast, Int.one_mul]
 exact (Int.natCast_pow 2 v).symm
theorem b5P (n : Nat) (hn : n <= 10) : BagsM n ((List.range n).map fun v => 2 ^ v) (a3N n []) := by
 refine ⟨by simp, hn, fun m hm => ?_, fun v hv u => ?_, fun v u h => ?_⟩
 ·obtain ⟨v, hv, rfl⟩ := List.mem_map.mp hm
  have := List.mem_range.mp hv
  exact Nat.pow_lt_pow_right (by decide) (by omega)
 ·rw [τα, List.getElem?_map, List.getElem?_range hv]
  simp only [Option.map_some, Option.getD_some]
  rw [Nat.testBit_two_pow]
  unfold a3N
  by_cases c : v = u
  ·subst c; simp [hv]
  ·rw [decide_eq_false c]
   have : ¬ u = v := fun z => c z.symm
   simp [this]
 ·unfold a3N at h
  rw [Bool.and_eq_true] at h
  exact of_decide_eq_true h.1
theorem b5Q {n : Nat} {ms : List Nat} {ts : List ζζ} {a b : Nat} (B : BagsM n ms (a3N n ts)) (ha : a < n) (hb : b < n) (ab : a ≠ b) :
  BagsM n ((ms.set a (ms.getD a 0 ||| 2 ^ b)).set b ((ms.set a (ms.getD a 0 ||| 2 ^ b)).getD b 0 ||| 2 ^ a)) (a3N n (ts ++ [((a : Int), (b : Int))])) := by
 have la : a < ms.length := by rw [B.len]; exact ha
 have lb : b < ms.length := by rw [B.len]; exact hb
 have gb : (ms.set a (ms.getD a 0 ||| 2 ^ b)).getD b 0 = ms.getD b 0 := by
  rw [τα, List.getElem?_set_ne ab, <- τα]
 rw [gb]
 have far : ∀ v u, a3N n (ts ++ [((a : Int), (b : Int))]) v u = true -> v < n /\ u < n := fun v u h => by
  unfold a3N at h
  rw [Bool.and_eq_true] at h
  exact of_decide_eq_true h.1
 have bit : ∀ v < n, ∀ u, (((ms.set a (ms.getD a 0 ||| 2 ^ b)).set b (ms.getD b 0 ||| 2 ^ a)).getD v 0).testBit u = a3N n (ts ++ [((a : Int), (b : Int))]) v u := fun v hv u => by
  have old := B.bit v hv u
  unfold a3N at old ⊢
  by_cases cb : v = b
  ·subst cb
   rw [τα, List.getElem?_set_self (by rw [List.length_set]; exact lb)]
   simp only [Option.getD_some]
   rw [Nat.testBit_or, old, Nat.testBit_two_pow]
   by_cases cu : u < n
   ·by_cases c : a = u
    ·subst c; simp [hv, cu]
    ·have c1 : ¬ u = a := fun z => c z.symm
     have c2 : ¬ ((u : Int) = (a : Int)) := by omega
     have c3 : ¬ ((v : Int) = (a : Int) /\ (u : Int) = (v : Int)) := by omega
     have c4 : ¬ ((v : Int) = (a : Int)) := by omega
     simp [hv, cu, c, c2, c4]
   ·have : ¬ a = u := by omega
    simp [cu, this]
  ·rw [τα, List.getElem?_set_ne (Ne.symm cb)]
   by_cases ca : v = a
   ·subst ca
    rw [List.getElem?_set_self la]
    simp only [Option.getD_some]
    rw [Nat.testBit_or, old, Nat.testBit_two_pow]
    by_cases cu : u < n
    ·by_cases c : b = u
     ·subst c; simp [hv, cu]
     ·have c2 : ¬ ((u : Int) = (b : Int)) := by omega
      have c4 : ¬ ((v : Int) = (b : Int)) := by omega
      simp [hv, cu, c, c2, c4]
    ·have : ¬ b = u := by omega
     simp [cu, this]
   ·rw [List.getElem?_set_ne (Ne.symm ca), <- τα, old]
    have c1 : ¬ ((v : Int) = (a : Int)) := by omega
    have c2 : ¬ ((v : Int) = (b : Int)) := by omega
    simp [c1, c2]
 refine ⟨by rw [List.length_set, List.length_set]; exact B.len, B.n10, fun m hm => ?_, bit, far⟩
 obtain ⟨j, hj, ej⟩ := List.getElem_of_mem hm
 have jn : j < n := by
  rw [List.length_set, List.length_set, B.len] at hj
  exact hj
 have e : ((ms.set a (ms.getD a 0 ||| 2 ^ b)).set b (ms.getD b 0 ||| 2 ^ a)).getD j 0 = m := by rw [τα, List.getElem?_eq_getElem hj, ej]; rfl
 refine a6T fun u hu => ?_
 rw [<- e, bit j jn] at hu
 have := far j u hu
 have := B.n10
 omega
theorem a7O (l : List Nat) (i x : Nat) : (natV l).set i (.int (x : Int)) = natV (l.set i x) := by
 unfold natV
 rw [List.map_set]
section
variable {P : Program} {w : World} {K : Φρ} {mg : Str -> Option Value} {base : Heap}
abbrev DZ19 (K : PySem.W.Frag) (mg : Str -> Option Value) := Dn K mg "places_of" a5W ["mask"]
set_option maxHeartbeats 4000000 in
theorem a4S (B : Bl mg) (dZ19 : DZ19 K mg) : FnOk P w K mg base CX0 1 dZ19.f dZ19.fd ["mask"] b2R := by
 refine dZ19.F.ok a9D (fun vs H Q E h => ?_) (fun cdv A outer s H vs Q E hr h => ?_)
 ·obtain ⟨m, rfl, _⟩ := h
  rfl
 obtain ⟨m, rfl, hm, q⟩ := h
 refine ⟨_, (a0E (a0J (a7D ["v", "mask"] [none, some 0]  (by kernel_rfl) rfl (a1Y rfl B.range (a0A (b9E (K := K) rfl PySem.F.plainAttrs_int PySem.F.slot_int_bit_length PySem.F.type_int_bit_length b9K (pv 0)) a0B)) (fun _ _ _ _ _ => (a0N (i := 0) (show (["v", "mask"] : List Str).Nodup by decide +kernel) rfl (Or.inl rfl))) (fun _ _ _ _ _ => (b3Q (a0Y (K := K) rfl (a0H b8B (pv 1) (a0H a7Y a0F (pv 0))) (fun _ => rfl)))) (fun _ _ _ _ _ => (pv 0))))), ?_⟩
 have hb := b4Q hm
 refine ⟨_, rfl, rfl, m, rfl, rfl, _, rfl, by omega, by omega, ?_⟩
 rw [Int.toNat_natCast]
 refine a9X (lo := 0) (n := Builtin.Int.intBits (m : Int)) (fun j => if m.testBit j = true then some (.int ((j : Nat) : Int)) else none) (by omega) (fun j H7 N hj s7 hN => ?_) (fun H7 pd H8 s7 n8 => ?_)
 ·have hN' := hN H7 s7
  have ej : (0 + (j : Int)) = ((j : Nat) : Int) := by omega
  rw [ej]
  refine ⟨_, rfl, _, rfl, _, _, rfl, rfl, ⟨by omega, by omega, by decide⟩, _, _, rfl, rfl, _, rfl, ?_⟩
  dsimp only
  rw [shl1, b4O]
  cases c : m.testBit j with
  | true =>
   rw [if_pos c] at hN'
   have : m &&& 2 ^ j ≠ 0 := fun z => by rw [(a7J m j).mp z] at c; cases c
   rw [show (((m &&& 2 ^ j : Nat) : Int) != 0) = true by simpa using this]
   exact iteT ⟨_, rfl, hN'⟩
  | false =>
   rw [if_neg (by rw [c]; decide)] at hN'
   rw [(a7J m j).mpr c]
   exact iteF hN'
 ·have e : (List.range (Builtin.Int.intBits (m : Int))).filterMap (fun j => if m.testBit j = true then some (V.int ((j : Nat) : Int)) else none) = natV (a1U m) := by
   rw [<- b0A hm]
   unfold natV
   rw [<- List.filterMap_eq_filter, List.map_filterMap]
   congr 1
   funext j
   by_cases c : m.testBit j = true
   ·rw [if_pos c]; simp [Option.guard, c]
   ·rw [if_neg c]; simp [Option.guard, c]
  rw [e] at n8
  exact q _ _ _ s7 n8
abbrev DZ9 (K : PySem.W.Frag) (mg : Str -> Option Value) := Dn K mg "first_bags" a4R ["graph"]
set_option maxHeartbeats 4000000 in
theorem a3Q (B : Bl mg) (dZ9 : DZ9 K mg) : FnOk P w K mg base CX0 1 dZ9.f dZ9.fd ["graph"] (c0M K) := by
 refine dZ9.F.ok sc_first_bags (fun vs H Q E h => ?_) (fun cdv A outer s H vs Q E hr h => ?_)
 ·obtain ⟨g, n, ts, rfl, _⟩ := h
  rfl
 obtain ⟨g, n, ts, rfl, hG, okt, n10, q⟩ := h
 obtain ⟨pg, ta, rfl, hP, hT⟩ := hG
 obtain ⟨ys, hy, hq, hzt⟩ := id hT
 have hlt : ys.length = ts.length := Paired.length hq
 refine ⟨_, (a0C (b0V (i := 1) ["v"] [none] sc_first_bags.nd rfl rfl (by kernel_rfl) rfl (a1Y rfl B.range (a0A (a1K (a1H (K := K) rfl) (pv 0) a0F (fun _ _ => rfl)) a0B)) (fun _ _ _ _ _ => (a0N (i := 0) (show (["v"] : List Str).Nodup by decide +kernel) rfl (Or.inl rfl))) (fun _ _ _ _ _ => a2O) (fun _ _ _ _ _ => (a0H a7Y a0F (pv 0))) (by rfl))
   (a0C (a2S PassesOwn.never rfl (a1G (K := K) rfl (a1K (a1H (K := K) rfl) (pv 0) a0F (fun _ _ => rfl))) (a9W (K := K) (n := 2) rfl rfl (a3B (a0N (i := 2) sc_first_bags.nd rfl (Or.inl rfl)) (a3B (a0N (i := 3) sc_first_bags.nd rfl (Or.inl rfl)) a9M)))
   (a0C (b3A (a0H b8T (a1K (a1B (K := K) rfl) (pv 1) (pv 2) (fun _ _ => rfl)) (a0H a7Y a0F (pv 3))) (b2Z (pv 1) (pv 2) a5L))
   (a0E (b3A (a0H b8T (a1K (a1B (K := K) rfl) (pv 1) (pv 3) (fun _ _ => rfl)) (a0H a7Y a0F (pv 2))) (b2Z (pv 1) (pv 3) a5L)))))
   (a0E (a0J (pv 1))))), ?_⟩
 refine ⟨_, rfl, pg, _, _, _, rfl, rfl, hP, rfl, _, rfl, by omega, by omega, ?_⟩
 rw [Int.toNat_natCast]
 refine a9X (lo := 0) (n := n) (fun j => some (.int ((2 ^ j : Nat) : Int))) (by omega) (fun j H7 N hj s7 hN => ?_) (fun H7 pb H8 s7 n8 => ?_)
 ·have ej : (0 + (j : Int)) = ((j : Nat) : Int) := by omega
  rw [ej]
  refine ⟨_, rfl, _, _, rfl, rfl, ⟨by omega, by omega, by decide⟩, ?_⟩
  dsimp only
  rw [shl1]
  exact hN H7 s7
 have e8 : (List.range n).filterMap (fun (j : Nat) => some (V.int ((2 ^ j : Nat) : Int))) = natV ((List.range n).map fun v => 2 ^ v) := by
  unfold natV
  rw [List.map_map]
  exact a3H fun _ _ => rfl
 rw [e8] at n8
 have s8 : Same H H8 := s7.trans n8.same
 refine ⟨_, rfl, pg, _, _, _, rfl, rfl, s8.tupq hP, rfl, ta, rfl, ⟨_, s8.seq hy⟩, ?_⟩
 have fb : H pb = none := s7.free n8.fresh
 refine a5A (xs := ys) (fun i σ H' => ∃ (aa bb : Option V) (ms : List Nat), σ = [some (.ref pg), some (.ref pb), aa, bb] /\ Same H H' /\ H' pb = some (.lst (natV ms)) /\ BagsM n ms (a3N n (ts.take i))) ⟨none, none, _, rfl, s8, n8.here, by rw [List.take_zero]; exact b5P n n10⟩ (fun i σ H' _ ⟨_, _, _, _, s, _⟩ => s.seq hy) ?_ ?_
 ·rintro i x σ H4 hx ⟨aa, bb, ms, rfl, s4, hb4, BM⟩
  obtain ⟨t, ht, ⟨pt, rfl, hTt⟩⟩ := a1W hq hx
  have tok := okt t (List.mem_of_getElem? ht)
  obtain ⟨a, ea⟩ : ∃ a : Nat, t.1 = (a : Int) := ⟨t.1.toNat, by omega⟩
  obtain ⟨b, eb⟩ : ∃ b : Nat, t.2 = (b : Int) := ⟨t.2.toNat, by omega⟩
  rw [ea, eb] at hTt
  have an : a < n := by omega
  have bn : b < n := by omega
  have la : a < ms.length := by rw [BM.len]; exact an
  have lb : b < ms.length := by rw [BM.len]; exact bn
  refine ⟨pt, _, rfl, s4.tupq hTt, rfl, _, _, rfl, _, _, rfl, rfl, ?_⟩
  refine ⟨_, rfl, _, rfl, pb, _, _, _, rfl, rfl, SqL.of hb4, a2Y la, _, rfl, _, _, rfl, rfl, ⟨by omega, by omega, by decide⟩, _, _, rfl, rfl, ?_⟩
  dsimp only
  rw [shl1, b4P]
  refine ⟨_, rfl, _, rfl, pb, _, _, a, rfl, rfl, hb4, a9Y (by rw [List.length_map]; exact la), fun H5 c5 => ?_⟩
  rw [a7O] at c5
  have s5 : Same H H5 := s4.chg fb c5
  have lb' : b < (ms.set a (ms.getD a 0 ||| 2 ^ b)).length := by rw [List.length_set]; exact lb
  refine ⟨_, rfl, _, rfl, pb, _, _, _, rfl, rfl, SqL.of c5.here, a2Y lb', _, rfl, _, _, rfl, rfl, ⟨by omega, by omega, by decide⟩, _, _, rfl, rfl, ?_⟩
  dsimp only
  rw [shl1, b4P]
  refine ⟨_, rfl, _, rfl, pb, _, _, b, rfl, rfl, c5.here, a9Y (by rw [List.length_map]; exact lb'), fun H6 c6 => ?_⟩
  rw [a7O] at c6
  refine ⟨_, _, _, rfl, s5.chg fb c6, c6.here, ?_⟩
  have et : ts.take (i + 1) = ts.take i ++ [((a : Int), (b : Int))] := by
   rw [List.take_succ, ht]
   simp [<- ea, <- eb]
  rw [et]
  exact b5Q BM an bn (by omega)
 ·rintro σ H4 ⟨aa, bb, ms, rfl, s4, hb4, BM⟩
  rw [hlt, List.take_length] at BM
  exact ⟨_, rfl, q pb ms H4 s4 fb hb4 BM⟩
abbrev DZ22 (K : PySem.W.Frag) (mg : Str -> Option Value) := Dn K mg "taken_out" a5X ["bags", "v"]
set_option maxHeartbeats 4000000 in
theorem a4T (B : Bl mg) (dZ22 : DZ22 K mg) : FnOk P w K mg base CX0 1 dZ22.f dZ22.fd ["bags", "v"] (b7M K) := by
 refine dZ22.F.ok sc_taken_out (fun vs H Q E h => ?_) (fun cdv A outer s H vs Q E hr h => ?_)
 ·obtain ⟨a, n, ms, R, v, rfl, _⟩ := h
  rfl
 obtain ⟨a, n, ms, R, v, rfl, hA, BM, hv, q⟩ := h
 have lv : v < ms.length := by rw [BM.len]; exact hv
 have n10 := BM.n10
 refine ⟨_, (a0C (a0O (i := 2) sc_taken_out.nd rfl (Or.inr rfl) (a0H a7Y a0F (pv 1)))
   (a0C (b0V (i := 3) ["bag", "bit", "bags", "v"] [none, some 2, some 0, some 1] sc_taken_out.nd rfl rfl (by kernel_rfl) rfl (a1G (K := K) rfl (pv 0)) (fun _ _ _ _ _ => (a0N (i := 0) (show (["bag", "bit", "bags", "v"] : List Str).Nodup by decide +kernel) rfl (Or.inl rfl))) (fun _ _ _ _ _ => a2O) (fun _ _ _ _ _ => (b0R (a0Y (K := K) rfl (a0H b8B (pv 0) (pv 1)) (fun _ => rfl)) (a0H a2T (a0H b8T (pv 0) (a1K (a1B (K := K) rfl) (pv 2) (pv 3) (fun _ _ => rfl))) (pv 1)) (pv 0))) (by rfl))
   (a0C (b3A a0F (b2Z (pv 3) (pv 1) a5L))
   (a0E (a0J (pv 3)))))), ?_⟩
 refine ⟨_, rfl, _, _, rfl, rfl, ⟨by omega, by omega, by decide⟩, ?_⟩
 dsimp only
 rw [shl1]
 refine ⟨_, rfl, a, rfl, ⟨_, hA⟩, ?_⟩
 refine b0X (fun x => match x with | .int z => some (.int ((if z.toNat &&& 2 ^ v = 0 then z.toNat else (z.toNat ||| ms.getD v 0) - 2 ^ v : Nat) : Int)) | _ => none) hA (by rw [List.length_map, BM.len]; omega) (fun x H1 N hx s1 hN => ?_) (fun H1 p H2 s1 n2 => ?_)
 ·obtain ⟨m, hm, rfl⟩ := List.mem_map.mp hx
  have hN' := hN H1 s1
  dsimp only at hN'
  rw [Int.toNat_natCast] at hN'
  refine ⟨_, rfl, _, rfl, _, _, rfl, rfl, _, rfl, ?_⟩
  rw [b4O]
  by_cases c : m &&& 2 ^ v = 0
  ·rw [if_pos c] at hN'
   rw [c]
   exact iteF ⟨_, rfl, hN'⟩
  ·rw [if_neg c] at hN'
   rw [show (((m &&& 2 ^ v : Nat) : Int) != 0) = true by simpa using c]
   refine iteT ⟨_, rfl, _, rfl, _, rfl, a, _, _, _, rfl, rfl, s1.seq hA, a2Y lv, _, _, rfl, rfl, _, rfl, _, _, rfl, rfl, ?_⟩
   rw [b4P]
   have tb : (m ||| ms.getD v 0).testBit v = true := by
    rw [Nat.testBit_or]
    have : m.testBit v = true := by
     cases e : m.testBit v with
     | true => rfl
     | false => exact absurd ((a7J m v).mpr e) c
    rw [this]; rfl
   have ge := Nat.ge_two_pow_of_testBit tb
   have e : (((m ||| ms.getD v 0 : Nat) : Int) - ((2 ^ v : Nat) : Int)) = (((m ||| ms.getD v 0) - 2 ^ v : Nat) : Int) := by omega
   dsimp only
   rw [e]
   exact hN'
 have ez : (natV ms).filterMap (fun x => match x with | .int z => some (V.int ((if z.toNat &&& 2 ^ v = 0 then z.toNat else (z.toNat ||| ms.getD v 0) - 2 ^ v : Nat) : Int)) | _ => none) = natV (ms.map fun m => if m &&& 2 ^ v = 0 then m else (m ||| ms.getD v 0) - 2 ^ v) := by
  unfold natV
  rw [List.filterMap_map, List.map_map]
  refine a3H fun m _ => ?_
  simp only [Function.comp_apply, Int.toNat_natCast]
 rw [ez] at n2
 have lz : v < (ms.map fun m => if m &&& 2 ^ v = 0 then m else (m ||| ms.getD v 0) - 2 ^ v).length := by rw [List.length_map]; exact lv
 refine ⟨_, rfl, _, rfl, p, _, _, v, rfl, rfl, n2.here, a9Y (by rw [List.length_map]; exact lz), fun H3 c3 => ?_⟩
 have c3' := c3.here
 rw [show (V.int 0) = V.int ((0 : Nat) : Int) from rfl, a7O] at c3'
 exact ⟨_, rfl, q p H3 ((s1.trans n2.same).chg (s1.free n2.fresh) c3) (s1.free n2.fresh) c3'⟩
end
end K
namespace K
open PySem L2 Lw Bg
structure NearL (H : Hp) (qs : List Addr) (f : Nat -> List Nat) : Prop where
 nd : qs.Nodup
 at_ : ∀ (j : Nat) q, qs[j]? = some q -> H q = some (.lst (natV (f j)))
abbrev b5R : Stmt := top 30
theorem sc_later : FnScope ["graph", "order", "bags", "told", "v"] ["graph", "order"] (a0D b5R) := ⟨rfl, rfl, rfl, by decide +kernel, rfl, by decide +kernel, by decide +kernel⟩
abbrev a2N : Stmt := top 31
theorem a2F : FnScope ["n", "order"] ["n", "order"] (a0D a2N) := ⟨rfl, rfl, rfl, by decide +kernel, rfl, by decide +kernel, by decide +kernel⟩
def runR (n : Nat) (ts : List ζζ) (os : List Nat) : Nat -> Nat -> Bool := os.foldl (fun R v => a7K v R) (a3N n ts)
theorem a3R (n : Nat) (ts : List ζζ) (os : List Nat) (v : Nat) : runR n ts (os ++ [v]) = a7K v (runR n ts os) := by
 unfold runR
 rw [List.foldl_append]
 rfl
def a3S (n : Nat) (R : Nat -> Nat -> Bool) (v : Nat) : List Nat := (List.range n).filter fun u => R v u && !decide (u = v)
def a1A (n : Nat) (ts : List ζζ) (os : List Nat) (j : Nat) : List Nat := a3S n (runR n ts (os.take j)) (os.getD j 0)
theorem b5S (n : Nat) (R : Nat -> Nat -> Bool) (v : Nat) : (a3S n R v).length <= n := by
 unfold a3S
 refine Nat.le_trans (List.length_filter_le _ _) ?_
 simp
theorem b1R (l : List Nat) (v : Nat) : c0J (l.map fun (x : Nat) => (x : Int)) [(v : Int)] = (l.filter fun u => !decide (u = v)).map fun (x : Nat) => (x : Int) := by
 unfold c0J
 induction l with
 | nil => rfl
 | cons a r ih =>
  rw [List.map_cons, List.filter_cons, List.filter_cons, ih]
  by_cases c : a = v
  ·subst c; simp
  ·have : ¬ ((a : Int) = (v : Int)) := by omega
   simp [c, this]
def c0N (K : Φρ) : Sp := fun vs H Q _ => ∃ (n : Nat) (a : Addr) (os : List Nat), vs = [.int (n : Int), .ref a] /\ SqL K H a (natV os) /\ os.Perm (List.range n) /\ n <= 10 /\ ∀ H', Same H H' -> Q .non H'
def c0O (K : Φρ) : Sp := fun vs H Q _ => ∃ (g : V) (n : Nat) (ts : List ζζ) (a : Addr) (os : List Nat), vs = [g, .ref a] /\ GraphV K H g n ts /\ (∀ t ∈ ts, 0 <= t.1 /\ t.1 < t.2 /\ t.2 < (n : Int)) /\ SqL K H a (natV os) /\ os.Perm (List.range n) /\ n <= 10 /\
 ∀ p qs H', Same H H' -> H p = none -> H' p = some (.lst (qs.map V.ref)) -> qs.length = n -> (∀ q ∈ qs, H q = none) -> p ∉ qs -> NearL H' qs (a1A n ts os) -> Q (.ref p) H'
section
variable {P : Program} {w : World} {K : Φρ} {mg : Str -> Option Value} {base : Heap}
abbrev DZ21 (K : PySem.W.Frag) (mg : Str -> Option Value) := Dn K mg "refuse_no_order" a2N ["n", "order"]
set_option maxHeartbeats 4000000 in
theorem a3T (B : Bl mg) (dZ13 : DZ13 K mg) (dZ10 : DZ10 K mg) (dZ12 : DZ12 K mg) (dZ21 : DZ21 K mg) : FnOk P w K mg base CX0 4 dZ21.f dZ21.fd ["n", "order"] (c0N K) := by
 have gZ12 : FnOk P w K mg base CX0 3 _ _ _ _ := a9C B dZ13 dZ10 dZ12
 refine dZ21.F.ok a2F (fun vs H Q E h => ?_) (fun cdv A outer s H vs Q E hr h => ?_)
 ·obtain ⟨n, a, os, rfl, _⟩ := h
  rfl
 obtain ⟨n, a, os, rfl, hA, hp, n10, q⟩ := h
 have ln : os.length = n := by have := hp.length_eq; simpa using this
 refine ⟨_, (a0E (a1N (PW.pt (a9L (a0L c1M (a0I (a1L (K := K) rfl) rfl B.len (by decide +kernel) (a0A (pv 1) a0B)) (pv 0) (a0Q _)) (a6M (a3E (a0Y (K := K) rfl (a0G gZ12 hr rfl dZ12.m dZ12.F.kp dZ12.b .nil a0T (a0A (pv 0) (a0A (a0I (a2X (K := K) rfl) rfl B.sorted (by decide +kernel) (a0A (pv 1) a0B)) a0B))) (fun _ => rfl))))))
   (a0E a4Z)
   a0M)), ?_⟩
 refine ⟨_, rfl, a, _, rfl, .inl hA, _, rfl, rfl, _, rfl, ?_⟩
 rw [show (!decide (V.int (((natV os).length : Nat) : Int) = V.int (n : Int))) = false by rw [List.length_map, ln]; simp]
 refine iteF ?_
 rw [a0W] at hA
 refine ⟨_, rfl, _, rfl, a, _, rfl, hA, by rw [List.length_map]; omega, fun p H1 zs n1 zp zl => ?_⟩
 refine ⟨(n : Int), p, zs, rfl, SqL.of n1.here, ?_, fun H2 s2 => ⟨_, rfl, ?_⟩⟩
 ·have := zp.length_eq
  rw [List.length_map] at this
  omega
 have hs : setF (n : Int) zs = true := by
  refine (b3W _ _).mpr ⟨fun v hv => ?_, ?_⟩
  ·obtain ⟨x, hx, rfl⟩ := List.mem_map.mp (zp.mem_iff.mp hv)
   have := List.mem_range.mp (hp.mem_iff.mp hx)
   omega
  ·have nd : zs.Nodup := by
    refine zp.nodup_iff.mpr ?_
    have : os.Nodup := hp.nodup_iff.mpr List.nodup_range
    rw [List.nodup_iff_pairwise_ne] at this ⊢
    rw [List.pairwise_map]
    exact this.imp fun h => by omega
   exact (zl.and nd).imp fun ⟨h1, h2⟩ => by omega
 rw [hs]
 exact iteF (q H2 (n1.same.trans s2))
abbrev DZ15 (K : PySem.W.Frag) (mg : Str -> Option Value) := Dn K mg "later" b5R ["graph", "order"]
set_option maxHeartbeats 8000000 in
theorem a5G (B : Bl mg) (dZ13 : DZ13 K mg) (dZ10 : DZ10 K mg) (dZ12 : DZ12 K mg) (dZ17 : DZ17 K mg) (dZ19 : DZ19 K mg) (dZ9 : DZ9 K mg) (dZ22 : DZ22 K mg) (dZ21 : DZ21 K mg) (dZ15 : DZ15 K mg) : FnOk P w K mg base CX0 5 dZ15.f dZ15.fd ["graph", "order"] (c0O K) := by
 have gZ21 : FnOk P w K mg base CX0 4 _ _ _ _ := a3T B dZ13 dZ10 dZ12 dZ21
 have gZ9 : FnOk P w K mg base CX0 4 _ _ _ _ := (a3Q B dZ9).mono (by decide)
 have gZ22 : FnOk P w K mg base CX0 4 _ _ _ _ := (a4T B dZ22).mono (by decide)
 have gZ19 : FnOk P w K mg base CX0 4 _ _ _ _ := (a4S B dZ19).mono (by decide)
 have gZ17 : FnOk P w K mg base CX0 4 _ _ _ _ := (b5M B dZ17).mono (by decide)
 refine dZ15.F.ok sc_later (fun vs H Q E h => ?_) (fun cdv A outer s H vs Q E hr h => ?_)
 ·obtain ⟨g, n, ts, a, os, rfl, _⟩ := h
  rfl
 obtain ⟨g, n, ts, a, os, rfl, hG, okt, hA, hp, n10, q⟩ := h
 have ln : os.length = n := by have := hp.length_eq; simpa using this
 obtain ⟨pg, ta, rfl, hP, hT⟩ := id hG
 refine ⟨_, (a0C (a2H (a0G gZ21 hr rfl dZ21.m dZ21.F.kp dZ21.b .nil a0T (a0A (a1K (a1H (K := K) rfl) (pv 0) a0F (fun _ _ => rfl)) (a0A (pv 1) a0B))))
   (a0C (a0O (i := 2) sc_later.nd rfl (Or.inl rfl) (a0G gZ9 hr rfl dZ9.m dZ9.F.kp dZ9.b .nil a0T (a0A (pv 0) a0B)))
   (a0C (a0O (i := 3) sc_later.nd rfl (Or.inl rfl) (a0S a0B))
   (a0C (a2S PassesOwn.never rfl (a1G (K := K) rfl (pv 1)) (a0N (i := 4) sc_later.nd rfl (Or.inl rfl))
   (a0C (a2H (a4M (K := K) rfl PySem.F.plainAttrs_list PySem.F.slot_list_append PySem.F.type_list_append a3D (pv 3) (a0A (a0G gZ17 hr rfl dZ17.m dZ17.F.kp dZ17.b .nil a0T (a0A (a0G gZ19 hr rfl dZ19.m dZ19.F.kp dZ19.b .nil a0T (a0A (a1K (a1B (K := K) rfl) (pv 2) (pv 4) (fun _ _ => rfl)) a0B)) (a0A (a0S (a0A (pv 4) a0B)) a0B))) a0B)))
   (a0E (a0O (i := 2) sc_later.nd rfl (Or.inl rfl) (a0G gZ22 hr rfl dZ22.m dZ22.F.kp dZ22.b .nil a0T (a0A (pv 2) (a0A (pv 4) a0B)))))))
   (a0E (a0J (pv 3))))))), ?_⟩
 refine ⟨_, rfl, pg, _, _, _, rfl, rfl, hP, rfl, _, rfl, n, a, os, rfl, hA, hp, n10, fun H1 s1 => ?_⟩
 refine ⟨_, rfl, .ref pg, n, ts, rfl, hG.same s1, okt, n10, fun pb ms H2 s2 f2 hb2 BM => ?_⟩
 refine ⟨(by show 0 <= 1000; decide), fun pt H3 n3 => ?_⟩
 have s3 : Same H H3 := s1.trans (s2.trans n3.same)
 have ft : H pt = none := (s1.trans s2).free n3.fresh
 refine ⟨_, rfl, a, rfl, ⟨_, s3.seq hA⟩, ?_⟩
 refine a5A (xs := natV os) (fun i σ H' => ∃ (pb : Addr) (vv : Option V) (ms : List Nat) (qs : List Addr), σ = [some (.ref pg), some (.ref a), some (.ref pb), some (.ref pt), vv] /\ Same H H' /\ H' pb = some (.lst (natV ms)) /\ BagsM n ms (runR n ts (os.take i)) /\
   H' pt = some (.lst (qs.map V.ref)) /\ qs.length = i /\ (∀ q ∈ qs, H q = none) /\ pt ∉ qs /\ pb ≠ pt /\ NearL H' qs (a1A n ts os)) ⟨pb, none, ms, [], rfl, s3, n3.same _ _ hb2, BM, n3.here, rfl, fun q h => absurd h List.not_mem_nil, List.not_mem_nil, n3.ne hb2, .nil, fun j q e => by simp at e⟩ (fun i σ H' _ ⟨_, _, _, _, _, s, _⟩ => s.seq hA) ?_ ?_
 ·rintro i x σ H4 hx ⟨pb, vv, ms, qs, rfl, s4, hb4, BM, ht4, lq, fq, pq, nbt, nl⟩
  rw [List.getElem?_map] at hx
  obtain ⟨v, hv, rfl⟩ := Option.map_eq_some_iff.mp hx
  have il : i < os.length := (List.getElem?_eq_some_iff.mp hv).1
  have vn : v < n := List.mem_range.mp (hp.mem_iff.mp (List.mem_of_getElem? hv))
  have lv : v < ms.length := by rw [BM.len]; exact vn
  have ev : os.getD i 0 = v := by rw [τα, hv]; rfl
  have et : os.take (i + 1) = os.take i ++ [v] := by rw [List.take_succ, hv]; rfl
  refine ⟨_, rfl, .inl ⟨rfl, _, SqL.of ht4⟩, _, rfl, _, rfl, pb, _, _, _, rfl, rfl, SqL.of hb4, a2Y lv, _, rfl, BM.mlt vn, fun H5 pp H6 s5 n6 => ?_⟩
  have s46 : Same H4 H6 := s5.trans n6.same
  refine ⟨_, rfl, (by show 1 <= 1000; decide), fun p7 H7 n7 => ?_⟩
  have hpp : SqL K H7 pp ((a1U (ms.getD v 0)).map (fun (x : Nat) => (x : Int)) |>.map V.int) := by rw [<- a0W]; exact SqL.of (n7.same _ _ n6.here)
  have hz : (a1U (ms.getD v 0)).length <= 10 := by
   unfold a1U
   refine Nat.le_trans (List.length_filter_le _ _) ?_
   simp
  refine ⟨pp, p7, _, [(v : Int)], rfl, hpp, SqL.of n7.here, by rw [List.length_map]; omega, fun H8 p9 H9 s8 n9 => ?_⟩
  rw [b1R, a5P BM vn, List.filter_filter, <- a0W] at n9
  have el : (List.range n).filter (fun u => !decide (u = v) && runR n ts (os.take i) v u) = a1A n ts os i := by
   unfold a1A a3S
   rw [ev]
   exact List.filter_congr fun u _ => Bool.and_comm _ _
  rw [el] at n9
  have s49 : Same H4 H9 := s46.trans (n7.same.trans (s8.trans n9.same))
  refine ⟨pt, _, _, rfl, rfl, s49 _ _ ht4, by rw [List.length_map]; omega, fun H10 c10 => ?_⟩
  have s10 : Same H H10 := (s4.trans s49).chg ft c10
  have hb10 : H10 pb = some (.lst (natV ms)) := (c10.rest pb nbt).trans (s49 _ _ hb4)
  refine ⟨_, rfl, _, rfl, pb, n, ms, _, v, rfl, SqL.of hb10, BM, vn, fun p11 H11 s11 f11 hb11 => ?_⟩
  have f9 : H p9 = none := (s4.trans (s46.trans (n7.same.trans s8))).free n9.fresh
  have np9 : p9 ≠ pt := (n9.ne (s8 _ _ (n7.same _ _ (s46 _ _ ht4)))).symm
  refine ⟨p11, _, a7L v ms, qs ++ [p9], rfl, s10.trans s11, hb11, ?_, ?_, by rw [List.length_append, lq]; rfl, fun q hq => ?_, fun hq => ?_, ?_, ?_, fun j q ej => ?_⟩
  ·rw [et, a3R]
   exact b4S BM vn
  ·rw [s11 _ _ c10.here, List.map_append]
   rfl
  ·rcases List.mem_append.mp hq with hq | hq
   ·exact fq q hq
   ·rw [List.mem_singleton.mp hq]; exact f9
  ·rcases List.mem_append.mp hq with hq | hq
   ·exact pq hq
   ·exact np9 (List.mem_singleton.mp hq).symm
  ·intro z
   rw [z] at f11
   rw [c10.here] at f11; cases f11
  ·refine List.nodup_append.mpr ⟨nl.nd, List.nodup_cons.mpr ⟨List.not_mem_nil, .nil⟩, fun x hx y hy z => ?_⟩
   rw [List.mem_singleton.mp hy] at z
   obtain ⟨j, hj, ej⟩ := List.getElem_of_mem hx
   have := nl.at_ j x (by rw [<- ej]; exact List.getElem?_eq_getElem hj)
   have g := n9.fresh
   rw [<- z, s8 _ _ (n7.same _ _ (s46 _ _ this))] at g; cases g
  ·have keep : ∀ b u, b ≠ pt -> H9 b = some u -> H11 b = some u := fun b u hb e => s11 _ _ ((c10.rest b hb).trans e)
   by_cases c : j < qs.length
   ·rw [List.getElem?_append_left c] at ej
    exact keep _ _ (fun z => pq (by rw [<- z]; exact List.mem_of_getElem? ej)) (s49 _ _ (nl.at_ j q ej))
   ·rw [List.getElem?_append_right (by omega)] at ej
    cases z : j - qs.length with
    | zero =>
     rw [z] at ej
     simp at ej
     have : j = i := by omega
     subst this
     rw [<- ej]
     exact keep _ _ np9 n9.here
    | succ k => rw [z] at ej; simp at ej
 ·rintro σ H4 ⟨pb, vv, ms, qs, rfl, s4, hb4, BM, ht4, lq, fq, pq, nbt, nl⟩
  rw [List.length_map, ln] at lq
  exact ⟨_, rfl, q pt qs H4 s4 ft ht4 lq fq pq nl⟩
end
def tieT (ts : List ζζ) (x y : Nat) : Bool := decide (((x : Int), (y : Int)) ∈ ts) || decide (((y : Int), (x : Int)) ∈ ts)
inductive PathT (ts : List ζζ) (S : List Nat) (x : Nat) : Nat -> Prop
 | one {u : Nat} (h : tieT ts x u = true) : PathT ts S x u
 | step {a u : Nat} (p : PathT ts S x a) (m : a ∈ S) (h : tieT ts a u = true) : PathT ts S x u
theorem PathT.mono {ts : List ζζ} {S S' : List Nat} {x u : Nat} (h : PathT ts S x u) (s : ∀ a ∈ S, a ∈ S') : PathT ts S' x u := by
 induction h with
 | one h => exact .one h
 | step p m h ih => exact .step ih (s _ m) h
theorem PathT.glue {ts : List ζζ} {S : List Nat} {x w u : Nat} (hw : w ∈ S) (a : PathT ts S x w) (b : PathT ts S w u) : PathT ts S x u := by
 induction b with
 | one h => exact .step a hw h
 | step p m h ih => exact .step ih m h
theorem PathT.split {ts : List ζζ} {S : List Nat} {x w u : Nat} (h : PathT ts (S ++ [w]) x u) : PathT ts S x u \/ (PathT ts S x w /\ PathT ts S w u) := by
 induction h with
 | one h => exact .inl (.one h)
 | @step a u p m h ih =>
  rcases List.mem_append.mp m with m | m
  ·rcases ih with ih | ⟨i1, i2⟩
   ·exact .inl (.step ih m h)
   ·exact .inr ⟨i1, .step i2 m h⟩
  ·have e := List.mem_singleton.mp m
   subst e
   rcases ih with ih | ⟨i1, _⟩
   ·exact .inr ⟨ih, .one h⟩
   ·exact .inr ⟨i1, .one h⟩
structure RunP (n : Nat) (ts : List ζζ) (S : List Nat) : Prop where
 path : ∀ x u, x < n -> u < n -> x ∉ S -> u ∉ S -> (runR n ts S x u = true ↔ x = u \/ PathT ts S x u)
 gone : ∀ x u, x < n -> x ∉ S -> u ∈ S -> runR n ts S x u = false
theorem b1S {n : Nat} {ts : List ζζ} : ∀ (k : Nat) (S : List Nat), S.length = k -> S.Nodup -> (∀ a ∈ S, a < n) -> RunP n ts S
 | 0, S, hl, _, _ => by
  have e : S = [] := List.eq_nil_of_length_eq_zero hl
  subst e
  refine ⟨fun x u hx hu _ _ => ?_, fun x u _ _ h => absurd h List.not_mem_nil⟩
  show a3N n ts x u = true ↔ _
  unfold a3N
  rw [decide_eq_true (show x < n /\ u < n from ⟨hx, hu⟩), Bool.true_and, Bool.or_assoc, Bool.or_eq_true, decide_eq_true_iff]
  constructor
  ·rintro (h | h)
   ·exact .inl h.symm
   ·exact .inr (.one h)
  ·rintro (h | h)
   ·exact .inl h.symm
   ·cases h with
    | one h => exact .inr h
    | step p m h => exact absurd m List.not_mem_nil
 | k + 1, S, hl, nd, hn => by
  have hne : S ≠ [] := fun z => by rw [z] at hl; cases hl
  obtain ⟨S', w, rfl⟩ : ∃ S' w, S = S' ++ [w] := ⟨S.dropLast, S.getLast hne, (List.dropLast_concat_getLast hne).symm⟩
  obtain ⟨nd', _, dis⟩ := List.nodup_append.mp nd
  have wS : w ∉ S' := fun h => dis w h w (List.mem_singleton.mpr rfl) rfl
  have wn : w < n := hn w (List.mem_append_right _ (List.mem_singleton.mpr rfl))
  have ih := b1S (ts := ts) k S' (by rw [List.length_append] at hl; exact Nat.succ.inj hl) nd' fun a ha => hn a (List.mem_append_left _ ha)
  have out : ∀ {x}, x ∉ S' ++ [w] -> x ∉ S' /\ x ≠ w := fun {x} h => ⟨fun z => h (List.mem_append_left _ z), fun z => h (List.mem_append_right _ (List.mem_singleton.mpr z))⟩
  refine ⟨fun x u hx hu h1 h2 => ?_, fun x u hx h1 h2 => ?_⟩
  ·obtain ⟨g1, n1⟩ := out h1
   obtain ⟨g2, n2⟩ := out h2
   rw [a3R]
   have q1 := ih.path x u hx hu g1 g2
   have q2 := ih.path x w hx wn g1 wS
   have q3 := ih.path w u wn hu wS g2
   have big : ∀ a ∈ S', a ∈ S' ++ [w] := fun a ha => List.mem_append_left _ ha
   have wm : w ∈ S' ++ [w] := List.mem_append_right _ (List.mem_singleton.mpr rfl)
   unfold a7K
   rw [if_neg n1]
   constructor
   ·intro h
    split at h
    ·rename_i c
     rw [Bool.and_eq_true, Bool.or_eq_true] at h
     rcases h.1 with z | z
     ·exact (q1.mp z).imp_right fun p => p.mono big
     ·have p1 := (q2.mp c).resolve_left n1
      have p2 := (q3.mp z).resolve_left fun y => n2 y.symm
      exact .inr (PathT.glue wm (p1.mono big) (p2.mono big))
    ·exact (q1.mp h).imp_right fun p => p.mono big
   ·intro h
    have main : runR n ts S' x u = true \/ (runR n ts S' x w = true /\ runR n ts S' w u = true) := by
     rcases h with h | h
     ·exact .inl (q1.mpr (.inl h))
     ·rcases h.split with p | ⟨p1, p2⟩
      ·exact .inl (q1.mpr (.inr p))
      ·exact .inr ⟨q2.mpr (.inr p1), q3.mpr (.inr p2)⟩
    rcases main with m | ⟨m1, m2⟩
    ·rw [m]
     split
     ·rw [decide_eq_false n2]; rfl
     ·rfl
    ·rw [if_pos m1, m2, decide_eq_false n2]; simp
  ·obtain ⟨g1, n1⟩ := out h1
   rw [a3R]
   unfold a7K
   rw [if_neg n1]
   rcases List.mem_append.mp h2 with h2 | h2
   ·rw [ih.gone x u hx g1 h2, ih.gone w u wn wS h2]
    split <;> rfl
   ·have e := List.mem_singleton.mp h2
    subst e
    split
    ·simp
    ·rename_i c; simpa using c
theorem c3A {n : Nat} {ts : List ζζ} {S : List Nat} (nd : S.Nodup) (hn : ∀ a ∈ S, a < n) : RunP n ts S := b1S S.length S rfl nd hn
theorem b1T {ts : List ζζ} {x y : Nat} (h : tieT ts x y = true) : tieT ts y x = true := by
 unfold tieT at h ⊢
 rw [Bool.or_comm]; exact h
theorem PathT.sym {ts : List ζζ} {S : List Nat} {x u : Nat} (h : PathT ts S x u) : PathT ts S u x := by
 induction h with
 | one h => exact .one (b1T h)
 | step p m h ih => exact PathT.glue m (.one (b1T h)) ih
structure Ord (n : Nat) (os : List Nat) : Prop where
 pm : os.Perm (List.range n)
theorem Ord.nd {n : Nat} {os : List Nat} (o : Ord n os) : os.Nodup := o.pm.nodup_iff.mpr List.nodup_range
theorem Ord.len {n : Nat} {os : List Nat} (o : Ord n os) : os.length = n := by have := o.pm.length_eq; simpa using this
theorem Ord.mem {n : Nat} {os : List Nat} (o : Ord n os) {x : Nat} (h : x < n) : x ∈ os := o.pm.mem_iff.mpr (List.mem_range.mpr h)
theorem Ord.lt {n : Nat} {os : List Nat} (o : Ord n os) {x : Nat} (h : x < n) : os.idxOf x < n := by
 rw [<- o.len]; exact List.idxOf_lt_length_iff.mpr (o.mem h)
theorem Ord.at_ {n : Nat} {os : List Nat} (o : Ord n os) {i x : Nat} (h : os[i]? = some x) : os.idxOf x = i := by
 obtain ⟨hi, e⟩ := List.getElem?_eq_some_iff.mp h
 have hm : x ∈ os := List.mem_of_getElem? h
 have hl : os.idxOf x < os.length := List.idxOf_lt_length_iff.mpr hm
 have e2 : os[os.idxOf x] = x := List.getElem_idxOf hl
 exact (List.getElem_inj o.nd).mp (e2.trans e.symm)
theorem Ord.get {n : Nat} {os : List Nat} (o : Ord n os) {x : Nat} (h : x < n) : os[os.idxOf x]? = some x := by
 have hl : os.idxOf x < os.length := by rw [o.len]; exact o.lt h
 rw [List.getElem?_eq_getElem hl, List.getElem_idxOf hl]
theorem Ord.take {n : Nat} {os : List Nat} (o : Ord n os) {x k : Nat} (h : x < n) : x ∈ os.take k ↔ os.idxOf x < k := by
 constructor
 ·intro hx
  obtain ⟨j, hj, e⟩ := List.getElem_of_mem hx
  rw [List.getElem_take] at e
  rw [List.length_take] at hj
  have hj2 : j < os.length := by omega
  have := o.at_ (i := j) (x := x) (by rw [List.getElem?_eq_getElem hj2, e])
  omega
 ·intro hk
  have hl : os.idxOf x < os.length := by rw [o.len]; exact o.lt h
  have e : (os.take k)[os.idxOf x]? = some x := by
   rw [List.getElem?_take, if_pos hk]; exact o.get h
  exact List.mem_of_getElem? e
theorem Ord.inj {n : Nat} {os : List Nat} (o : Ord n os) {x y : Nat} (hx : x < n) (hy : y < n) (h : os.idxOf x = os.idxOf y) : x = y := by
 have h1 := o.get hx
 rw [h, o.get hy] at h1
 injection h1 with h1
 exact h1.symm
theorem Ord.run {n : Nat} {os : List Nat} (o : Ord n os) (ts : List ζζ) (k : Nat) : RunP n ts (os.take k) :=
 c3A (o.nd.sublist (List.take_sublist _ _)) fun a ha => List.mem_range.mp (o.pm.mem_iff.mp (List.mem_of_mem_take ha))
theorem Ord.runS {n : Nat} {os : List Nat} (o : Ord n os) (ts : List ζζ) {k x y : Nat} (hx : x < n) (hy : y < n) (ix : k <= os.idxOf x) (iy : k <= os.idxOf y) : runR n ts (os.take k) x y = runR n ts (os.take k) y x := by
 have nx : x ∉ os.take k := fun h => by have := (o.take hx).mp h; omega
 have ny : y ∉ os.take k := fun h => by have := (o.take hy).mp h; omega
 have R := o.run ts k
 rw [Bool.eq_iff_iff, R.path x y hx hy nx ny, R.path y x hy hx ny nx]
 exact ⟨fun h => h.imp Eq.symm PathT.sym, fun h => h.imp Eq.symm PathT.sym⟩
def a5Y (n : Nat) (ts : List ζζ) (os : List Nat) (a b : Nat) : Bool := runR n ts (os.take (min (os.idxOf a) (os.idxOf b))) a b
theorem b1U {n : Nat} {ts : List ζζ} {os : List Nat} (o : Ord n os) {a b : Nat} (ha : a < n) (hb : b < n) : a5Y n ts os a b = a5Y n ts os b a := by
 unfold a5Y
 rw [Nat.min_comm (os.idxOf b)]
 exact o.runS ts ha hb (by omega) (by omega)
theorem a1S {n : Nat} {ts : List ζζ} {os : List Nat} (o : Ord n os) {i v u : Nat} (hv : os[i]? = some v) : u ∈ a1A n ts os i ↔ u < n /\ i < os.idxOf u /\ a5Y n ts os v u = true := by
 have iv := o.at_ hv
 have vn : v < n := List.mem_range.mp (o.pm.mem_iff.mp (List.mem_of_getElem? hv))
 have ev : os.getD i 0 = v := by rw [τα, hv]; rfl
 unfold a1A a3S
 rw [ev, List.mem_filter, List.mem_range, Bool.and_eq_true]
 constructor
 ·rintro ⟨un, h1, h2⟩
  have ne : u ≠ v := by simpa using h2
  have ge : ¬ os.idxOf u < i := fun z => by
   have := (o.run ts i).gone v u vn (fun h => by have := (o.take vn).mp h; omega) ((o.take un).mpr z)
   rw [this] at h1; cases h1
  have ne2 : os.idxOf u ≠ i := fun z => ne (o.inj un vn (by omega))
  refine ⟨un, by omega, ?_⟩
  unfold a5Y
  rw [show min (os.idxOf v) (os.idxOf u) = i by omega]
  exact h1
 ·rintro ⟨un, h1, h2⟩
  unfold a5Y at h2
  rw [show min (os.idxOf v) (os.idxOf u) = i by omega] at h2
  refine ⟨un, h2, ?_⟩
  have : u ≠ v := fun z => by rw [z] at h1; omega
  simpa using this
def a7P (n : Nat) (T : Nat -> Nat -> Bool) : List ζζ := (List.range n).flatMap fun a => ((List.range n).filter fun b => decide (a < b) && T a b).map fun (b : Nat) => ((a : Int), (b : Int))
theorem b5T {n : Nat} {T : Nat -> Nat -> Bool} {t : Int × Int} : t ∈ a7P n T ↔ ∃ a b : Nat, a < b /\ b < n /\ T a b = true /\ t = ((a : Int), (b : Int)) := by
 unfold a7P
 rw [List.mem_flatMap]
 constructor
 ·rintro ⟨a, ha, h⟩
  obtain ⟨b, hb, rfl⟩ := List.mem_map.mp h
  rw [List.mem_filter, Bool.and_eq_true] at hb
  exact ⟨a, b, of_decide_eq_true hb.2.1, List.mem_range.mp hb.1, hb.2.2, rfl⟩
 ·rintro ⟨a, b, h1, h2, h3, rfl⟩
  exact ⟨a, List.mem_range.mpr (by omega), List.mem_map.mpr ⟨b, List.mem_filter.mpr ⟨List.mem_range.mpr h2, by rw [decide_eq_true h1, h3]; rfl⟩, rfl⟩⟩
abbrev lexS (s t : Int × Int) : Prop := s.1 < t.1 \/ (s.1 = t.1 /\ s.2 < t.2)
theorem b7N (n : Nat) (T : Nat -> Nat -> Bool) : (a7P n T).Pairwise lexS := by
 unfold a7P
 rw [List.pairwise_flatMap]
 refine ⟨fun a _ => ?_, ?_⟩
 ·rw [List.pairwise_map]
  exact (List.pairwise_lt_range.filter _).imp fun h => .inr ⟨rfl, by show (_ : Int) < _; omega⟩
 ·refine List.pairwise_lt_range.imp fun {a b} h x hx y hy => ?_
  obtain ⟨c, _, rfl⟩ := List.mem_map.mp hx
  obtain ⟨d, _, rfl⟩ := List.mem_map.mp hy
  exact .inl (by show (a : Int) < (b : Int); omega)
theorem b1V : ∀ {l m : List ζζ}, l.Pairwise lexS -> m.Pairwise lexS -> (∀ t, t ∈ l ↔ t ∈ m) -> l = m
 | [], [], _, _, _ => rfl
 | [], b :: m, _, _, h => absurd ((h b).mpr List.mem_cons_self) List.not_mem_nil
 | a :: l, [], _, _, h => absurd ((h a).mp List.mem_cons_self) List.not_mem_nil
 | a :: l, b :: m, p, q, h => by
  obtain ⟨p1, p2⟩ := List.pairwise_cons.mp p
  obtain ⟨q1, q2⟩ := List.pairwise_cons.mp q
  have e : a = b := by
   rcases List.mem_cons.mp ((h a).mp List.mem_cons_self) with z | z
   ·exact z
   ·rcases List.mem_cons.mp ((h b).mpr List.mem_cons_self) with y | y
    ·exact y.symm
    ·have h1 := q1 a z
     have h2 := p1 b y
     unfold lexS at h1 h2
     omega
  subst e
  rw [b1V p2 q2 fun t => ?_]
  constructor
  ·intro ht
   rcases List.mem_cons.mp ((h t).mp (List.mem_cons_of_mem _ ht)) with z | z
   ·have := p1 t ht
    rw [z] at this
    unfold lexS at this
    omega
   ·exact z
  ·intro ht
   rcases List.mem_cons.mp ((h t).mpr (List.mem_cons_of_mem _ ht)) with z | z
   ·have := q1 t ht
    rw [z] at this
    unfold lexS at this
    omega
   ·exact z
end K
namespace K
open PySem L2 Lw Bg
theorem a5Z {F : V -> Int × Int -> Prop} {vs : List V} {ts : List ζζ} (h : Paired F vs ts) : ∀ (q : List Nat), (∀ i ∈ q, i < vs.length) -> Paired F (q.map fun i => vs.getD i .non) (q.map fun i => ts.getD i (0, 0))
 | [], _ => .nil
 | i :: q, hq => by
  have hi := hq i List.mem_cons_self
  obtain ⟨t, et, ft⟩ := a1W h (List.getElem?_eq_getElem hi)
  refine .cons ?_ (a5Z h q fun j hj => hq j (List.mem_cons_of_mem _ hj))
  show F (vs.getD i .non) (ts.getD i (0, 0))
  rw [τα, τα, List.getElem?_eq_getElem hi, et]
  exact ft
theorem a6A {K : Φρ} {H : Hp} : ∀ {vs : List V} {ts : List ζζ}, Paired (TieL H) vs ts -> Paired (TupV K H) vs (ts.map fun t => [t.1, t.2])
 | _, _, .nil => .nil
 | _, _, .cons ⟨p, e, h⟩ r => .cons ⟨p, e, SqT.of h⟩ (a6A r)
theorem a2L {α β : Type} {F : α -> β -> Prop} : ∀ {xs xs' : List α} {ys ys' : List β}, Paired F xs ys -> Paired F xs' ys' -> Paired F (xs ++ xs') (ys ++ ys')
 | _, _, _, _, .nil, h => h
 | _, _, _, _, .cons h r, q => .cons h (a2L r q)
abbrev b1W : Stmt := top 24
theorem b5U : FnScope ["n", "a", "b"] ["n", "a", "b"] (a0D b1W) := ⟨rfl, rfl, rfl, by decide +kernel, rfl, by decide +kernel, by decide +kernel⟩
abbrev b1X : Stmt := top 34
theorem sc_filled : FnScope ["graph", "order", "ties", "v", "places"] ["graph", "order"] (a0D b1X) := ⟨rfl, rfl, rfl, by decide +kernel, rfl, by decide +kernel, by decide +kernel⟩
abbrev a2G : Stmt := top 35
theorem a3U : FnScope ["graph", "order"] ["graph", "order"] (a0D a2G) := ⟨rfl, rfl, rfl, by decide +kernel, rfl, by decide +kernel, by decide +kernel⟩
def tieP (v u : Nat) : Int × Int := (((min v u : Nat) : Int), ((max v u : Nat) : Int))
def usF (n : Nat) (ts : List ζζ) (os : List Nat) (i : Nat) : List ζζ := (List.range i).flatMap fun j => (a1A n ts os j).map (tieP (os.getD j 0))
theorem a7Q (n : Nat) (ts : List ζζ) (os : List Nat) (i : Nat) : usF n ts os (i + 1) = usF n ts os i ++ (a1A n ts os i).map (tieP (os.getD i 0)) := by
 unfold usF
 rw [List.range_succ, List.flatMap_append]
 simp
theorem c0P {v u w : Nat} (h : tieP v u = tieP v w) : u = w := by
 unfold tieP at h
 injection h with h1 h2
 omega
theorem b7O {v u x w : Nat} (h : tieP v u = tieP x w) (ne : v ≠ x) : v = w := by
 unfold tieP at h
 injection h with h1 h2
 omega
theorem b5V (n : Nat) (ts : List ζζ) (os : List Nat) (i : Nat) : (a1A n ts os i).Nodup := by
 unfold a1A a3S
 exact List.nodup_range.sublist List.filter_sublist
theorem b2S {f : Nat -> Int × Int} {l : List Nat} (h : l.Nodup) (inj : ∀ x y, f x = f y -> x = y) : (l.map f).Nodup := by
 rw [List.nodup_iff_pairwise_ne] at h ⊢
 rw [List.pairwise_map]
 exact h.imp fun h z => h (inj _ _ z)
theorem getD_some {os : List Nat} {i : Nat} (h : i < os.length) : os[i]? = some (os.getD i 0) := by
 rw [τα, List.getElem?_eq_getElem h]; rfl
theorem b8O {n : Nat} {ts : List ζζ} {os : List Nat} (o : Ord n os) : ∀ i, i <= n -> (usF n ts os i).Nodup
 | 0, _ => List.Pairwise.nil
 | i + 1, h => by
  rw [a7Q]
  refine List.nodup_append.mpr ⟨b8O o i (by omega), b2S (b5V _ _ _ _) fun x y => c0P, fun t ht s hs e => ?_⟩
  subst e
  obtain ⟨u, hu, eu⟩ := List.mem_map.mp hs
  unfold usF at ht
  obtain ⟨j, hj, ht⟩ := List.mem_flatMap.mp ht
  obtain ⟨w, hw, ew⟩ := List.mem_map.mp ht
  have hj := List.mem_range.mp hj
  have l := o.len
  have gj := getD_some (os := os) (i := j) (by omega)
  have gi := getD_some (os := os) (i := i) (by omega)
  have ij := o.at_ gj
  have ii := o.at_ gi
  have e : tieP (os.getD j 0) w = tieP (os.getD i 0) u := ew.trans eu.symm
  have ne : os.getD j 0 ≠ os.getD i 0 := fun z => by rw [z] at ij; omega
  have := b7O e ne
  have hu' := (a1S o gi).mp hu
  rw [<- this] at hu'
  omega
theorem c0Q {n : Nat} {ts : List ζζ} {os : List Nat} (o : Ord n os) (t : Int × Int) : t ∈ usF n ts os n ↔ t ∈ a7P n (a5Y n ts os) := by
 have l := o.len
 rw [b5T]
 unfold usF
 rw [List.mem_flatMap]
 constructor
 ·rintro ⟨j, hj, h⟩
  obtain ⟨u, hu, rfl⟩ := List.mem_map.mp h
  have hj := List.mem_range.mp hj
  have gj := getD_some (os := os) (i := j) (by omega)
  have ij := o.at_ gj
  have vn : os.getD j 0 < n := List.mem_range.mp (o.pm.mem_iff.mp (List.mem_of_getElem? gj))
  obtain ⟨un, h1, h2⟩ := (a1S o gj).mp hu
  have ne : os.getD j 0 ≠ u := fun z => by rw [z] at ij; omega
  unfold tieP
  by_cases c : os.getD j 0 < u
  ·exact ⟨_, _, c, un, h2, by rw [Nat.min_eq_left (by omega), Nat.max_eq_right (by omega)]⟩
  ·refine ⟨_, _, (by omega : u < os.getD j 0), vn, ?_, by rw [Nat.min_eq_right (by omega), Nat.max_eq_left (by omega)]⟩
   rw [b1U o un vn]; exact h2
 ·rintro ⟨a, b, h1, h2, h3, rfl⟩
  have an : a < n := by omega
  have ne : os.idxOf a ≠ os.idxOf b := fun z => by have := o.inj an h2 z; omega
  by_cases c : os.idxOf a < os.idxOf b
  ·have g := o.get an
   have e : os.getD (os.idxOf a) 0 = a := by rw [τα, g]; rfl
   refine ⟨os.idxOf a, List.mem_range.mpr (o.lt an), List.mem_map.mpr ⟨b, (a1S o g).mpr ⟨h2, c, h3⟩, ?_⟩⟩
   rw [e]
   unfold tieP
   rw [Nat.min_eq_left (by omega), Nat.max_eq_right (by omega)]
  ·have g := o.get h2
   have e : os.getD (os.idxOf b) 0 = b := by rw [τα, g]; rfl
   refine ⟨os.idxOf b, List.mem_range.mpr (o.lt h2), List.mem_map.mpr ⟨a, (a1S o g).mpr ⟨an, by omega, by rw [b1U o h2 an]; exact h3⟩, ?_⟩⟩
   rw [e]
   unfold tieP
   rw [Nat.min_eq_right (by omega), Nat.max_eq_left (by omega)]
def tri (n : Nat) : Nat -> Nat
 | 0 => 0
 | i + 1 => tri n i + (n - 1 - i)
theorem c0R {n : Nat} (h : n <= 10) : tri n n < 64 := by
 have : n = 0 \/ n = 1 \/ n = 2 \/ n = 3 \/ n = 4 \/ n = 5 \/ n = 6 \/ n = 7 \/ n = 8 \/ n = 9 \/ n = 10 := by omega
 rcases this with rfl | rfl | rfl | rfl | rfl | rfl | rfl | rfl | rfl | rfl | rfl <;> decide
theorem b8P (n : Nat) (h : n <= 10) : ∀ i, tri n i <= 10 * i
 | 0 => Nat.le_refl _
 | i + 1 => by
  have := b8P n h i
  unfold tri
  omega
theorem b1Y {n : Nat} {ts : List ζζ} {os : List Nat} (o : Ord n os) {i : Nat} (hi : i < n) : (a1A n ts os i).length <= n - 1 - i := by
 have g := getD_some (os := os) (i := i) (by rw [o.len]; exact hi)
 have nd := b5V n ts os i
 have hm : ∀ u ∈ a1A n ts os i, u < n /\ i < os.idxOf u := fun u hu => ⟨((a1S o g).mp hu).1, ((a1S o g).mp hu).2.1⟩
 have q : ((a1A n ts os i).map fun u => os.idxOf u - (i + 1)).Nodup := by
  rw [List.nodup_iff_pairwise_ne, List.pairwise_map]
  rw [List.nodup_iff_pairwise_ne] at nd
  refine List.Pairwise.imp_of_mem (fun {x y} hx hy ne z => ne ?_) nd
  have h1 := hm x hx
  have h2 := hm y hy
  exact o.inj h1.1 h2.1 (by omega)
 have := b1Q (m := n - 1 - i) q fun x hx => by
  obtain ⟨u, hu, rfl⟩ := List.mem_map.mp hx
  have h1 := hm u hu
  have := o.lt h1.1
  omega
 rw [List.length_map] at this
 exact this
theorem b0K {n : Nat} {ts : List ζζ} {os : List Nat} (o : Ord n os) : ∀ i, i <= n -> (usF n ts os i).length <= tri n i
 | 0, _ => Nat.le_refl _
 | i + 1, h => by
  have := b0K (ts := ts) o i (by omega)
  have := b1Y (ts := ts) o (i := i) (by omega)
  rw [a7Q, List.length_append, List.length_map]
  unfold tri
  omega
theorem b7P (us : List ζζ) : (List.range us.length).map (fun i => us.getD i (0, 0)) = us := by
 apply List.ext_getElem?
 intro i
 rw [List.getElem?_map]
 by_cases c : i < us.length
 ·rw [List.getElem?_range c, List.getElem?_eq_getElem c]
  simp [List.getD_eq_getElem?_getD, List.getElem?_eq_getElem c]
 ·rw [List.getElem?_eq_none (by simpa using c), List.getElem?_eq_none (by omega)]; rfl
theorem b2T {us : List ζζ} {q : List Nat} {m : Nat} (hm : m = us.length) (nd : us.Nodup) (pq : q.Perm (List.range m)) (h : (q.map fun i => (us.map fun t => [t.1, t.2]).getD i []).Pairwise (fun a b => ¬ b < a)) :
  (q.map fun i => us.getD i (0, 0)).Pairwise lexS /\ ∀ t, t ∈ (q.map fun i => us.getD i (0, 0)) ↔ t ∈ us := by
 subst hm
 have pm : (q.map fun i => us.getD i (0, 0)).Perm us := by
  have := pq.map fun i => us.getD i (0, 0)
  rw [b7P] at this
  exact this
 refine ⟨?_, fun t => pm.mem_iff⟩
 have nd2 := pm.nodup_iff.mpr nd
 rw [List.nodup_iff_pairwise_ne, List.pairwise_map] at nd2
 rw [List.pairwise_map] at h ⊢
 refine List.Pairwise.imp_of_mem (fun {x y} hx hy hh => ?_) (h.and nd2)
 obtain ⟨h1, h2⟩ := hh
 have lx : x < us.length := List.mem_range.mp (pq.mem_iff.mp hx)
 have ly : y < us.length := List.mem_range.mp (pq.mem_iff.mp hy)
 have g : ∀ z, z < us.length -> (us.map fun t => [t.1, t.2]).getD z [] = [(us.getD z (0, 0)).1, (us.getD z (0, 0)).2] := fun z hz => by
  rw [τα, List.getElem?_map, τα, List.getElem?_eq_getElem hz]; rfl
 rw [g x lx, g y ly] at h1
 generalize us.getD x (0, 0) = s at *
 generalize us.getD y (0, 0) = t at *
 obtain ⟨a, b⟩ := s
 obtain ⟨c, d⟩ := t
 rw [List.cons_lt_cons_iff, List.cons_lt_cons_iff] at h1
 show a < c \/ (a = c /\ b < d)
 have h3 : ¬ (a = c /\ b = d) := fun z => h2 (by rw [z.1, z.2])
 simp only [List.lt_irrefl, and_false, or_false, List.not_lt_nil] at h1
 simp only [not_or, not_and] at h1
 omega
def c0S : Sp := fun vs H Q _ => ∃ (n a b : Nat), vs = [.int n, .int a, .int b] /\ a < n /\ b < n /\ a ≠ b /\ ∀ p H', New H p (.tup [.int (tieP a b).1, .int (tieP a b).2]) H' -> Q (.ref p) H'
def b7Q (K : Φρ) : Sp := fun vs H Q _ => ∃ (g : V) (n : Nat) (ts : List ζζ) (a : Addr) (os : List Nat), vs = [g, .ref a] /\ GraphV K H g n ts /\ (∀ t ∈ ts, 0 <= t.1 /\ t.1 < t.2 /\ t.2 < (n : Int)) /\ SqL K H a (natV os) /\ os.Perm (List.range n) /\ n <= 10 /\
 ∀ p r xs H', Same H H' -> H p = none -> H r = none -> p ≠ r -> H' p = some (.tup [.int n, .ref r]) -> H' r = some (.lst xs) -> Paired (TieL H') xs (a7P n (a5Y n ts os)) -> xs.length < 64 -> Q (.ref p) H'
section
variable {P : Program} {w : World} {K : Φρ} {mg : Str -> Option Value} {base : Heap}
abbrev DZ23 (K : PySem.W.Frag) (mg : Str -> Option Value) := Dn K mg "tie_of" b1W ["n", "a", "b"]
set_option maxHeartbeats 4000000 in
theorem a9E (B : Bl mg) (dZ13 : DZ13 K mg) (dZ10 : DZ10 K mg) (dZ23 : DZ23 K mg) : FnOk P w K mg base CX0 3 dZ23.f dZ23.fd ["n", "a", "b"] c0S := by
 have gZ10 : FnOk P w K mg base CX0 2 _ _ _ _ := a2Q B dZ13 dZ10
 refine dZ23.F.ok b5U (fun vs H Q E h => ?_) (fun cdv A outer s H vs Q E hr h => ?_)
 ·obtain ⟨n, a, b, rfl, _⟩ := h
  rfl
 obtain ⟨n, a, b, rfl, an, bn, ne, q⟩ := h
 refine ⟨_, (a0C (a1N (PW.pt (a9L (a3E (a0Y (K := K) rfl (a0G gZ10 hr rfl dZ10.m dZ10.F.kp dZ10.b .nil a0T (a0A (pv 0) (a0A (pv 1) a0B))) (fun _ => rfl))) (a6M (a3E (a0Y (K := K) rfl (a0G gZ10 hr rfl dZ10.m dZ10.F.kp dZ10.b .nil a0T (a0A (pv 0) (a0A (pv 2) a0B))) (fun _ => rfl))))))
   (a0E a4Z)
   a0M)
   (a0C (a1N (a0L a2U (pv 1) (pv 2) (a0Q _))
   (a0E a4Z)
   a0M)
   (a0E (a0J (a2A (a0A (a0I (b3H rfl) rfl B.min (by decide +kernel) (a0A (pv 1) (a0A (pv 2) a0B))) (a0A (a0I (b3G rfl) rfl B.max (by decide +kernel) (a0A (pv 1) (a0A (pv 2) a0B))) a0B))))))), ?_⟩
 have ba : a2K (n : Int) (some (a : Int)) = true := by unfold a2K; simp; omega
 have bb : a2K (n : Int) (some (b : Int)) = true := by unfold a2K; simp; omega
 refine ⟨_, rfl, _, rfl, (n : Int), some (a : Int), rfl, _, rfl, ?_⟩
 rw [ba]
 refine iteF ?_
 refine ⟨_, rfl, _, rfl, (n : Int), some (b : Int), rfl, _, rfl, ?_⟩
 rw [bb]
 refine iteF ?_
 refine ⟨_, rfl, _, rfl, rfl, _, rfl, ?_⟩
 rw [show decide (V.int (a : Int) = V.int (b : Int)) = false from decide_eq_false fun z => ne (by have := V.int.inj z; omega)]
 refine iteF ?_
 refine ⟨_, rfl, _, rfl, _, _, rfl, _, rfl, _, rfl, _, _, rfl, (by show 2 <= 1000; decide), fun p H1 n1 => q p H1 ?_⟩
 have e1 : (if (b : Int) < (a : Int) then (b : Int) else (a : Int)) = (tieP a b).1 := by unfold tieP; dsimp only; split <;> omega
 have e2 : (if (b : Int) > (a : Int) then (b : Int) else (a : Int)) = (tieP a b).2 := by unfold tieP; dsimp only; split <;> omega
 rw [e1, e2] at n1
 exact n1
abbrev DZ8 (K : PySem.W.Frag) (mg : Str -> Option Value) := Dn K mg "filled" b1X ["graph", "order"]
set_option maxHeartbeats 8000000 in
theorem a9F (B : Bl mg) (Bz : mg "zip" = none) (dZ13 : DZ13 K mg) (dZ10 : DZ10 K mg) (dZ12 : DZ12 K mg) (dZ17 : DZ17 K mg) (dZ23 : DZ23 K mg) (dZ19 : DZ19 K mg) (dZ9 : DZ9 K mg) (dZ22 : DZ22 K mg) (dZ21 : DZ21 K mg) (dZ15 : DZ15 K mg) (dZ8 : DZ8 K mg) : FnOk P w K mg base CX0 6 dZ8.f dZ8.fd ["graph", "order"] (b7Q K) := by
 have gZ15 : FnOk P w K mg base CX0 5 _ _ _ _ := a5G B dZ13 dZ10 dZ12 dZ17 dZ19 dZ9 dZ22 dZ21 dZ15
 have gZ23 : FnOk P w K mg base CX0 5 _ _ _ _ := (a9E B dZ13 dZ10 dZ23).mono (by decide)
 refine dZ8.F.ok sc_filled (fun vs H Q E h => ?_) (fun cdv A outer s H vs Q E hr h => ?_)
 ·obtain ⟨g, n, ts, a, os, rfl, _⟩ := h
  rfl
 obtain ⟨g, n, ts, a, os, rfl, hG, okt, hA, hp, n10, q⟩ := h
 have o : Ord n os := ⟨hp⟩
 have ln := o.len
 obtain ⟨pg, ta, rfl, hP, hT⟩ := id hG
 refine ⟨_, (a0C (a0O (i := 2) sc_filled.nd rfl (Or.inl rfl) (a0S a0B))
   (a0C (a2S PassesOwn.never rfl (b8M (K := K) rfl rfl Bz (a0A (pv 1) (a0A (a0G gZ15 hr rfl dZ15.m dZ15.F.kp dZ15.b .nil a0T (a0A (pv 0) (a0A (pv 1) a0B))) a0B))) (a9W (K := K) (n := 2) rfl rfl (a3B (a0N (i := 3) sc_filled.nd rfl (Or.inr rfl)) (a3B (a0N (i := 4) sc_filled.nd rfl (Or.inl rfl)) a9M)))
   (a0E (a2H (a4M (K := K) rfl PySem.F.plainAttrs_list PySem.F.slot_list_extend PySem.F.type_list_extend a6R (pv 2) (a0A (a7D ["u", "v", "graph"] [none, some 3, some 0]  (by kernel_rfl) rfl (a1G (K := K) rfl (pv 4)) (fun _ _ _ _ _ => (a0N (i := 0) (show (["u", "v", "graph"] : List Str).Nodup by decide +kernel) rfl (Or.inl rfl))) (fun _ _ _ _ _ => a2O) (fun _ _ _ _ _ => (a0G gZ23 hr rfl dZ23.m dZ23.F.kp dZ23.b .nil a0T (a0A (a1K (a1H (K := K) rfl) (pv 2) a0F (fun _ _ => rfl)) (a0A (pv 1) (a0A (pv 0) a0B)))))) a0B)))))
   (a0E (a0J (a2A (a0A (a1K (a1H (K := K) rfl) (pv 0) a0F (fun _ _ => rfl)) (a0A (a0I (a8W (K := K) rfl) rfl B.sorted (by decide +kernel) (a0A (pv 2) a0B)) a0B))))))), ?_⟩
 refine ⟨(by show 0 <= 1000; decide), fun pt H1 n1 => ?_⟩
 refine ⟨_, rfl, _, rfl, _, rfl, .ref pg, n, ts, a, os, rfl, hG.same n1.same, okt, n1.same.seq hA, hp, n10, fun pl qs H2 s2 f2 h2 lq fq pq nl => ?_⟩
 have s12 : Same H H2 := n1.same.trans s2
 have hpt2 : H2 pt = some (.lst []) := s2 _ _ n1.here
 have npl : pl ≠ pt := fun z => by rw [z, n1.here] at f2; cases f2
 have nqt : ∀ q ∈ qs, q ≠ pt := fun q hq z => by have := fq q hq; rw [z, n1.here] at this; cases this
 refine ⟨a, pl, rfl, ⟨_, s12.seq hA⟩, ⟨_, SqL.of h2⟩, ?_⟩
 refine c0D (xs := natV os) (ys := qs.map V.ref) (by rw [List.length_map, List.length_map, lq, ln]) (fun i σ H' => ∃ (vv pp : Option V) (xs : List V), σ = [some (.ref pg), some (.ref a), some (.ref pt), vv, pp] /\ Same H H' /\ (∀ b u, b ≠ pt -> H2 b = some u -> H' b = some u) /\ H' pt = some (.lst xs) /\ Paired (TieL H') xs (usF n ts os i))
  ⟨none, none, [], rfl, s12, fun b u _ e => e, hpt2, .nil⟩ (fun i σ H' _ ⟨_, _, _, _, s, kp, _⟩ => ⟨s.seq hA, SqL.of (kp _ _ npl h2)⟩) ?_ ?_
 ·rintro i x y σ H3 pz H4 hx hy ⟨vv, pp, xs, rfl, s3, kp, hpt3, p3⟩ n4
  rw [List.getElem?_map] at hx hy
  obtain ⟨v, hv, rfl⟩ := Option.map_eq_some_iff.mp hx
  obtain ⟨qi, hq, rfl⟩ := Option.map_eq_some_iff.mp hy
  have il : i < n := by have := (List.getElem?_eq_some_iff.mp hv).1; omega
  have vn : v < n := List.mem_range.mp (hp.mem_iff.mp (List.mem_of_getElem? hv))
  have ev : os.getD i 0 = v := by rw [τα, hv]; rfl
  refine ⟨pz, _, rfl, SqT.of n4.here, rfl, _, _, rfl, _, _, rfl, rfl, ?_⟩
  have hqi : H4 qi = some (.lst (natV (a1A n ts os i))) := n4.same _ _ (kp _ _ (nqt qi (List.mem_of_getElem? hq)) (nl.at_ i qi hq))
  have few := b1Y (ts := ts) o il
  have s4 : Same H H4 := s3.trans n4.same
  refine ⟨_, rfl, .inl ⟨rfl, _, SqL.of (n4.same _ _ hpt3)⟩, _, rfl, qi, rfl, ⟨_, SqL.of hqi⟩, ?_⟩
  refine a9R (xs := natV (a1A n ts os i)) (fun j ys G => Same H4 G /\ Paired (TieL G) ys (((a1A n ts os i).take j).map (tieP v))) ⟨Same.refl _, .nil⟩ (fun j ys G hj ⟨s, pu⟩ => ⟨SqL.of (s _ _ hqi), ?_⟩) (fun j x ys G hx ⟨s, pu⟩ => ?_) ?_
  ·have := Paired.length pu
   rw [List.length_map, List.length_take] at this
   exact Nat.le_of_lt (a0V (by omega))
  ·rw [List.getElem?_map] at hx
   obtain ⟨u, hu, rfl⟩ := Option.map_eq_some_iff.mp hx
   have um := (a1S o hv).mp (List.mem_of_getElem? hu)
   have ne : v ≠ u := fun z => by
    have := o.at_ hv
    rw [z] at this; omega
   refine ⟨_, rfl, pg, _, _, _, rfl, rfl, (s4.trans s).tupq hP, rfl, _, rfl, _, rfl, n, v, u, rfl, vn, um.1, ne, fun p5 H5 n5 => ?_⟩
   refine ⟨s.trans n5.same, ?_⟩
   rw [List.take_succ, hu, List.map_append]
   exact a2P (Paired.mapP pu fun _ _ q => TieL.same n5.same q) ⟨p5, rfl, n5.here⟩
  rintro ys G ⟨sG, pu⟩ pn hfree
  have nG : New G pn (.lst ys) (upd G pn (.lst ys)) := New.mk0 hfree
  generalize upd G pn (.lst ys) = G2 at nG
  rw [List.length_map, List.take_length] at pu
  have s42 : Same H4 G2 := sG.trans nG.same
  have hpt5 : G2 pt = some (.lst xs) := s42 _ _ (n4.same _ _ hpt3)
  have l1 := Paired.length p3
  have l2 := Paired.length pu
  rw [List.length_map] at l2
  have l3 := b0K (ts := ts) o i (by omega)
  have l4 := b8P n n10 i
  refine ⟨pt, pn, xs, ys, rfl, rfl, hpt5, nG.here, by omega, fun H6 c6 => ?_⟩
  refine ⟨_, _, xs ++ ys, rfl, (s4.trans s42).chg n1.fresh c6, fun b u hb e => (c6.rest b hb).trans (s42 _ _ (n4.same _ _ (kp b u hb e))), c6.here, ?_⟩
  rw [a7Q, ev]
  exact a2L (Paired.mapP p3 fun _ _ q => ((q.same n4.same).same s42).chg hpt5 c6) (Paired.mapP pu fun _ _ q => (q.same nG.same).chg hpt5 c6)
 ·rintro σ H3 ⟨vv, pp, xs, rfl, s3, kp, hpt3, p3⟩
  rw [List.length_map, ln] at p3
  have l1 := Paired.length p3
  have l3 := b0K (ts := ts) o n (Nat.le_refl _)
  have l4 := c0R n10
  refine ⟨_, rfl, pg, _, _, _, rfl, rfl, s3.tupq hP, rfl, _, rfl, pt, xs, (usF n ts os n).map fun t => [t.1, t.2], rfl, SqL.of hpt3, a6A p3, fun l hl => ?_, by omega, fun q2 p6 H6 pq2 pw n6 => ?_⟩
  ·obtain ⟨t, _, rfl⟩ := List.mem_map.mp hl
   exact List.cons_ne_nil _ _
  ·refine ⟨(by show 2 <= 1000; decide), fun p7 H7 n7 => ?_⟩
   obtain ⟨up, me⟩ := b2T l1 (b8O (ts := ts) o n (Nat.le_refl _)) pq2 pw
   have eF : (q2.map fun i => (usF n ts os n).getD i (0, 0)) = a7P n (a5Y n ts os) := b1V up (b7N _ _) fun t => (me t).trans (c0Q o t)
   have hq : ∀ i ∈ q2, i < xs.length := fun i hi => List.mem_range.mp (pq2.mem_iff.mp hi)
   have pp7 := a5Z (Paired.mapP p3 fun _ _ q => TieL.same (n6.same.trans n7.same) q) q2 hq
   rw [eF] at pp7
   refine q p7 p6 _ H7 (s3.trans (n6.same.trans n7.same)) ((s3.trans n6.same).free n7.fresh) (s3.free n6.fresh) (fun z => ?_) n7.here (n7.same _ _ n6.here) pp7 ?_
   ·have := n7.fresh
    rw [z, n6.here] at this; cases this
   ·rw [List.length_map, pq2.length_eq, List.length_range]; omega
end
theorem c0T (s t : Int × Int) : PyData.eqv (tieD s) (tieD t) = decide (s = t) := by
 unfold tieD
 rw [PyData.eqv]
 have e := PySem.W.ked_eqvAll [s.1, s.2] [t.1, t.2]
 have e' : PyData.eqvAll [.int s.1, .int s.2] [.int t.1, .int t.2] = decide ([s.1, s.2] = [t.1, t.2]) := e
 rw [e']
 obtain ⟨a, b⟩ := s
 obtain ⟨c, d⟩ := t
 simp
theorem a6B : ∀ ts us : List ζζ, PyData.eqvAll (ts.map tieD) (us.map tieD) = decide (ts = us)
 | [], [] => by rw [List.map_nil, PyData.eqvAll]; rfl
 | [], u :: us => by simp [PyData.eqvAll]
 | t :: ts, [] => by simp [PyData.eqvAll]
 | t :: ts, u :: us => by
  rw [List.map_cons, List.map_cons, PyData.eqvAll, c0T, a6B ts us]
  rw [Bool.eq_iff_iff, Bool.and_eq_true, decide_eq_true_iff, decide_eq_true_iff, decide_eq_true_iff, List.cons.injEq]
theorem b7R (ts us : List ζζ) : PyData.eqv (a7G ts) (a7G us) = decide (ts = us) := by
 unfold a7G
 rw [PyData.eqv]
 exact a6B ts us
def b5W (K : Φρ) : Sp := fun vs H Q _ => ∃ (g : V) (n : Nat) (ts : List ζζ) (a : Addr) (os : List Nat), vs = [g, .ref a] /\ GraphV K H g n ts /\ (∀ t ∈ ts, 0 <= t.1 /\ t.1 < t.2 /\ t.2 < (n : Int)) /\ SqL K H a (natV os) /\ os.Perm (List.range n) /\ n <= 10 /\
 ∀ H', Same H H' -> Q (.bl (decide (a7P n (a5Y n ts os) = ts))) H'
section
variable {P : Program} {w : World} {K : Φρ} {mg : Str -> Option Value} {base : Heap}
abbrev DZ11 (K : PySem.W.Frag) (mg : Str -> Option Value) := Dn K mg "is_perfect" a2G ["graph", "order"]
set_option maxHeartbeats 4000000 in
theorem a7R (B : Bl mg) (Bz : mg "zip" = none) (dZ13 : DZ13 K mg) (dZ10 : DZ10 K mg) (dZ12 : DZ12 K mg) (dZ17 : DZ17 K mg) (dZ23 : DZ23 K mg) (dZ19 : DZ19 K mg) (dZ9 : DZ9 K mg) (dZ22 : DZ22 K mg) (dZ21 : DZ21 K mg) (dZ15 : DZ15 K mg) (dZ8 : DZ8 K mg) (dZ11 : DZ11 K mg) : FnOk P w K mg base CX0 7 dZ11.f dZ11.fd ["graph", "order"] (b5W K) := by
 have gZ8 : FnOk P w K mg base CX0 6 _ _ _ _ := a9F B Bz dZ13 dZ10 dZ12 dZ17 dZ23 dZ19 dZ9 dZ22 dZ21 dZ15 dZ8
 refine dZ11.F.ok a3U (fun vs H Q E h => ?_) (fun cdv A outer s H vs Q E hr h => ?_)
 ·obtain ⟨g, n, ts, a, os, rfl, _⟩ := h
  rfl
 obtain ⟨g, n, ts, a, os, rfl, hG, okt, hA, hp, n10, q⟩ := h
 have hu : (A.deeper (PyProof.Rows.envOfC "is_perfect" (a0D a2G) s.heap.objs.size dZ11.f cdv)).units + 64 < cLine := hr.units
 obtain ⟨pg, ta, rfl, hP, hT⟩ := id hG
 refine ⟨_, (a0E (a0J (a4C (a7E (K := K) rfl hu) (a1K (a1H (K := K) rfl) (a0G gZ8 hr rfl dZ8.m dZ8.F.kp dZ8.b .nil a0T (a0A (pv 0) (a0A (pv 1) a0B))) a0F (fun _ _ => rfl)) (a1K (a1H (K := K) rfl) (pv 0) a0F (fun _ _ => rfl)) (a0Q _)))), ?_⟩
 refine ⟨_, rfl, _, rfl, .ref pg, n, ts, a, os, rfl, hG, okt, hA, hp, n10, fun p r xs H1 s1 fp fr ne h1 h2 pp lx => ?_⟩
 refine ⟨p, _, _, _, rfl, rfl, SqT.of h1, rfl, _, rfl, pg, _, _, _, rfl, rfl, s1.tupq hP, rfl, ?_⟩
 have l := Paired.length pp
 have t1 : TiesAt K H1 r (a7P n (a5Y n ts os)) := ⟨xs, SqL.of h2, Paired.mapP pp fun _ _ q => q.v, by omega⟩
 have t2 : TiesAt K H1 ta ts := hT.same s1
 refine ⟨_, _, t1.isD, t2.isD, a3I _, a3I _, ?_⟩
 rw [if_neg Bool.false_ne_true, b7R]
 exact q H1 s1
end
end K
namespace K
open PySem L2 Lw Bg
abbrev a9G : Stmt := top 36
theorem sc_tree_of : FnScope ["graph", "order", "n", "behind", "rows", "k", "spot", "first", "up"] ["graph", "order"] (a0D a9G) := ⟨rfl, rfl, rfl, by decide +kernel, rfl, by decide +kernel, by decide +kernel⟩
theorem b1Z : ∀ (l : List Nat) (m : Nat), l.foldl min m <= m /\ (∀ a ∈ l, l.foldl min m <= a) /\ (l.foldl min m = m \/ l.foldl min m ∈ l)
 | [], m => ⟨Nat.le_refl _, fun a h => absurd h List.not_mem_nil, .inl rfl⟩
 | x :: r, m => by
  obtain ⟨h1, h2, h3⟩ := b1Z r (min m x)
  rw [List.foldl_cons]
  refine ⟨by omega, fun a ha => ?_, ?_⟩
  ·rcases List.mem_cons.mp ha with rfl | ha
   ·omega
   ·exact h2 a ha
  ·rcases h3 with h3 | h3
   ·by_cases c : m <= x
    ·left
     rw [h3]; omega
    ·right
     rw [h3, show min m x = x by omega]
     exact List.mem_cons_self
   ·exact .inr (List.mem_cons_of_mem _ h3)
def a4U (n : Nat) (ts : List ζζ) (os : List Nat) (i : Nat) : Nat := ((a1A n ts os i).map fun u => os.idxOf u).foldl min (n - 1)
def natI (l : List Nat) : List Int := l.map fun (x : Nat) => (x : Int)
def b0L (n : Nat) (ts : List ζζ) (os : List Nat) (k : Nat) : Row := (if k = 0 then none else some ((n : Int) - 1 - ((a4U n ts os (n - 1 - k) : Nat) : Int)), a6X [((os.getD (n - 1 - k) 0 : Nat) : Int)] (natI (a1A n ts os (n - 1 - k))))
def c0U (n : Nat) (ts : List ζζ) (os : List Nat) : List Row := if n = 0 then [(none, [])] else (List.range n).map (b0L n ts os)
def RowN (H : Hp) (l : Addr) (H' : Hp) (v : V) (r : Row) : Prop := ∃ p b, v = .ref p /\ H' p = some (.tup [upV r.1, .ref b]) /\ H' b = some (.lst (r.2.map V.int)) /\ b ≠ l /\ H b = none /\ r.2.length <= 16
theorem RowN.same {H : Hp} {l : Addr} {H1 H2 : Hp} {v : V} {r : Row} (s : Same H1 H2) (h : RowN H l H1 v r) : RowN H l H2 v r := by
 obtain ⟨p, b, e, q1, q2, n, f, z⟩ := h
 exact ⟨p, b, e, s _ _ q1, s _ _ q2, n, f, z⟩
theorem RowN.chg {H H1 H2 : Hp} {l : Addr} {xs ys : List V} {v : V} {r : Row} (hl : H1 l = some (.lst xs)) (c : Chg H1 l (.lst ys) H2) (h : RowN H l H1 v r) : RowN H l H2 v r := by
 obtain ⟨p, b, e, q1, q2, n, f, z⟩ := h
 exact ⟨p, b, e, (c.rest p (c1H q1 hl (by intro z; cases z))).trans q1, (c.rest b n).trans q2, n, f, z⟩
theorem b5X (xs ys : List Int) : (a6X xs ys).length <= 16 := by
 unfold a6X upF
 refine Nat.le_trans (List.length_filter_le _ _) ?_
 simp
def b7S (K : Φρ) : Sp := fun vs H Q _ => ∃ (g : V) (n : Nat) (ts : List ζζ) (a : Addr) (os : List Nat), vs = [g, .ref a] /\ GraphV K H g n ts /\ (∀ t ∈ ts, 0 <= t.1 /\ t.1 < t.2 /\ t.2 < (n : Int)) /\ H a = some (.lst (natV os)) /\ os.Perm (List.range n) /\ n <= 10 /\
 ∀ p xs H', Same H H' -> H p = none -> H' p = some (.lst xs) -> Paired (RowN H p H') xs (c0U n ts os) -> Q (.ref p) H'
section
variable {P : Program} {w : World} {K : Φρ} {mg : Str -> Option Value} {base : Heap}
abbrev DZ24 (K : PySem.W.Frag) (mg : Str -> Option Value) := Dn K mg "tree_of" a9G ["graph", "order"]
set_option maxHeartbeats 8000000 in
theorem b2U (B : Bl mg) (dZ13 : DZ13 K mg) (dZ10 : DZ10 K mg) (dZ12 : DZ12 K mg) (dZ14 : DZ14 K mg) (dZ17 : DZ17 K mg) (dZ19 : DZ19 K mg) (dZ9 : DZ9 K mg) (dZ22 : DZ22 K mg) (dZ21 : DZ21 K mg) (dZ15 : DZ15 K mg) (dZ24 : DZ24 K mg) : FnOk P w K mg base CX0 6 dZ24.f dZ24.fd ["graph", "order"] (b7S K) := by
 have gZ15 : FnOk P w K mg base CX0 5 _ _ _ _ := a5G B dZ13 dZ10 dZ12 dZ17 dZ19 dZ9 dZ22 dZ21 dZ15
 have gZ14 : FnOk P w K mg base CX0 5 _ _ _ _ := (b7L B dZ14).mono (by decide)
 refine dZ24.F.ok sc_tree_of (fun vs H Q E h => ?_) (fun cdv A outer s H vs Q E hr h => ?_)
 ·obtain ⟨g, n, ts, a, os, rfl, _⟩ := h
  rfl
 obtain ⟨g, n, ts, a, os, rfl, hG, okt, hA, hp, n10, q⟩ := h
 have o : Ord n os := ⟨hp⟩
 have ln := o.len
 obtain ⟨pg, ta, rfl, hP, hT⟩ := id hG
 refine ⟨_, (a0C (a0O (i := 2) sc_tree_of.nd rfl (Or.inl rfl) (a1K (a1H (K := K) rfl) (pv 0) a0F (fun _ _ => rfl)))
   (a0C (a0O (i := 3) sc_tree_of.nd rfl (Or.inl rfl) (a0G gZ15 hr rfl dZ15.m dZ15.F.kp dZ15.b .nil a0T (a0A (pv 0) (a0A (pv 1) a0B))))
   (a0C (a1N (a0L a2U (pv 2) a0F (a0Q _))
   (a0E (a0J (a0S (a0A (a2A (a0A b0O (a0A (a0S a0B) a0B))) a0B))))
   a0M)
   (a0C (a0O (i := 4) sc_tree_of.nd rfl (Or.inl rfl) (a0S a0B))
   (a0C (a2S PassesOwn.never rfl (a1Y rfl B.range (a0A (pv 2) a0B)) (a0N (i := 5) sc_tree_of.nd rfl (Or.inl rfl))
   (a0C (a0O (i := 6) sc_tree_of.nd rfl (Or.inl rfl) (a0H a2T (a0H a2T (pv 2) a0F) (pv 5)))
   (a0C (a0O (i := 7) sc_tree_of.nd rfl (Or.inl rfl) (b9J (K := K) rfl rfl B.min (a0A (a7D ["u", "order"] [none, some 1]  (by kernel_rfl) rfl (a1G (K := K) rfl (a1K (a1B (K := K) rfl) (pv 3) (pv 6) (fun _ _ => rfl))) (fun _ _ _ _ _ => (a0N (i := 0) (show (["u", "order"] : List Str).Nodup by decide +kernel) rfl (Or.inl rfl))) (fun _ _ _ _ _ => a2O) (fun _ _ _ _ _ => (a4M (K := K) rfl PySem.F.plainAttrs_list PySem.F.slot_list_index PySem.F.type_list_index b4N (pv 1) (a0A (pv 0) a0B)))) a0B) (a9N (a0H a2T (pv 2) a0F) b3K)))
   (a0C (a0O (i := 8) sc_tree_of.nd rfl (Or.inl rfl) (b0R (a0L a2U (pv 5) a0F (a0Q _)) b0O (a0H a2T (a0H a2T (pv 2) a0F) (pv 7))))
   (a0E (a2H (a4M (K := K) rfl PySem.F.plainAttrs_list PySem.F.slot_list_append PySem.F.type_list_append a3D (pv 4) (a0A (a2A (a0A (pv 8) (a0A (a0G gZ14 hr rfl dZ14.m dZ14.F.kp dZ14.b .nil a0T (a0A (a0S (a0A (a1K (a1B (K := K) rfl) (pv 1) (pv 6) (fun _ _ => rfl)) a0B)) (a0A (a1K (a1B (K := K) rfl) (pv 3) (pv 6) (fun _ _ => rfl)) a0B))) a0B))) a0B))))))))
   (a0E (a0J (pv 4)))))))), ?_⟩
 refine ⟨_, rfl, pg, _, _, _, rfl, rfl, hP, rfl, ?_⟩
 refine ⟨_, rfl, _, rfl, .ref pg, n, ts, a, os, rfl, hG, okt, SqL.of hA, hp, n10, fun pb qs H1 s1 f1 h1 lq fq pq nl => ?_⟩
 refine ⟨_, rfl, rfl, _, rfl, ?_⟩
 refine ite2 (fun c => ?_) (fun c => ?_)
 ·have c' : V.int (n : Int) = V.int 0 := of_decide_eq_true c
  have n0 : n = 0 := by have := V.int.inj c'; omega
  refine ⟨(by show 0 <= 1000; decide), fun p2 H2 n2 => ⟨(by show 2 <= 1000; decide), fun p3 H3 n3 => ⟨(by show 1 <= 1000; decide), fun p4 H4 n4 => ?_⟩⟩⟩
  have s24 : Same H2 H4 := n3.same.trans n4.same
  refine q p4 _ H4 (s1.trans (n2.same.trans s24)) ((s1.trans (n2.same.trans n3.same)).free n4.fresh) n4.here ?_
  unfold c0U
  rw [if_pos n0]
  exact .cons ⟨p3, p2, rfl, n4.same _ _ n3.here, s24 _ _ n2.here, n4.ne (n3.same _ _ n2.here), s1.free n2.fresh, Nat.zero_le _⟩ .nil
 ·have c' : ¬ V.int (n : Int) = V.int 0 := of_decide_eq_false (Bool.eq_false_iff.mpr c)
  have n0 : n ≠ 0 := fun z => c' (by rw [z]; rfl)
  refine ⟨(by show 0 <= 1000; decide), fun pr H2 n2 => ?_⟩
  have s2 : Same H H2 := s1.trans n2.same
  have fpr : H pr = none := s1.free n2.fresh
  refine ⟨_, rfl, _, rfl, by omega, by omega, ?_⟩
  rw [Int.toNat_natCast]
  refine a2J (n := n) (fun k σ H' => ∃ (kk ss ff uu : Option V) (xs : List V), σ = [some (.ref pg), some (.ref a), some (.int n), some (.ref pb), some (.ref pr), kk, ss, ff, uu] /\ Same H H' /\ (∀ b u, b ≠ pr -> H2 b = some u -> H' b = some u) /\ H' pr = some (.lst xs) /\ Paired (RowN H pr H') xs ((List.range k).map (b0L n ts os))) ⟨none, none, none, none, [], rfl, s2, fun b u _ e => e, n2.here, .nil⟩ ?_ ?_
  ·rintro k σ H3 hk ⟨kk, ss, ff, uu, xs, rfl, s3, k3, hr3, p3⟩
   have ek : (0 + (k : Int)) = ((k : Nat) : Int) := by omega
   rw [ek]
   obtain ⟨i, ei⟩ : ∃ i : Nat, i = n - 1 - k := ⟨_, rfl⟩
   have eI : (n : Int) - 1 - (k : Int) = ((i : Nat) : Int) := by omega
   have il : i < n := by omega
   refine ⟨_, rfl, _, _, rfl, rfl, _, rfl, _, _, rfl, rfl, ?_⟩
   dsimp only
   rw [eI]
   obtain ⟨qi, hq⟩ : ∃ qi, qs[i]? = some qi := ⟨_, List.getElem?_eq_getElem (by omega)⟩
   have nqr : qi ≠ pr := n2.ne (nl.at_ i qi hq)
   have gq : H3 qi = some (.lst (natV (a1A n ts os i))) := k3 _ _ nqr (n2.same _ _ (nl.at_ i qi hq))
   have hb3 : H3 pb = some (.lst (qs.map V.ref)) := k3 _ _ (n2.ne h1) (n2.same _ _ h1)
   have hA3 : H3 a = some (.lst (natV os)) := s3 _ _ hA
   have aq : atI (qs.map V.ref) (i : Int) = some (.ref qi) := a9P (by rw [List.getElem?_map, hq]; rfl)
   have hv := getD_some (os := os) (i := i) (by omega)
   have few : (a1A n ts os i).length <= 10 := Nat.le_trans (b5S _ _ _) n10
   have ltm : ∀ u ∈ a1A n ts os i, u < n := fun u hu => ((a1S o hv).mp hu).1
   refine ⟨_, rfl, _, rfl, pb, _, _, _, rfl, rfl, SqL.of hb3, aq, qi, rfl, ⟨_, SqL.of gq⟩, ?_⟩
   refine b0X (fun x => match x with | .int z => some (.int ((os.idxOf z.toNat : Nat) : Int)) | _ => none) (SqL.of gq) (by rw [List.length_map]; omega) (fun x H4 N hx s4 hN => ?_) (fun H4 pm H5 s4 n5 => ?_)
   ·obtain ⟨u, hu, rfl⟩ := List.mem_map.mp hx
    have un := ltm u hu
    have hN' := hN H4 s4
    dsimp only at hN'
    rw [Int.toNat_natCast] at hN'
    have hA4 : H4 a = some (.lst (List.map V.int (natI os))) := by
     rw [s4 _ _ hA3, a0W]; rfl
    refine ⟨_, rfl, .inl ⟨rfl, _, SqL.of hA4⟩, _, rfl, a, natI os, (u : Int), os.idxOf u, rfl, rfl, hA4, ?_, fun m hm z => ?_, by unfold natI; rw [List.length_map]; omega, hN'⟩
    ·unfold natI
     rw [List.getElem?_map, o.get un]; rfl
    ·unfold natI at z
     rw [List.getElem?_map] at z
     obtain ⟨y, hy, ey⟩ := Option.map_eq_some_iff.mp z
     have : y = u := by omega
     subst this
     have := o.at_ hy
     omega
   have em : (natV (a1A n ts os i)).filterMap (fun x => match x with | .int z => some (V.int ((os.idxOf z.toNat : Nat) : Int)) | _ => none) = (((a1A n ts os i).map fun u => os.idxOf u).map fun (x : Nat) => (x : Int)).map V.int := by
    unfold natV
    rw [List.filterMap_map, List.map_map, List.map_map]
    exact a3H fun x _ => by simp
   rw [em] at n5
   have s35 : Same H3 H5 := s4.trans n5.same
   obtain ⟨m1, m2, m3⟩ := b1Z ((a1A n ts os i).map fun u => os.idxOf u) (n - 1)
   have keyA : (((a1A n ts os i).map fun u => os.idxOf u).map fun (x : Nat) => (x : Int)) = [] -> (n : Int) - 1 = ((a4U n ts os i : Nat) : Int) := fun z => by
    have z' : (a1A n ts os i).map (fun u => os.idxOf u) = [] := List.map_eq_nil_iff.mp z
    unfold a4U
    rw [z']
    show _ = ((n - 1 : Nat) : Int)
    omega
   have keyB : ∀ M, M ∈ (((a1A n ts os i).map fun u => os.idxOf u).map fun (x : Nat) => (x : Int)) -> (∀ a ∈ (((a1A n ts os i).map fun u => os.idxOf u).map fun (x : Nat) => (x : Int)), M <= a) -> M = ((a4U n ts os i : Nat) : Int) := fun M hM hall => by
    obtain ⟨x, hx, rfl⟩ := List.mem_map.mp hM
    have h1 : a4U n ts os i <= x := m2 x hx
    have h2 : x <= a4U n ts os i := by
     rcases m3 with h | h
     ·obtain ⟨u, hu, eu⟩ := List.mem_map.mp hx
      have := o.lt (ltm u hu)
      unfold a4U
      rw [h]; omega
     ·have := hall _ (List.mem_map.mpr ⟨_, h, rfl⟩)
      unfold a4U
      omega
    show (x : Int) = _
    omega
   have hb5 := s35 _ _ hb3
   have gq5 := s35 _ _ gq
   have hA5 := s35 _ _ hA3
   have hr5 := s35 _ _ hr3
   have ao : atI (natV os) (i : Int) = some (.int ((os.getD i 0 : Nat) : Int)) := a2Y (by omega)
   have gq5' : SqL K H5 qi ((natI (a1A n ts os i)).map V.int) := by
    have := gq5
    rw [a0W] at this
    exact SqL.of this
   have vn : os.getD i 0 < n := List.mem_range.mp (hp.mem_iff.mp (List.mem_of_getElem? hv))
   have sm1 : b5G [((os.getD i 0 : Nat) : Int)] := fun x hx => by
    rw [List.mem_singleton.mp hx]; omega
   have sm2 : b5G (natI (a1A n ts os i)) := fun x hx => by
    obtain ⟨u, hu, rfl⟩ := List.mem_map.mp hx
    have := ltm u hu
    omega
   have lx := Paired.length p3
   rw [List.length_map, List.length_range] at lx
   have fin : ∀ (u : V), u = upV (b0L n ts os k).1 -> ∀ p6 H6, New H5 p6 (.lst [.int ((os.getD i 0 : Nat) : Int)]) H6 -> ∀ H7 p8 H8, Same H6 H7 -> New H7 p8 (.lst ((a6X [((os.getD i 0 : Nat) : Int)] (natI (a1A n ts os i))).map V.int)) H8 -> ∀ p9 H9, New H8 p9 (.tup [u, .ref p8]) H9 -> ∀ H10, Chg H9 pr (.lst (xs ++ [.ref p9])) H10 ->
     Same H H10 /\ (∀ b u, b ≠ pr -> H2 b = some u -> H10 b = some u) /\ H10 pr = some (.lst (xs ++ [.ref p9])) /\ Paired (RowN H pr H10) (xs ++ [.ref p9]) ((List.range (k + 1)).map (b0L n ts os)) := fun u eu p6 H6 n6 H7 p8 H8 s7 n8 p9 H9 n9 H10 c10 => by
    have s39 : Same H3 H9 := s35.trans (n6.same.trans (s7.trans (n8.same.trans n9.same)))
    have hr9 := s39 _ _ hr3
    have n8r : p8 ≠ pr := (n8.ne (s7 _ _ (n6.same _ _ hr5))).symm
    have n9r : p9 ≠ pr := (n9.ne (n8.same _ _ (s7 _ _ (n6.same _ _ hr5)))).symm
    refine ⟨(s3.trans s39).chg fpr c10, fun b u hb e => (c10.rest b hb).trans (s39 _ _ (k3 b u hb e)), c10.here, ?_⟩
    rw [List.range_succ, List.map_append]
    refine a2P (Paired.mapP p3 fun v r q => (RowN.same s39 q).chg hr9 c10) ?_
    refine ⟨p9, p8, rfl, ?_, ?_, n8r, (s3.trans (s35.trans (n6.same.trans s7))).free n8.fresh, b5X _ _⟩
    ·rw [<- eu]
     exact (c10.rest p9 n9r).trans n9.here
    ·unfold b0L
     rw [<- ei]
     exact (c10.rest p8 n8r).trans (n9.same _ _ n8.here)
   refine ⟨_, rfl, _, _, rfl, rfl, pm, _, _, rfl, rfl, SqL.of n5.here, fun z => ?A, fun M hM hall => ?B⟩
   case' A => dsimp only; rw [keyA z]
   case' B => rw [keyB M hM hall]
   all_goals
    refine ⟨_, rfl, rfl, _, rfl, ?_⟩
    by_cases c0 : k = 0
    ·rw [show decide (V.int ((k : Nat) : Int) = V.int 0) = true by rw [c0]; rfl]
     refine iteT ?_
     refine ⟨_, rfl, .inl ⟨rfl, _, SqL.of hr5⟩, _, rfl, _, rfl, _, rfl, a, _, _, _, rfl, rfl, SqL.of hA5, ao, (by show 1 <= 1000; decide), fun p6 H6 n6 => ?_⟩
     refine ⟨_, rfl, _, rfl, pb, _, _, _, rfl, rfl, SqL.of (n6.same _ _ hb5), aq, p6, qi, [((os.getD i 0 : Nat) : Int)], natI (a1A n ts os i), rfl, SqL.of n6.here, n6.same.seq gq5', sm1, sm2, fun H7 p8 H8 s7 n8 => ?_⟩
     refine ⟨(by show 2 <= 1000; decide), fun p9 H9 n9 => ?_⟩
     refine ⟨pr, _, _, rfl, rfl, n9.same _ _ (n8.same _ _ (s7 _ _ (n6.same _ _ hr5))), by omega, fun H10 c10 => ?_⟩
     exact ⟨_, _, _, _, _, rfl, fin _ (by unfold b0L; rw [if_pos c0]; rfl) p6 H6 n6 H7 p8 H8 s7 n8 p9 H9 n9 H10 c10⟩
    ·rw [show decide (V.int ((k : Nat) : Int) = V.int 0) = false from decide_eq_false fun z => c0 (by have := V.int.inj z; omega)]
     refine iteF ?_
     refine ⟨_, rfl, _, _, rfl, rfl, _, rfl, _, _, rfl, rfl, ?_⟩
     refine ⟨_, rfl, .inl ⟨rfl, _, SqL.of hr5⟩, _, rfl, _, rfl, _, rfl, a, _, _, _, rfl, rfl, SqL.of hA5, ao, (by show 1 <= 1000; decide), fun p6 H6 n6 => ?_⟩
     refine ⟨_, rfl, _, rfl, pb, _, _, _, rfl, rfl, SqL.of (n6.same _ _ hb5), aq, p6, qi, [((os.getD i 0 : Nat) : Int)], natI (a1A n ts os i), rfl, SqL.of n6.here, n6.same.seq gq5', sm1, sm2, fun H7 p8 H8 s7 n8 => ?_⟩
     refine ⟨(by show 2 <= 1000; decide), fun p9 H9 n9 => ?_⟩
     refine ⟨pr, _, _, rfl, rfl, n9.same _ _ (n8.same _ _ (s7 _ _ (n6.same _ _ hr5))), by omega, fun H10 c10 => ?_⟩
     exact ⟨_, _, _, _, _, rfl, fin _ (by unfold b0L; rw [if_neg c0, <- ei]; rfl) p6 H6 n6 H7 p8 H8 s7 n8 p9 H9 n9 H10 c10⟩
  ·rintro σ H3 ⟨kk, ss, ff, uu, xs, rfl, s3, k3, hr3, p3⟩
   refine ⟨_, rfl, q pr xs H3 s3 fpr hr3 ?_⟩
   unfold c0U
   rw [if_neg n0]
   exact p3
end
theorem b2A : ∀ (l : List Int) (m : Int), m <= l.foldl max m /\ (∀ a ∈ l, a <= l.foldl max m) /\ (l.foldl max m = m \/ l.foldl max m ∈ l)
 | [], m => ⟨Int.le_refl _, fun a h => absurd h List.not_mem_nil, .inl rfl⟩
 | x :: r, m => by
  obtain ⟨h1, h2, h3⟩ := b2A r (max m x)
  rw [List.foldl_cons]
  refine ⟨by omega, fun a ha => ?_, ?_⟩
  ·rcases List.mem_cons.mp ha with rfl | ha
   ·omega
   ·exact h2 a ha
  ·rcases h3 with h3 | h3
   ·by_cases c : m <= x
    ·right
     rw [h3, show max m x = x by omega]
     exact List.mem_cons_self
    ·left
     rw [h3]; omega
   ·exact .inr (List.mem_cons_of_mem _ h3)
theorem c3B {l : List Int} {m M : Int} (hM : M ∈ l) (h : ∀ a ∈ l, a <= M) (h0 : ∀ a ∈ l, m <= a) : M = l.foldl max m := by
 obtain ⟨h1, h2, h3⟩ := b2A l m
 have a1 := h2 M hM
 rcases h3 with h3 | h3
 ·have := h0 M hM
  omega
 ·have := h _ h3
  omega
abbrev a3V : Stmt := top 32
theorem a3F : FnScope ["graph", "order"] ["graph", "order"] (a0D a3V) := ⟨rfl, rfl, rfl, by decide +kernel, rfl, by decide +kernel, by decide +kernel⟩
def b5Y (n : Nat) (ts : List ζζ) (os : List Nat) : Int := ((List.range n).map fun j => (((a1A n ts os j).length : Nat) : Int)).foldl max (-1)
def b7T (K : Φρ) : Sp := fun vs H Q _ => ∃ (g : V) (n : Nat) (ts : List ζζ) (a : Addr) (os : List Nat), vs = [g, .ref a] /\ GraphV K H g n ts /\ (∀ t ∈ ts, 0 <= t.1 /\ t.1 < t.2 /\ t.2 < (n : Int)) /\ SqL K H a (natV os) /\ os.Perm (List.range n) /\ n <= 10 /\
 ∀ H', Same H H' -> Q (.int (b5Y n ts os)) H'
section
variable {P : Program} {w : World} {K : Φρ} {mg : Str -> Option Value} {base : Heap}
abbrev DZ18 (K : PySem.W.Frag) (mg : Str -> Option Value) := Dn K mg "order_width" a3V ["graph", "order"]
set_option maxHeartbeats 4000000 in
theorem a6J (B : Bl mg) (dZ13 : DZ13 K mg) (dZ10 : DZ10 K mg) (dZ12 : DZ12 K mg) (dZ17 : DZ17 K mg) (dZ19 : DZ19 K mg) (dZ9 : DZ9 K mg) (dZ22 : DZ22 K mg) (dZ21 : DZ21 K mg) (dZ15 : DZ15 K mg) (dZ18 : DZ18 K mg) : FnOk P w K mg base CX0 6 dZ18.f dZ18.fd ["graph", "order"] (b7T K) := by
 have gZ15 : FnOk P w K mg base CX0 5 _ _ _ _ := a5G B dZ13 dZ10 dZ12 dZ17 dZ19 dZ9 dZ22 dZ21 dZ15
 refine dZ18.F.ok a3F (fun vs H Q E h => ?_) (fun cdv A outer s H vs Q E hr h => ?_)
 ·obtain ⟨g, n, ts, a, os, rfl, _⟩ := h
  rfl
 obtain ⟨g, n, ts, a, os, rfl, hG, okt, hA, hp, n10, q⟩ := h
 refine ⟨_, (a0E (a0J (b4I (K := K) rfl rfl B.max (a0A (a7D ["places"] [none]  (by kernel_rfl) rfl (a1G (K := K) rfl (a0G gZ15 hr rfl dZ15.m dZ15.F.kp dZ15.b .nil a0T (a0A (pv 0) (a0A (pv 1) a0B)))) (fun _ _ _ _ _ => (a0N (i := 0) (show (["places"] : List Str).Nodup by decide +kernel) rfl (Or.inl rfl))) (fun _ _ _ _ _ => a2O) (fun _ _ _ _ _ => (a0I (a1L (K := K) rfl) rfl B.len (by decide +kernel) (a0A (pv 0) a0B)))) a0B) (a9N (b2C a6N a0F) b3K)))), ?_⟩
 refine ⟨_, rfl, _, rfl, g, n, ts, a, os, rfl, hG, okt, hA, hp, n10, fun p qs H1 s1 f1 h1 lq fq pq nl => ⟨p, rfl, ⟨_, SqL.of h1⟩, ?_⟩⟩
 refine c2A (fun j => some (.int (((a1A n ts os j).length : Nat) : Int))) (SqL.of h1) (by rw [List.length_map]; omega) (fun j x H2 N hj s2 hN => ?_) (fun H2 p2 H3 s2 n3 => ?_)
 ·rw [List.getElem?_map] at hj
  obtain ⟨qj, hq, rfl⟩ := Option.map_eq_some_iff.mp hj
  have g := s2 _ _ (nl.at_ j qj hq)
  refine ⟨_, rfl, qj, _, rfl, .inl (SqL.of g), ?_⟩
  dsimp only
  rw [List.length_map]
  exact hN H2 s2
 ·have e : (List.range (qs.map V.ref).length).filterMap (fun j => some (V.int (((a1A n ts os j).length : Nat) : Int))) = ((List.range n).map fun j => (((a1A n ts os j).length : Nat) : Int)).map V.int := by
   rw [List.length_map, lq, List.map_map]
   exact a3H fun _ _ => rfl
  rw [e] at n3
  have s3 : Same H H3 := s1.trans (s2.trans n3.same)
  refine ⟨_, rfl, p2, _, _, rfl, rfl, SqL.of n3.here, fun z => ?_, fun M hM hall => ?_⟩
  ·have := q H3 s3
   unfold b5Y at this
   rw [z] at this
   exact this
  ·have := q H3 s3
   unfold b5Y at this
   rw [<- c3B hM hall (fun a ha => by
    obtain ⟨j, _, rfl⟩ := List.mem_map.mp ha
    omega)] at this
   exact this
end
abbrev a3W : Stmt := top 33
theorem sc_reached : FnScope ["graph", "gone", "v", "bags", "u"] ["graph", "gone", "v"] (a0D a3W) := ⟨rfl, rfl, rfl, by decide +kernel, rfl, by decide +kernel, by decide +kernel⟩
def b5Z (K : Φρ) : Sp := fun vs H Q _ => ∃ (g : V) (n : Nat) (ts : List ζζ) (a : Addr) (S : List Nat) (v : Nat), vs = [g, .ref a, .int v] /\ GraphV K H g n ts /\ (∀ t ∈ ts, 0 <= t.1 /\ t.1 < t.2 /\ t.2 < (n : Int)) /\ SqL K H a (natV S) /\ (∀ x ∈ S, x < n) /\ S.length <= 400 /\ v < n /\ v ∉ S /\ n <= 10 /\
 ∀ p H', Same H H' -> H p = none -> H' p = some (.lst (natV (a3S n (runR n ts S) v))) -> Q (.ref p) H'
section
variable {P : Program} {w : World} {K : Φρ} {mg : Str -> Option Value} {base : Heap}
abbrev DZ20 (K : PySem.W.Frag) (mg : Str -> Option Value) := Dn K mg "reached" a3W ["graph", "gone", "v"]
set_option maxHeartbeats 8000000 in
theorem b2V (B : Bl mg) (dZ13 : DZ13 K mg) (dZ10 : DZ10 K mg) (dZ17 : DZ17 K mg) (dZ19 : DZ19 K mg) (dZ9 : DZ9 K mg) (dZ22 : DZ22 K mg) (dZ20 : DZ20 K mg) : FnOk P w K mg base CX0 3 dZ20.f dZ20.fd ["graph", "gone", "v"] (b5Z K) := by
 have gZ10 : FnOk P w K mg base CX0 2 _ _ _ _ := a2Q B dZ13 dZ10
 have gZ9 : FnOk P w K mg base CX0 2 _ _ _ _ := (a3Q B dZ9).mono (by decide)
 have gZ22 : FnOk P w K mg base CX0 2 _ _ _ _ := (a4T B dZ22).mono (by decide)
 have gZ19 : FnOk P w K mg base CX0 2 _ _ _ _ := (a4S B dZ19).mono (by decide)
 have gZ17 : FnOk P w K mg base CX0 2 _ _ _ _ := (b5M B dZ17).mono (by decide)
 refine dZ20.F.ok sc_reached (fun vs H Q E h => ?_) (fun cdv A outer s H vs Q E hr h => ?_)
 ·obtain ⟨g, n, ts, a, S, v, rfl, _⟩ := h
  rfl
 obtain ⟨g, n, ts, a, S, v, rfl, hG, okt, hA, hS, lS, vn, vS, n10, q⟩ := h
 have hv : (A.deeper (PyProof.Rows.envOfC "reached" (a0D a3W) s.heap.objs.size dZ20.f cdv)).units + 65 < cLine := by have := hr.un; omega
 obtain ⟨pg, ta, rfl, hP, hT⟩ := id hG
 refine ⟨_, (a0C (a1N (PW.pt (a9L (a3E (a0Y (K := K) rfl (a0G gZ10 hr rfl dZ10.m dZ10.F.kp dZ10.b .nil a0T (a0A (a1K (a1H (K := K) rfl) (pv 0) a0F (fun _ _ => rfl)) (a0A (pv 2) a0B))) (fun _ => rfl))) (a6M (a0L (a9V (K := K) rfl hv) (pv 2) (pv 1) (by with_unfolding_all rfl)))))
   (a0E a4Z)
   a0M)
   (a0C (a0O (i := 3) sc_reached.nd rfl (Or.inl rfl) (a0G gZ9 hr rfl dZ9.m dZ9.F.kp dZ9.b .nil a0T (a0A (pv 0) a0B)))
   (a0C (a2S PassesOwn.never rfl (a1G (K := K) rfl (pv 1)) (a0N (i := 4) sc_reached.nd rfl (Or.inl rfl))
   (a0E (a0O (i := 3) sc_reached.nd rfl (Or.inl rfl) (a0G gZ22 hr rfl dZ22.m dZ22.F.kp dZ22.b .nil a0T (a0A (pv 3) (a0A (pv 4) a0B))))))
   (a0E (a0J (a0G gZ17 hr rfl dZ17.m dZ17.F.kp dZ17.b .nil a0T (a0A (a0G gZ19 hr rfl dZ19.m dZ19.F.kp dZ19.b .nil a0T (a0A (a1K (a1B (K := K) rfl) (pv 3) (pv 2) (fun _ _ => rfl)) a0B)) (a0A (a0S (a0A (pv 2) a0B)) a0B)))))))), ?_⟩
 have hb : a2K (n : Int) (some (v : Int)) = true := by unfold a2K; simp; omega
 refine ⟨_, rfl, pg, _, _, _, rfl, rfl, hP, rfl, _, rfl, (n : Int), some (v : Int), rfl, _, rfl, ?_⟩
 rw [hb]
 refine iteF ?_
 refine ⟨_, rfl, _, rfl, c2Z hA ⟨_, rfl, ?_⟩⟩
 rw [decide_eq_false vS]
 refine iteF ?_
 refine ⟨_, rfl, .ref pg, n, ts, rfl, hG, okt, n10, fun pb ms H2 s2 f2 hb2 BM => ?_⟩
 refine ⟨_, rfl, a, rfl, ⟨_, s2.seq hA⟩, ?_⟩
 refine a5A (xs := natV S) (fun i σ H' => ∃ (pb : Addr) (uu : Option V) (ms : List Nat), σ = [some (.ref pg), some (.ref a), some (.int v), some (.ref pb), uu] /\ Same H H' /\ H' pb = some (.lst (natV ms)) /\ BagsM n ms (runR n ts (S.take i))) ⟨pb, none, ms, rfl, s2, hb2, BM⟩ (fun i σ H' _ ⟨_, _, _, _, s, _⟩ => s.seq hA) ?_ ?_
 ·rintro i x σ H4 hx ⟨pb, uu, ms, rfl, s4, hb4, BM⟩
  rw [List.getElem?_map] at hx
  obtain ⟨u, hu, rfl⟩ := Option.map_eq_some_iff.mp hx
  have un := hS u (List.mem_of_getElem? hu)
  have et : S.take (i + 1) = S.take i ++ [u] := by rw [List.take_succ, hu]; rfl
  refine ⟨_, rfl, _, rfl, pb, n, ms, _, u, rfl, SqL.of hb4, BM, un, fun p11 H11 s11 f11 hb11 => ?_⟩
  refine ⟨p11, _, a7L u ms, rfl, s4.trans s11, hb11, ?_⟩
  rw [et, a3R]
  exact b4S BM un
 ·rintro σ H4 ⟨pb, uu, ms, rfl, s4, hb4, BM⟩
  rw [List.length_map, List.take_length] at BM
  have lv : v < ms.length := by rw [BM.len]; exact vn
  refine ⟨_, rfl, _, rfl, pb, _, _, _, rfl, rfl, SqL.of hb4, a2Y lv, _, rfl, BM.mlt vn, fun H5 pp H6 s5 n6 => ?_⟩
  refine ⟨_, rfl, (by show 1 <= 1000; decide), fun p7 H7 n7 => ?_⟩
  have hpp : SqL K H7 pp ((a1U (ms.getD v 0)).map (fun (x : Nat) => (x : Int)) |>.map V.int) := by rw [<- a0W]; exact SqL.of (n7.same _ _ n6.here)
  have hz : (a1U (ms.getD v 0)).length <= 10 := by
   unfold a1U
   refine Nat.le_trans (List.length_filter_le _ _) ?_
   simp
  refine ⟨pp, p7, _, [(v : Int)], rfl, hpp, SqL.of n7.here, by rw [List.length_map]; omega, fun H8 p9 H9 s8 n9 => ?_⟩
  rw [b1R, a5P BM vn, List.filter_filter, <- a0W] at n9
  have el : (List.range n).filter (fun u => !decide (u = v) && runR n ts S v u) = a3S n (runR n ts S) v := by
   unfold a3S
   exact List.filter_congr fun u _ => Bool.and_comm _ _
  rw [el] at n9
  have s49 : Same H4 H8 := s5.trans (n6.same.trans (n7.same.trans s8))
  exact q p9 H9 (s4.trans (s49.trans n9.same)) ((s4.trans s49).free n9.fresh) n9.here
end
end K
namespace K
open PySem L2 Lw Bg
abbrev a6C : Stmt := top 38
theorem a9H : FnScope ["_law_script", "_law_k"] ["_law_script", "_law_k"] (a0D a6C) := ⟨rfl, rfl, rfl, by decide +kernel, rfl, by decide +kernel, by decide +kernel⟩
def c0V (K : Φρ) : Sp := fun vs H Q _ => ∃ (a : Addr) (ns : List Int) (k : Int), vs = [.ref a, .int k] /\ Scr K H a ns /\ ns.length <= 63 /\ 0 <= k /\ k <= 1000 /\ ∀ z, Q (.int z) H
section
variable {P : Program} {w : World} {K : Φρ} {mg : Str -> Option Value} {base : Heap}
abbrev DZ1 (K : PySem.W.Frag) (mg : Str -> Option Value) := Dn K mg "_law_cell" a6C ["_law_script", "_law_k"]
set_option maxHeartbeats 4000000 in
theorem a2Z (B : Bl mg) (dZ1 : DZ1 K mg) : FnOk P w K mg base CX0 1 dZ1.f dZ1.fd ["_law_script", "_law_k"] (c0V K) := by
 refine dZ1.F.ok a9H (fun vs H Q E h => ?_) (fun cdv A outer s H vs Q E hr h => ?_)
 ·obtain ⟨a, ns, k, rfl, _⟩ := h
  rfl
 obtain ⟨a, ns, k, rfl, hS, h63, h0, h1, q⟩ := h
 refine ⟨_, (a0C (a1N (a0L b8U (pv 1) (a0I (a1L (K := K) rfl) rfl B.len (by decide +kernel) (a0A (pv 0) a0B)) (a0Q _))
   (a0E (a0J (a1K (a1B (K := K) rfl) (pv 0) (pv 1) (fun _ _ => rfl))))
   a0M)
   (a0C (a1N (a0L a2U (a0I (a1L (K := K) rfl) rfl B.len (by decide +kernel) (a0A (pv 0) a0B)) a0F (a0Q _))
   (a0E (a0J (a0H a1Z (a0H a3M (a0H a3M (pv 1) (pv 1)) a0F) a0F)))
   a0M)
   (a0E (a0J (a0H a1Z (a0H a3M (a0H a1M (a1K (a1B (K := K) rfl) (pv 0) (a0H a1M (a0H a3M (pv 1) a0F) (a0I (a1L (K := K) rfl) rfl B.len (by decide +kernel) (a0A (pv 0) a0B))) (fun _ _ => rfl)) a0F) a0F) (a0H a3M (a0H a3M (pv 1) (pv 1)) a0F)))))), ?_⟩
 have hl : (ns.map V.int).length = ns.length := List.length_map _
 refine ⟨_, rfl, _, rfl, a, _, rfl, .inl hS.seq, _, _, rfl, rfl, _, rfl, ?_⟩
 refine ite2 (fun c => ?_) (fun c => ?_)
 ·have c' : k < (((ns.map V.int).length : Nat) : Int) := of_decide_eq_true c
  rw [hl] at c'
  exact ⟨_, rfl, _, rfl, a, _, _, _, rfl, rfl, hS.seq, a7F h0 c', q _⟩
 refine ⟨_, rfl, a, _, rfl, .inl hS.seq, rfl, _, rfl, ?_⟩
 refine ite2 (fun c2 => ?_) (fun c2 => ?_)
 ·exact ⟨_, rfl, _, rfl, _, _, rfl, rfl, .inl ⟨by omega, by omega⟩, _, _, rfl, rfl, .inr ⟨by decide, by decide⟩, _, _, rfl, rfl, q _⟩
 ·have c2' : ¬ V.int (((ns.map V.int).length : Nat) : Int) = V.int 0 := of_decide_eq_false (Bool.eq_false_iff.mpr c2)
  rw [hl] at c2'
  have z' : (0 : Int) < (ns.length : Int) := by
   rcases Nat.eq_zero_or_pos ns.length with e | e
   ·exact absurd (by rw [e]; rfl) c2'
   ·omega
  have m0 := Int.emod_nonneg (k * 3) (show (ns.length : Int) ≠ 0 by omega)
  have m1 := Int.emod_lt_of_pos (k * 3) z'
  exact ⟨_, rfl, _, rfl, _, _, rfl, rfl, .inr ⟨by decide, by decide⟩, _, rfl, a, _, rfl, .inl hS.seq, _, _, rfl, rfl, (by rw [hl]; exact z'), a, _, _, _, rfl, rfl, hS.seq, (by rw [hl]; exact a7F m0 m1), _, _, rfl, rfl, (show (0 : Int) < _ by decide), _, _, rfl, rfl, .inr ⟨by decide, by decide⟩, _, rfl, _, rfl, _, _, rfl, rfl, .inl ⟨by omega, by omega⟩, _, _, rfl, rfl, .inr ⟨by decide, by decide⟩, _, _, rfl, rfl, q _⟩
end
abbrev a3X : Stmt := top 39
theorem sc__law_turned : FnScope ["_law_script", "_law_n", "_law_turned_here", "_law_v"] ["_law_script", "_law_n"] (a0D a3X) := ⟨rfl, rfl, rfl, by decide +kernel, rfl, by decide +kernel, by decide +kernel⟩
abbrev rng (n : Nat) : List Int := (List.range n).map fun i => ((i : Nat) : Int)
theorem mem_rng {n : Nat} {v : Int} : v ∈ rng n ↔ 0 <= v /\ v < (n : Int) := by
 rw [List.mem_map]
 constructor
 ·rintro ⟨i, hi, rfl⟩
  have := List.mem_range.mp hi
  omega
 ·rintro ⟨h0, h1⟩
  exact ⟨v.toNat, List.mem_range.mpr (by omega), by omega⟩
def b7U (K : Φρ) : Sp := fun vs H Q _ => ∃ (a : Addr) (ns : List Int) (n : Nat), vs = [.ref a, .int n] /\ Scr K H a ns /\ ns.length <= 63 /\ n <= 10 /\ ∀ r us H', New H r (.lst (List.map V.int us)) H' -> us.Perm (rng n) -> Q (.ref r) H'
section
variable {P : Program} {w : World} {K : Φρ} {mg : Str -> Option Value} {base : Heap}
abbrev DZ7 (K : PySem.W.Frag) (mg : Str -> Option Value) := Dn K mg "_law_turned" a3X ["_law_script", "_law_n"]
set_option maxHeartbeats 4000000 in
theorem a6K (B : Bl mg) (dZ1 : DZ1 K mg) (dZ7 : DZ7 K mg) : FnOk P w K mg base CX0 2 dZ7.f dZ7.fd ["_law_script", "_law_n"] (b7U K) := by
 have gZ1 : FnOk P w K mg base CX0 1 _ _ _ _ := a2Z B dZ1
 refine dZ7.F.ok sc__law_turned (fun vs H Q E h => ?_) (fun cdv A outer s H vs Q E hr h => ?_)
 ·obtain ⟨a, ns, n, rfl, _⟩ := h
  rfl
 obtain ⟨a, ns, n, rfl, hS, h63, hn, q⟩ := h
 refine ⟨_, (a0C (a0O (i := 2) sc__law_turned.nd rfl (Or.inl rfl) (a0S a0B))
   (a0C (a2S PassesOwn.never rfl (a1Y rfl B.range (a0A (pv 1) a0B)) (a0N (i := 3) sc__law_turned.nd rfl (Or.inl rfl))
   (a0E (a2H (a4M (K := K) rfl PySem.F.plainAttrs_list PySem.F.slot_list_insert PySem.F.type_list_insert b2H (pv 2) (a0A (a0H a1M (a0G gZ1 hr rfl dZ1.m dZ1.F.kp dZ1.b .nil a0T (a0A (pv 0) (a0A (a0H a1Z a0F (pv 3)) a0B))) (a0H a1Z (pv 3) a0F)) (a0A (pv 3) a0B))))))
   (a0E (a0J (pv 2))))), ?_⟩
 refine ⟨(by show 0 <= 1000; decide), fun r H0 nw => ?_⟩
 refine ⟨_, rfl, _, rfl, by omega, by omega, ?_⟩
 rw [Int.toNat_natCast]
 refine a2J (n := n) (fun i σ H' => ∃ (us : List Int) (v : Option V), σ = [some (.ref a), some (.int n), some (.ref r), v] /\ New H r (.lst (us.map V.int)) H' /\ us.Perm (rng i)) ⟨[], none, rfl, nw, .nil⟩ ?_ ?_
 ·rintro i σ H1 hi ⟨us, v, rfl, n1, pm⟩
  have ei : (0 + (i : Int)) = ((i : Nat) : Int) := by omega
  rw [ei]
  have lu : us.length = i := by rw [pm.length_eq]; simp
  refine ⟨_, rfl, .inl ⟨rfl, _, SqL.of n1.here⟩, _, rfl, _, rfl, _, _, rfl, rfl, a, ns, _, rfl, hS.same n1.same, h63, (by omega), (by omega), fun z => ?_⟩
  have m0 := Int.emod_nonneg z (show (i : Int) + 1 ≠ 0 by omega)
  have m1 := Int.emod_lt_of_pos z (show (0 : Int) < (i : Int) + 1 by omega)
  refine ⟨_, rfl, _, _, rfl, rfl, _, _, rfl, rfl, (show (0 : Int) < _ by omega), _, rfl, r, _, _, _, rfl, rfl, n1.here, (by rw [List.length_map]; omega), m0, (by rw [List.length_map]; omega), fun H2 ch => ?_⟩
  refine ⟨us.take (z % ((i : Int) + 1)).toNat ++ (i : Int) :: us.drop (z % ((i : Int) + 1)).toNat, _, rfl, ⟨n1.fresh, ?_, fun b hb => (ch.rest b hb).trans (n1.rest b hb)⟩, ?_⟩
  ·rw [ch.here, <- List.map_take, <- List.map_drop, List.map_append, List.map_cons]
  ·refine List.perm_middle.trans ?_
   rw [List.take_append_drop]
   have e : rng (i + 1) = rng i ++ [(i : Int)] := by unfold rng; rw [List.range_succ, List.map_append]; rfl
   rw [e]
   exact (pm.cons _).trans (List.perm_append_singleton _ _).symm
 ·rintro σ H1 ⟨us, v, rfl, n1, pm⟩
  exact ⟨_, rfl, q r us H1 n1 pm⟩
end
abbrev a6D : Stmt := top 40
theorem sc__law_ties : FnScope ["_law_script", "_law_n", "_law_ties_here", "_law_a", "_law_b"] ["_law_script", "_law_n"] (a0D a6D) := ⟨rfl, rfl, rfl, by decide +kernel, rfl, by decide +kernel, by decide +kernel⟩
abbrev lexT (s t : Int × Int) : Prop := s.1 < t.1 \/ (s.1 = t.1 /\ s.2 < t.2)
structure Web (n : Int) (ts : List ζζ) : Prop where
 ok : ∀ t ∈ ts, 0 <= t.1 /\ t.1 < t.2 /\ t.2 < n
 up : ts.Pairwise lexT
def c0W (K : Φρ) : Sp := fun vs H Q _ => ∃ (a : Addr) (ns : List Int) (n : Nat), vs = [.ref a, .int n] /\ Scr K H a ns /\ ns.length <= 63 /\ n <= 10 /\
 ∀ r xs ts H', Same H H' -> H r = none -> H' r = some (.lst xs) -> Paired (TieL H') xs ts -> Web n ts -> ts.length <= 100 -> Q (.ref r) H'
section
variable {P : Program} {w : World} {K : Φρ} {mg : Str -> Option Value} {base : Heap}
abbrev DZ6 (K : PySem.W.Frag) (mg : Str -> Option Value) := Dn K mg "_law_ties" a6D ["_law_script", "_law_n"]
set_option maxHeartbeats 8000000 in
theorem a9I (B : Bl mg) (dZ1 : DZ1 K mg) (dZ6 : DZ6 K mg) : FnOk P w K mg base CX0 2 dZ6.f dZ6.fd ["_law_script", "_law_n"] (c0W K) := by
 have gZ1 : FnOk P w K mg base CX0 1 _ _ _ _ := a2Z B dZ1
 refine dZ6.F.ok sc__law_ties (fun vs H Q E h => ?_) (fun cdv A outer s H vs Q E hr h => ?_)
 ·obtain ⟨a, ns, n, rfl, _⟩ := h
  rfl
 obtain ⟨a, ns, n, rfl, hS, h63, hn, q⟩ := h
 refine ⟨_, (a0C (a0O (i := 2) sc__law_ties.nd rfl (Or.inl rfl) (a0S a0B))
   (a0C (a2S PassesOwn.never rfl (a1Y rfl B.range (a0A (pv 1) a0B)) (a0N (i := 3) sc__law_ties.nd rfl (Or.inl rfl))
   (a0E (a2S PassesOwn.never rfl (a7X rfl B.range (a0A (a0H a1Z (pv 3) a0F) (a0A (pv 1) a0B))) (a0N (i := 4) sc__law_ties.nd rfl (Or.inl rfl))
   (a0E (a1N (a0L a2U (a0H a1M (a0H b8S (a0G gZ1 hr rfl dZ1.m dZ1.F.kp dZ1.b .nil a0T (a0A (pv 0) (a0A (a0H a1Z (a0H a1Z a0F (a0H a3M a0F (pv 3))) (pv 4)) a0B))) (a0H a1Z (pv 3) (a0H a3M a0F (pv 4)))) a0F) a0F (a0Q _))
   (a0E (a2H (a4M (K := K) rfl PySem.F.plainAttrs_list PySem.F.slot_list_append PySem.F.type_list_append a3D (pv 2) (a0A (a2A (a0A (pv 3) (a0A (pv 4) a0B))) a0B))))
   a0M)))))
   (a0E (a0J (pv 2))))), ?_⟩
 refine ⟨(by show 0 <= 1000; decide), fun r H0 nw => ?_⟩
 refine ⟨_, rfl, _, rfl, by omega, by omega, ?_⟩
 have en : ((n : Nat) : Int).toNat = n := by omega
 rw [en]
 refine a2J (n := n) (fun i σ H2 => ∃ (aa bb : Option V) (xs : List V) (ts : List ζζ), σ = [some (.ref a), some (.int n), some (.ref r), aa, bb] /\ Same H H2 /\ H2 r = some (.lst xs) /\ Paired (TieL H2) xs ts /\ ts.length <= 10 * i /\ Web n ts /\ ∀ t ∈ ts, t.1 < (i : Int))
  ⟨none, none, [], [], rfl, nw.same, nw.here, .nil, Nat.zero_le _, ⟨fun t h => absurd h List.not_mem_nil, .nil⟩, fun t h => absurd h List.not_mem_nil⟩ ?_ ?_
 ·rintro i σ H2 hi ⟨aa, bb, xs, ts, rfl, sm, hr2, hp, hz, hw, hlt⟩
  refine ⟨_, rfl, _, _, rfl, rfl, _, rfl, _, _, rfl, ⟨by omega, by omega, by omega, by omega⟩, ?_⟩
  refine a2J (n := _) (fun j σ H3 => ∃ (bb : Option V) (xs : List V) (ts : List ζζ), σ = [some (.ref a), some (.int n), some (.ref r), some (.int (0 + (i : Int))), bb] /\ Same H H3 /\ H3 r = some (.lst xs) /\ Paired (TieL H3) xs ts /\ ts.length <= 10 * i + j /\ Web n ts /\ ∀ t ∈ ts, t.1 < (i : Int) \/ (t.1 = (i : Int) /\ t.2 < (i : Int) + 1 + j))
   ⟨bb, xs, ts, rfl, sm, hr2, hp, by omega, hw, fun t h => .inl (hlt t h)⟩ ?_ ?_
  ·rintro j σ H3 hj ⟨bb, xs, ts, rfl, sm, hr3, hp, hz, hw, hlt⟩
   have jn : (j : Int) + (0 + (i : Int) + 1) < n := by omega
   refine ⟨_, rfl, _, rfl, _, _, rfl, rfl, .inl ⟨by decide, by decide⟩, _, _, rfl, rfl, _, rfl, _, _, rfl, rfl, a, ns, _, rfl, hS.same sm, h63, (by omega), (by omega), fun z1 => ⟨_, rfl, _, rfl, _, _, rfl, rfl, .inl ⟨by decide, by decide⟩, _, _, rfl, rfl, _, _, rfl, rfl, ⟨by omega, by omega⟩, _, _, rfl, rfl, (show (0 : Int) < _ by decide), rfl, _, rfl, ?_⟩⟩
   refine ite2 (fun c => ?_) (fun c => ?_)
   ·refine ⟨_, rfl, .inl ⟨rfl, _, SqL.of hr3⟩, _, rfl, _, rfl, (by show 2 <= 1000; decide), fun p5 H5 n5 => ?_⟩
    have hl : xs.length = ts.length := Paired.length hp
    refine ⟨r, _, _, rfl, rfl, n5.same _ _ hr3, (by omega), fun H6 c6 => ?_⟩
    refine ⟨_, xs ++ [.ref p5], ts ++ [(0 + (i : Int), 0 + (i : Int) + 1 + (j : Int))], rfl, (sm.trans n5.same).chg nw.fresh c6, c6.here, ?_, ?_, ⟨fun t ht => ?_, ?_⟩, fun t ht => ?_⟩
    ·refine a2P (Paired.mapP hp fun v t q => (TieL.same n5.same q).chg (n5.same _ _ hr3) c6) ?_
     exact TieL.chg (n5.same _ _ hr3) c6 ⟨p5, rfl, n5.here⟩
    ·rw [List.length_append]; show ts.length + 1 <= _; omega
    ·rcases List.mem_append.mp ht with ht | ht
     ·exact hw.ok t ht
     ·rw [List.mem_singleton.mp ht]
      exact ⟨by show 0 <= 0 + (i : Int); omega, by show 0 + (i : Int) < 0 + (i : Int) + 1 + (j : Int); omega, by show 0 + (i : Int) + 1 + (j : Int) < n; omega⟩
    ·refine List.pairwise_append.mpr ⟨hw.up, List.pairwise_singleton _ _, fun t ht u hu => ?_⟩
     rw [List.mem_singleton.mp hu]
     show t.1 < 0 + (i : Int) \/ (t.1 = 0 + (i : Int) /\ t.2 < 0 + (i : Int) + 1 + (j : Int))
     have := hlt t ht
     omega
    ·rcases List.mem_append.mp ht with ht | ht
     ·have := hlt t ht
      omega
     ·rw [List.mem_singleton.mp ht]
      show 0 + (i : Int) < (i : Int) \/ (0 + (i : Int) = (i : Int) /\ 0 + (i : Int) + 1 + (j : Int) < (i : Int) + 1 + (j + 1 : Nat))
      omega
   ·exact ⟨_, xs, ts, rfl, sm, hr3, hp, by omega, hw, fun t ht => by have := hlt t ht; omega⟩
  ·rintro σ H3 ⟨bb, xs, ts, rfl, sm, hr3, hp, hz, hw, hlt⟩
   exact ⟨_, bb, xs, ts, rfl, sm, hr3, hp, by omega, hw, fun t ht => by have := hlt t ht; omega⟩
 ·rintro σ H2 ⟨aa, bb, xs, ts, rfl, sm, hr2, hp, hz, hw, hlt⟩
  exact ⟨_, rfl, q r xs ts H2 sm nw.fresh hr2 hp hw (by omega)⟩
end
theorem b7V {us : List Int} {n : Nat} (h : us.Perm (rng n)) : ∃ os : List Nat, us.map V.int = natV os /\ os.Perm (List.range n) /\ us = os.map fun (x : Nat) => (x : Int) := by
 have e : us = (us.map Int.toNat).map fun (x : Nat) => (x : Int) := by
  rw [List.map_map]
  conv => lhs; rw [<- List.map_id us]
  refine List.map_congr_left fun x hx => ?_
  have := mem_rng.mp (h.mem_iff.mp hx)
  show x = ((x.toNat : Nat) : Int)
  omega
 refine ⟨us.map Int.toNat, by rw [a0W, <- e], ?_, e⟩
 have := h.map Int.toNat
 rw [List.map_map] at this
 have e2 : (List.range n).map (Int.toNat ∘ fun i => ((i : Nat) : Int)) = List.range n := by
  conv => rhs; rw [<- List.map_id (List.range n)]
  exact List.map_congr_left fun x _ => by simp
 rw [e2] at this
 exact this
theorem b6A {zs : List Int} {l : List Nat} (h : zs.Perm (l.map fun (x : Nat) => (x : Int))) : ∃ S : List Nat, zs.map V.int = natV S /\ S.Perm l := by
 have e : zs = (zs.map Int.toNat).map fun (x : Nat) => (x : Int) := by
  rw [List.map_map]
  conv => lhs; rw [<- List.map_id zs]
  refine List.map_congr_left fun x hx => ?_
  obtain ⟨y, _, rfl⟩ := List.mem_map.mp (h.mem_iff.mp hx)
  show (y : Int) = (((y : Int).toNat : Nat) : Int)
  omega
 refine ⟨zs.map Int.toNat, by rw [a0W, <- e], ?_⟩
 have := h.map Int.toNat
 rw [List.map_map] at this
 have e2 : l.map (Int.toNat ∘ fun (x : Nat) => (x : Int)) = l := by
  conv => rhs; rw [<- List.map_id l]
  exact List.map_congr_left fun x _ => by simp
 rw [e2] at this
 exact this
end K
namespace K
open PySem L2 Lw Bg
theorem a3K (ls : List Nat) (k : Nat) (h : k <= ls.length) : cutV (natV ls) none (some (k : Int)) = natV (ls.take k) := by
 unfold cutV natV
 have e1 : HT.sIx (ls.map fun (x : Nat) => V.int (x : Int)).length (ls.map fun (x : Nat) => V.int (x : Int)).length (some (k : Int)) = k := by
  rw [List.length_map]
  show min _ _ = k
  simp
  omega
 have e2 : HT.sIx (ls.map fun (x : Nat) => V.int (x : Int)).length 0 none = 0 := rfl
 rw [e1, e2, List.drop_zero, Nat.sub_zero, List.map_take]
theorem a4H (ls : List Nat) (k : Nat) (h : k <= ls.length) : cutV (natV ls) (some (k : Int)) none = natV (ls.drop k) := by
 unfold cutV natV
 have e1 : HT.sIx (ls.map fun (x : Nat) => V.int (x : Int)).length 0 (some (k : Int)) = k := by
  rw [List.length_map]
  show min _ _ = k
  simp
  omega
 have e2 : HT.sIx (ls.map fun (x : Nat) => V.int (x : Int)).length (ls.map fun (x : Nat) => V.int (x : Int)).length none = ls.length := by
  show (ls.map fun (x : Nat) => V.int (x : Int)).length = _
  rw [List.length_map]
 rw [e1, e2, List.map_drop]
 refine List.take_of_length_le ?_
 rw [List.length_drop, List.length_map]
 exact Nat.le_refl _
abbrev a3G : Stmt := top 41
theorem sc__law_spoiled : FnScope ["_law_order", "_law_kind", "_law_at", "_law_far", "_law_n"] ["_law_order", "_law_kind", "_law_at", "_law_far"] (a0D a3G) := ⟨rfl, rfl, rfl, by decide +kernel, rfl, by decide +kernel, by decide +kernel⟩
abbrev a7S (l : List Nat) : List Int := l.map fun (x : Nat) => (x : Int)
def BadO (n : Nat) (us : List Int) : Prop := us.length ≠ n \/ (∃ v ∈ us, v < 0) \/ ¬ us.Nodup
def c0X (K : Φρ) : Sp := fun vs H Q _ => ∃ (o : Addr) (kd at_ far : Int) (os : List Nat) (n : Nat), vs = [.ref o, .int kd, .int at_, .int far] /\ SqL K H o (natV os) /\ os.length = n /\ n <= 10 /\ 0 <= far /\
 ∀ r us H', Same H H' -> H r = none -> H' r = some (.lst (us.map V.int)) -> us.length <= 11 -> BadO n us -> Q (.ref r) H'
theorem andQ {a b : TT} {σ : St} {H : Hp} {Q : Bool -> Hp -> Prop} {c1 c2 : Bool} (h1 : ∀ Q : Bool -> Hp -> Prop, Q c1 H -> a σ H Q) (h2 : ∀ Q : Bool -> Hp -> Prop, Q c2 H -> b σ H Q) (h : Q (c1 && c2) H) : tAnd a b σ H Q := by
 refine h1 _ ?_
 cases c1 with
 | false => exact iteF h
 | true => exact iteT (h2 _ h)
theorem a3Y (a b : List Nat) (z : Int) : natV a ++ [V.int z] ++ natV b = (a7S a ++ [z] ++ a7S b).map V.int := by
 simp [natV, a7S]
 try rfl
theorem b6B (a b : List Nat) : natV a ++ natV b = (a7S a ++ a7S b).map V.int := by
 simp [natV, a7S]
 try rfl
section
variable {P : Program} {w : World} {K : Φρ} {mg : Str -> Option Value} {base : Heap}
abbrev DZ5 (K : PySem.W.Frag) (mg : Str -> Option Value) := Dn K mg "_law_spoiled" a3G ["_law_order", "_law_kind", "_law_at", "_law_far"]
set_option maxHeartbeats 8000000 in
theorem a6E (B : Bl mg) (dZ5 : DZ5 K mg) : FnOk P w K mg base CX0 1 dZ5.f dZ5.fd ["_law_order", "_law_kind", "_law_at", "_law_far"] (c0X K) := by
 refine dZ5.F.ok sc__law_spoiled (fun vs H Q E h => ?_) (fun cdv A outer s H vs Q E hr h => ?_)
 ·obtain ⟨o, kd, at_, far, os, n, rfl, _⟩ := h
  rfl
 obtain ⟨o, kd, at_, far, os, n, rfl, hO, ln, n10, f0, q⟩ := h
 refine ⟨_, (a0C (a0O (i := 4) sc__law_spoiled.nd rfl (Or.inl rfl) (a0I (a1L (K := K) rfl) rfl B.len (by decide +kernel) (a0A (pv 0) a0B)))
   (a0C (a0O (i := 2) sc__law_spoiled.nd rfl (Or.inl rfl) (a0H a1M (pv 2) (a0H a1Z (pv 4) a0F)))
   (a0C (a1N (PW.pt (a7W (a0L a2U (pv 1) a0F (a0Q _)) (a5I (a0L b6F (pv 4) a0F (a0Q _)))))
   (a0E (a0J (a0H a1T (a1D (a1E (K := K) rfl) (pv 0) a1O (a1P (a0H a1M (pv 2) (pv 4)))) (a1D (a1E (K := K) rfl) (pv 0) (a1P (a0H a1Z (a0H a1M (pv 2) (pv 4)) a0F)) a1O))))
   a0M)
   (a0C (a1N (PW.pt (a7W (a0L a2U (pv 1) a0F (a0Q _)) (a5I (a0L b6F (pv 4) a0F (a0Q _)))))
   (a0E (a0J (a0H a1T (a0H a1T (a1D (a1E (K := K) rfl) (pv 0) a1O (a1P (pv 2))) (a0S (a0A (a1K (a1B (K := K) rfl) (pv 0) (a0H a1M (pv 3) (pv 4)) (fun _ _ => rfl)) a0B))) (a1D (a1E (K := K) rfl) (pv 0) (a1P (pv 2)) a1O))))
   a0M)
   (a0C (a1N (a0L a2U (pv 1) a0F (a0Q _))
   (a0E (a0J (a0H a1T (a0H a1T (a1D (a1E (K := K) rfl) (pv 0) a1O (a1P (pv 2))) (a0S (a0A (a0H a1Z (pv 4) (pv 3)) a0B))) (a1D (a1E (K := K) rfl) (pv 0) (a1P (pv 2)) a1O))))
   a0M)
   (a0C (a1N (PW.pt (a7W (a0L a2U (pv 1) a0F (a0Q _)) (a5I (a0L b6F (pv 4) a0F (a0Q _)))))
   (a0E (a0J (a0H a1T (a0H a1T (a1D (a1E (K := K) rfl) (pv 0) a1O (a1P (a0H a1M (pv 2) (pv 4)))) (a0S (a0A (a0H a2T (b2C a6N a0F) (pv 3)) a0B))) (a1D (a1E (K := K) rfl) (pv 0) (a1P (a0H a1Z (a0H a1M (pv 2) (pv 4)) a0F)) a1O))))
   a0M)
   (a0C (a1N (PW.pt (a7W (a0L a2U (pv 1) a0F (a0Q _)) (a5I (a0L b6F (pv 4) a0F (a0Q _)))))
   (a0E (a0J (a0H a1T (a0H a1T (a1D (a1E (K := K) rfl) (pv 0) a1O (a1P (a0H a1M (pv 2) (pv 4)))) (a0S (a0A (a1K (a1B (K := K) rfl) (pv 0) (a0H a2T (a0H a1M (pv 2) (pv 4)) a0F) (fun _ _ => rfl)) a0B))) (a1D (a1E (K := K) rfl) (pv 0) (a1P (a0H a1Z (a0H a1M (pv 2) (pv 4)) a0F)) a1O))))
   a0M)
   (a0E (a0J (a0H a1T (a0H a1T (a1D (a1E (K := K) rfl) (pv 0) a1O (a1P (pv 2))) (a0S (a0A (a0H a2T (b2C a6N a0F) (pv 3)) a0B))) (a1D (a1E (K := K) rfl) (pv 0) (a1P (pv 2)) a1O))))))))))), ?_⟩
 have lv : (natV os).length = n := by rw [List.length_map, ln]
 refine ⟨_, rfl, o, _, rfl, .inl hO, ?_⟩
 rw [lv]
 have a0 := Int.emod_nonneg at_ (show ((n : Int) + 1) ≠ 0 by omega)
 have a1 := Int.emod_lt_of_pos at_ (show (0 : Int) < (n : Int) + 1 by omega)
 obtain ⟨t, et⟩ : ∃ t : Nat, at_ % ((n : Int) + 1) = (t : Int) := ⟨(at_ % ((n : Int) + 1)).toNat, by omega⟩
 refine ⟨_, rfl, _, rfl, _, _, rfl, rfl, _, _, rfl, rfl, (show (0 : Int) < (n : Int) + 1 by omega), ?_⟩
 dsimp only
 rw [et]
 have tn : t <= n := by omega
 have lc : ∀ (a : List Nat), (a7S a).length = a.length := fun a => List.length_map _
 refine andQ (c1 := decide (V.int kd = V.int 0)) (c2 := decide ((n : Int) > 0)) ?_ ?_ ?_
 ·exact fun Q h => ⟨_, rfl, rfl, _, rfl, h⟩
 ·exact fun Q h => ⟨_, rfl, _, _, rfl, rfl, _, rfl, h⟩
 refine ite2 (fun c => ?_) (fun _ => ?_)
 ·have n0 : 0 < n := by
   have := of_decide_eq_true (Bool.and_eq_true _ _ ▸ c).2
   omega
  obtain ⟨k, ek⟩ : ∃ k : Nat, (t : Int) % (n : Int) = (k : Int) := ⟨((t : Int) % (n : Int)).toNat, by have := Int.emod_nonneg (t : Int) (show (n : Int) ≠ 0 by omega); omega⟩
  have kn : k < n := by have := Int.emod_lt_of_pos (t : Int) (show (0 : Int) < n by omega); omega
  refine ⟨_, rfl, _, rfl, _, rfl, _, _, rfl, rfl, (show (0 : Int) < (n : Int) by omega), _, congrArg V.int ek, o, _, rfl, hO, fun p1 H1 n1 => ?_⟩
  rw [a3K os k (by omega)] at n1
  refine ⟨_, rfl, _, rfl, _, rfl, _, _, rfl, rfl, (show (0 : Int) < (n : Int) by omega), _, _, rfl, rfl, ((k + 1 : Nat) : Int), congrArg V.int (show (t : Int) % (n : Int) + 1 = _ by omega), o, _, rfl, n1.same.seq hO, fun p2 H2 n2 => ?_⟩
  rw [a4H os (k + 1) (by omega)] at n2
  refine ⟨p1, p2, _, _, rfl, rfl, n2.same _ _ n1.here, n2.here, by rw [List.length_map, List.length_map, List.length_take, List.length_drop]; omega, fun p3 H3 n3 => ?_⟩
  rw [b6B] at n3
  refine q p3 _ H3 (n1.same.trans (n2.same.trans n3.same)) ((n1.same.trans n2.same).free n3.fresh) n3.here ?_ (.inl ?_)
  all_goals
   rw [List.length_append, lc, lc, List.length_take, List.length_drop]
   omega
 try dsimp only [b6D, tSeq, tIfS]
 refine andQ (c1 := decide (V.int kd = V.int 1)) (c2 := decide ((n : Int) > 0)) ?_ ?_ ?_
 ·exact fun Q h => ⟨_, rfl, rfl, _, rfl, h⟩
 ·exact fun Q h => ⟨_, rfl, _, _, rfl, rfl, _, rfl, h⟩
 refine ite2 (fun c => ?_) (fun _ => ?_)
 ·have n0 : 0 < n := by
   have := of_decide_eq_true (Bool.and_eq_true _ _ ▸ c).2
   omega
  obtain ⟨k, ek⟩ : ∃ k : Nat, far % (n : Int) = (k : Int) := ⟨(far % (n : Int)).toNat, by have := Int.emod_nonneg far (show (n : Int) ≠ 0 by omega); omega⟩
  have kn : k < n := by have := Int.emod_lt_of_pos far (show (0 : Int) < n by omega); omega
  refine ⟨_, rfl, _, rfl, _, rfl, o, _, rfl, hO, fun p1 H1 n1 => ?_⟩
  rw [a3K os t (by omega)] at n1
  refine ⟨_, rfl, _, rfl, _, rfl, _, _, rfl, rfl, (show (0 : Int) < (n : Int) by omega), o, _, _, _, rfl, rfl, n1.same.seq hO, (show atI (natV os) (far % (n : Int)) = _ by rw [ek]; exact a2Y (by omega)), (by show 1 <= 1000; decide), fun p2 H2 n2 => ?_⟩
  refine ⟨p1, p2, _, _, rfl, rfl, n2.same _ _ n1.here, n2.here, by rw [List.length_map, List.length_take]; show _ + 1 <= _; omega, fun p3 H3 n3 => ?_⟩
  have s3 := n1.same.trans (n2.same.trans n3.same)
  refine ⟨_, rfl, _, rfl, _, rfl, o, _, rfl, s3.seq hO, fun p4 H4 n4 => ?_⟩
  rw [a4H os t (by omega)] at n4
  refine ⟨p3, p4, _, _, rfl, rfl, n4.same _ _ n3.here, n4.here, by rw [List.length_append, List.length_map, List.length_map, List.length_take, List.length_drop]; show _ + 1 + _ <= _; omega, fun p5 H5 n5 => ?_⟩
  rw [a3Y] at n5
  refine q p5 _ H5 (s3.trans (n4.same.trans n5.same)) ((s3.trans n4.same).free n5.fresh) n5.here ?_ (.inl ?_)
  all_goals
   rw [List.length_append, List.length_append, lc, lc, List.length_take, List.length_drop, List.length_singleton]
   omega
 refine ⟨_, rfl, rfl, _, rfl, ite2 (fun c => ?_) (fun _ => ?_)⟩
 ·refine ⟨_, rfl, _, rfl, _, rfl, o, _, rfl, hO, fun p1 H1 n1 => ?_⟩
  rw [a3K os t (by omega)] at n1
  refine ⟨_, rfl, _, rfl, _, _, rfl, rfl, (by show 1 <= 1000; decide), fun p2 H2 n2 => ?_⟩
  refine ⟨p1, p2, _, _, rfl, rfl, n2.same _ _ n1.here, n2.here, by rw [List.length_map, List.length_take]; show _ + 1 <= _; omega, fun p3 H3 n3 => ?_⟩
  have s3 := n1.same.trans (n2.same.trans n3.same)
  refine ⟨_, rfl, _, rfl, _, rfl, o, _, rfl, s3.seq hO, fun p4 H4 n4 => ?_⟩
  rw [a4H os t (by omega)] at n4
  refine ⟨p3, p4, _, _, rfl, rfl, n4.same _ _ n3.here, n4.here, by rw [List.length_append, List.length_map, List.length_map, List.length_take, List.length_drop]; show _ + 1 + _ <= _; omega, fun p5 H5 n5 => ?_⟩
  rw [a3Y] at n5
  refine q p5 _ H5 (s3.trans (n4.same.trans n5.same)) ((s3.trans n4.same).free n5.fresh) n5.here ?_ (.inl ?_)
  all_goals
   rw [List.length_append, List.length_append, lc, lc, List.length_take, List.length_drop, List.length_singleton]
   omega
 try dsimp only [b6D, tSeq, tIfS]
 refine andQ (c1 := decide (V.int kd = V.int 3)) (c2 := decide ((n : Int) > 0)) ?_ ?_ ?_
 ·exact fun Q h => ⟨_, rfl, rfl, _, rfl, h⟩
 ·exact fun Q h => ⟨_, rfl, _, _, rfl, rfl, _, rfl, h⟩
 refine ite2 (fun c => ?_) (fun _ => ?_)
 ·have n0 : 0 < n := by
   have := of_decide_eq_true (Bool.and_eq_true _ _ ▸ c).2
   omega
  obtain ⟨k, ek⟩ : ∃ k : Nat, (t : Int) % (n : Int) = (k : Int) := ⟨((t : Int) % (n : Int)).toNat, by have := Int.emod_nonneg (t : Int) (show (n : Int) ≠ 0 by omega); omega⟩
  have kn : k < n := by have := Int.emod_lt_of_pos (t : Int) (show (0 : Int) < n by omega); omega
  refine ⟨_, rfl, _, rfl, _, rfl, _, _, rfl, rfl, (show (0 : Int) < (n : Int) by omega), _, congrArg V.int ek, o, _, rfl, hO, fun p1 H1 n1 => ?_⟩
  rw [a3K os k (by omega)] at n1
  refine ⟨_, rfl, _, rfl, _, _, rfl, rfl, (by show 1 <= 1000; decide), fun p2 H2 n2 => ?_⟩
  refine ⟨p1, p2, _, _, rfl, rfl, n2.same _ _ n1.here, n2.here, by rw [List.length_map, List.length_take]; show _ + 1 <= _; omega, fun p3 H3 n3 => ?_⟩
  have s3 := n1.same.trans (n2.same.trans n3.same)
  refine ⟨_, rfl, _, rfl, _, rfl, _, _, rfl, rfl, (show (0 : Int) < (n : Int) by omega), _, _, rfl, rfl, ((k + 1 : Nat) : Int), congrArg V.int (show (t : Int) % (n : Int) + 1 = _ by omega), o, _, rfl, s3.seq hO, fun p4 H4 n4 => ?_⟩
  rw [a4H os (k + 1) (by omega)] at n4
  refine ⟨p3, p4, _, _, rfl, rfl, n4.same _ _ n3.here, n4.here, by rw [List.length_append, List.length_map, List.length_map, List.length_take, List.length_drop]; show _ + 1 + _ <= _; omega, fun p5 H5 n5 => ?_⟩
  rw [a3Y] at n5
  refine q p5 _ H5 (s3.trans (n4.same.trans n5.same)) ((s3.trans n4.same).free n5.fresh) n5.here ?_ (.inr (.inl ⟨-1 - far, ?_, by omega⟩))
  ·rw [List.length_append, List.length_append, lc, lc, List.length_take, List.length_drop, List.length_singleton]
   omega
  ·exact List.mem_append_left _ (List.mem_append_right _ (List.mem_singleton.mpr rfl))
 try dsimp only [b6D, tSeq, tIfS]
 refine andQ (c1 := decide (V.int kd = V.int 4)) (c2 := decide ((n : Int) > 1)) ?_ ?_ ?_
 ·exact fun Q h => ⟨_, rfl, rfl, _, rfl, h⟩
 ·exact fun Q h => ⟨_, rfl, _, _, rfl, rfl, _, rfl, h⟩
 refine ite2 (fun c => ?_) (fun _ => ?_)
 ·have n0 : 1 < n := by
   have := of_decide_eq_true (Bool.and_eq_true _ _ ▸ c).2
   omega
  obtain ⟨k, ek⟩ : ∃ k : Nat, (t : Int) % (n : Int) = (k : Int) := ⟨((t : Int) % (n : Int)).toNat, by have := Int.emod_nonneg (t : Int) (show (n : Int) ≠ 0 by omega); omega⟩
  have kn : k < n := by have := Int.emod_lt_of_pos (t : Int) (show (0 : Int) < n by omega); omega
  obtain ⟨j, jn, aj, jk⟩ : ∃ j : Nat, j < n /\ atI (natV os) ((t : Int) % (n : Int) - 1) = some (.int ((os.getD j 0 : Nat) : Int)) /\ ((j < k) \/ (k + 1 <= j)) := by
   rw [ek]
   cases k with
   | zero =>
    refine ⟨n - 1, by omega, ?_, .inr (by omega)⟩
    have : atI (natV os) (((0 : Nat) : Int) - 1) = (natV os)[n - 1]? := by
     have e : ixN (natV os).length (((0 : Nat) : Int) - 1) = some (n - 1) := by
      rw [lv]
      unfold ixN
      rw [if_neg (by omega), if_pos (by omega)]
      congr 1
      omega
     unfold atI
     rw [e]
     rfl
    rw [this, List.getElem?_map, getD_some (os := os) (i := n - 1) (by omega)]
    rfl
   | succ k =>
    refine ⟨k, by omega, ?_, .inl (by omega)⟩
    rw [show ((k + 1 : Nat) : Int) - 1 = ((k : Nat) : Int) by omega]
    exact a2Y (by omega)
  refine ⟨_, rfl, _, rfl, _, rfl, _, _, rfl, rfl, (show (0 : Int) < (n : Int) by omega), _, congrArg V.int ek, o, _, rfl, hO, fun p1 H1 n1 => ?_⟩
  rw [a3K os k (by omega)] at n1
  refine ⟨_, rfl, _, rfl, _, rfl, _, _, rfl, rfl, (show (0 : Int) < (n : Int) by omega), _, _, rfl, rfl, o, _, _, _, rfl, rfl, n1.same.seq hO, aj, (by show 1 <= 1000; decide), fun p2 H2 n2 => ?_⟩
  refine ⟨p1, p2, _, _, rfl, rfl, n2.same _ _ n1.here, n2.here, by rw [List.length_map, List.length_take]; show _ + 1 <= _; omega, fun p3 H3 n3 => ?_⟩
  have s3 := n1.same.trans (n2.same.trans n3.same)
  refine ⟨_, rfl, _, rfl, _, rfl, _, _, rfl, rfl, (show (0 : Int) < (n : Int) by omega), _, _, rfl, rfl, ((k + 1 : Nat) : Int), congrArg V.int (show (t : Int) % (n : Int) + 1 = _ by omega), o, _, rfl, s3.seq hO, fun p4 H4 n4 => ?_⟩
  rw [a4H os (k + 1) (by omega)] at n4
  refine ⟨p3, p4, _, _, rfl, rfl, n4.same _ _ n3.here, n4.here, by rw [List.length_append, List.length_map, List.length_map, List.length_take, List.length_drop]; show _ + 1 + _ <= _; omega, fun p5 H5 n5 => ?_⟩
  rw [a3Y] at n5
  refine q p5 _ H5 (s3.trans (n4.same.trans n5.same)) ((s3.trans n4.same).free n5.fresh) n5.here ?_ (.inr (.inr fun nd => ?_))
  ·rw [List.length_append, List.length_append, lc, lc, List.length_take, List.length_drop, List.length_singleton]
   omega
  ·have gj := getD_some (os := os) (i := j) (by omega)
   rcases jk with h | h
   ·have hm : ((os.getD j 0 : Nat) : Int) ∈ a7S (os.take k) := List.mem_map.mpr ⟨_, List.mem_of_getElem? (by rw [List.getElem?_take_of_lt h]; exact gj), rfl⟩
    have := (List.nodup_append.mp (List.nodup_append.mp nd).1).2.2 _ hm _ (List.mem_singleton.mpr rfl)
    exact this rfl
   ·have hm : ((os.getD j 0 : Nat) : Int) ∈ a7S (os.drop (k + 1)) := List.mem_map.mpr ⟨_, List.mem_of_getElem? (i := j - (k + 1)) (by rw [List.getElem?_drop, show k + 1 + (j - (k + 1)) = j by omega]; exact gj), rfl⟩
    have := (List.nodup_append.mp nd).2.2 _ (List.mem_append_right _ (List.mem_singleton.mpr rfl)) _ hm
    exact this rfl
 ·refine ⟨_, rfl, _, rfl, _, rfl, o, _, rfl, hO, fun p1 H1 n1 => ?_⟩
  rw [a3K os t (by omega)] at n1
  refine ⟨_, rfl, _, rfl, _, _, rfl, rfl, (by show 1 <= 1000; decide), fun p2 H2 n2 => ?_⟩
  refine ⟨p1, p2, _, _, rfl, rfl, n2.same _ _ n1.here, n2.here, by rw [List.length_map, List.length_take]; show _ + 1 <= _; omega, fun p3 H3 n3 => ?_⟩
  have s3 := n1.same.trans (n2.same.trans n3.same)
  refine ⟨_, rfl, _, rfl, _, rfl, o, _, rfl, s3.seq hO, fun p4 H4 n4 => ?_⟩
  rw [a4H os t (by omega)] at n4
  refine ⟨p3, p4, _, _, rfl, rfl, n4.same _ _ n3.here, n4.here, by rw [List.length_append, List.length_map, List.length_map, List.length_take, List.length_drop]; show _ + 1 + _ <= _; omega, fun p5 H5 n5 => ?_⟩
  rw [a3Y] at n5
  refine q p5 _ H5 (s3.trans (n4.same.trans n5.same)) ((s3.trans n4.same).free n5.fresh) n5.here ?_ (.inl ?_)
  all_goals
   rw [List.length_append, List.length_append, lc, lc, List.length_take, List.length_drop, List.length_singleton]
   omega
end
end K
namespace K
open PySem L2 Lw Bg
abbrev a6F : Stmt := top 42
theorem a4V : FnScope ["_law_web", "_law_order", "_law_which"] ["_law_web", "_law_order", "_law_which"] (a0D a6F) := ⟨rfl, rfl, rfl, by decide +kernel, rfl, by decide +kernel, by decide +kernel⟩
abbrev a2R : Stmt := top 43
theorem sc__law_others : FnScope ["_law_error", "_law_some"] ["_law_error"] (a0D a2R) := ⟨rfl, rfl, rfl, by decide +kernel, rfl, by decide +kernel, by decide +kernel⟩
abbrev a2I : Stmt := top 44
theorem sc__law_refused : FnScope ["_law_web", "_law_order", "_law_which", "_law_told", "_law_error", "_law_own"] ["_law_web", "_law_order", "_law_which"] (a0D a2I) := ⟨rfl, rfl, rfl, by decide +kernel, rfl, by decide +kernel, by decide +kernel⟩
abbrev a2D : Stmt := top 45
theorem sc__law_no_place : FnScope ["_law_web", "_law_gone", "_law_v", "_law_told", "_law_error", "_law_own"] ["_law_web", "_law_gone", "_law_v"] (a0D a2D) := ⟨rfl, rfl, rfl, by decide +kernel, rfl, by decide +kernel, by decide +kernel⟩
theorem BadO.not_set {n : Nat} {us zs : List Int} (h : BadO n us) (l : us.length = n) (p : zs.Perm us) : setF (n : Int) zs = false := by
 cases e : setF (n : Int) zs with
 | false => rfl
 | true =>
  obtain ⟨h1, h2⟩ := (b3W _ _).mp e
  rcases h with h | ⟨v, hv, lt⟩ | h
  ·exact absurd l h
  ·have := h1 v (p.mem_iff.mpr hv)
   omega
  ·refine absurd (p.nodup_iff.mp ?_) h
   exact h2.imp fun h => by omega
def c0Y (K : Φρ) (nb : Addr) : Sp := fun vs H Q E => ∃ (n : Nat) (a : Addr) (us : List Int), vs = [.int (n : Int), .ref a] /\ SqL K H a (us.map V.int) /\ us.length <= 20 /\ BadO n us /\ ∀ p H', Same H H' -> H' p = none -> E (.ref p) (some nb) H'
def a3Z (K : Φρ) (nb : Addr) : Sp := fun vs H Q E => ∃ (g : V) (n : Nat) (ts : List ζζ) (a : Addr) (us : List Int), vs = [g, .ref a] /\ GraphV K H g n ts /\ SqL K H a (us.map V.int) /\ us.length <= 20 /\ BadO n us /\ ∀ p H', Same H H' -> H' p = none -> E (.ref p) (some nb) H'
def b7W (K : Φρ) (nb : Addr) : Sp := fun vs H Q E => ∃ (g : V) (n : Nat) (ts : List ζζ) (a : Addr) (us : List Int) (k : Int), vs = [g, .ref a, .int k] /\ GraphV K H g n ts /\ SqL K H a (us.map V.int) /\ us.length <= 20 /\ BadO n us /\ ∀ p H', Same H H' -> H' p = none -> E (.ref p) (some nb) H'
def c3C (K : Φρ) (nb : Addr) : Sp := fun vs H Q E => ∃ (g : V) (n : Nat) (ts : List ζζ) (a : Addr) (S : List Int) (v : Int), vs = [g, .ref a, .int v] /\ GraphV K H g n ts /\ SqL K H a (S.map V.int) /\ (v < 0 \/ (n : Int) <= v \/ v ∈ S) /\ ∀ p H', Same H H' -> H' p = none -> E (.ref p) (some nb) H'
def b7X (K : Φρ) (nb nc : Addr) : Sp := fun vs H Q _ => ∃ (p : Addr), vs = [.ref p] /\ (H p = some (ExcO p nb) \/ H p = some (ExcO p nc)) /\ ∀ H', Same H H' -> Q (.bl false) H'
def c0Z (K : Φρ) : Sp := fun vs H Q _ => ∃ (g : V) (n : Nat) (ts : List ζζ) (a : Addr) (os : List Nat) (k : Int), vs = [g, .ref a, .int k] /\ GraphV K H g n ts /\ (∀ t ∈ ts, 0 <= t.1 /\ t.1 < t.2 /\ t.2 < (n : Int)) /\ H a = some (.lst (natV os)) /\ os.Perm (List.range n) /\ n <= 10 /\
 ∀ v H', Same H H' -> Q v H'
def c3D (K : Φρ) : Sp := fun vs H Q _ => ∃ (g : V) (n : Nat) (ts : List ζζ) (a : Addr) (us : List Int) (k : Int), vs = [g, .ref a, .int k] /\ GraphV K H g n ts /\ SqL K H a (us.map V.int) /\ us.length <= 20 /\ BadO n us /\ ∀ H', Same H H' -> Q (.bl true) H'
def c1A (K : Φρ) : Sp := fun vs H Q _ => ∃ (g : V) (n : Nat) (ts : List ζζ) (a : Addr) (S : List Int) (v : Int), vs = [g, .ref a, .int v] /\ GraphV K H g n ts /\ SqL K H a (S.map V.int) /\ (v < 0 \/ (n : Int) <= v \/ v ∈ S) /\ ∀ H', Same H H' -> Q (.bl true) H'
section
variable {P : Program} {w : World} {K : Φρ} {mg : Str -> Option Value} {base : Heap}
set_option maxHeartbeats 4000000 in
theorem a3L (B : Bl mg) (C : Cl K mg) (dZ13 : DZ13 K mg) (dZ10 : DZ10 K mg) (dZ12 : DZ12 K mg) (dZ21 : DZ21 K mg) : FnOk P w K mg base (CXE P w) 4 dZ21.f dZ21.fd ["n", "order"] (c0Y K C.NoOrder) := by
 have gZ12 : FnOk P w K mg base CX0 3 _ _ _ _ := a9C B dZ13 dZ10 dZ12
 refine dZ21.F.okE a2F (fun vs H Q E h => ?_) (fun cdv A outer s H vs Q E hr h => ?_)
 ·obtain ⟨n, a, us, rfl, _⟩ := h
  rfl
 obtain ⟨n, a, us, rfl, hA, l20, bad, q⟩ := h
 refine ⟨_, (a0C (a1N (PW.pt (a9L (a0L c1M (a0I (a1L (K := K) rfl) rfl B.len (by decide +kernel) (a0A (pv 1) a0B)) (pv 0) (a0Q _)) (a6M (a3E (a0Y (K := K) rfl (a0G gZ12 hr rfl dZ12.m dZ12.F.kp dZ12.b .nil a0T (a0A (pv 0) (a0A (a0I (a2X (K := K) rfl) rfl B.sorted (by decide +kernel) (a0A (pv 1) a0B)) a0B))) (fun _ => rfl))))))
   (a0E (b1J hr.hd rfl C.m_NoOrder C.k_NoOrder (a0A b7Z a0B)))
   a0M)
   a1R), ?_⟩
 refine ⟨_, rfl, a, _, rfl, .inl hA, _, rfl, rfl, _, rfl, ?_⟩
 by_cases c : us.length = n
 ·rw [show (!decide (V.int (((us.map V.int).length : Nat) : Int) = V.int (n : Int))) = false by rw [List.length_map, c]; simp]
  refine iteF ?_
  refine ⟨_, rfl, _, rfl, a, _, rfl, hA, by omega, fun p H1 zs n1 zp zl => ?_⟩
  refine ⟨(n : Int), p, zs, rfl, SqL.of n1.here, ?_, fun H2 s2 => ⟨_, rfl, ?_⟩⟩
  ·have := zp.length_eq
   omega
  rw [bad.not_set c zp]
  exact iteT ⟨Nat.le_of_lt (a0V (by decide)), fun p hp => q p H2 (n1.same.trans s2) hp⟩
 ·rw [show (!decide (V.int (((us.map V.int).length : Nat) : Int) = V.int (n : Int))) = true by
   rw [List.length_map, decide_eq_false fun z => c (by have := V.int.inj z; omega)]; rfl]
  exact iteT (iteT ⟨Nat.le_of_lt (a0V (by decide)), fun p hp => q p H (Same.refl _) hp⟩)
set_option maxHeartbeats 4000000 in
theorem a4A (B : Bl mg) (C : Cl K mg) (dZ13 : DZ13 K mg) (dZ10 : DZ10 K mg) (dZ12 : DZ12 K mg) (dZ21 : DZ21 K mg) (dZ15 : DZ15 K mg) : FnOk P w K mg base (CXE P w) 5 dZ15.f dZ15.fd ["graph", "order"] (a3Z K C.NoOrder) := by
 have GX_refuse_no_order : FnOk P w K mg base (CXE P w) 4 _ _ _ _ := a3L B C dZ13 dZ10 dZ12 dZ21
 refine dZ15.F.okE sc_later (fun vs H Q E h => ?_) (fun cdv A outer s H vs Q E hr h => ?_)
 ·obtain ⟨g, n, ts, a, us, rfl, _⟩ := h
  rfl
 obtain ⟨g, n, ts, a, us, rfl, hG, hA, l20, bad, q⟩ := h
 obtain ⟨pg, ta, rfl, hP, hT⟩ := id hG
 refine ⟨_, (a0C (a2H (a0G GX_refuse_no_order hr rfl dZ21.m dZ21.F.kp dZ21.b .nil a6I (a0A (a1K (a1H (K := K) rfl) (pv 0) a0F (fun _ _ => rfl)) (a0A (pv 1) a0B))))
   a1R), ?_⟩
 exact ⟨_, rfl, pg, _, _, _, rfl, rfl, hP, rfl, _, rfl, n, a, us, rfl, hA, l20, bad, q⟩
set_option maxHeartbeats 4000000 in
theorem a6G (B : Bl mg) (C : Cl K mg) (dZ13 : DZ13 K mg) (dZ10 : DZ10 K mg) (dZ12 : DZ12 K mg) (dZ21 : DZ21 K mg) (dZ15 : DZ15 K mg) (dZ18 : DZ18 K mg) : FnOk P w K mg base (CXE P w) 6 dZ18.f dZ18.fd ["graph", "order"] (a3Z K C.NoOrder) := by
 have GX_later : FnOk P w K mg base (CXE P w) 5 _ _ _ _ := a4A B C dZ13 dZ10 dZ12 dZ21 dZ15
 refine dZ18.F.okE a3F (fun vs H Q E h => ?_) (fun cdv A outer s H vs Q E hr h => ?_)
 ·obtain ⟨g, n, ts, a, us, rfl, _⟩ := h
  rfl
 obtain ⟨g, n, ts, a, us, rfl, hG, hA, l20, bad, q⟩ := h
 refine ⟨_, (a0C (a0J (b4I (K := K) rfl rfl B.max (a0A (a7D ["places"] [none]  (by kernel_rfl) rfl (a1G (K := K) rfl (a0G GX_later hr rfl dZ15.m dZ15.F.kp dZ15.b .nil a6I (a0A (pv 0) (a0A (pv 1) a0B)))) (fun _ _ _ _ _ => (a0N (i := 0) (show (["places"] : List Str).Nodup by decide +kernel) rfl (Or.inl rfl))) (fun _ _ _ _ _ => a2O) (fun _ _ _ _ _ => (a0I (a1L (K := K) rfl) rfl B.len (by decide +kernel) (a0A (pv 0) a0B)))) a0B) (a9N (b2C a6N a0F) b3K)))
   a1R), ?_⟩
 exact ⟨_, rfl, _, rfl, g, n, ts, a, us, rfl, hG, hA, l20, bad, q⟩
set_option maxHeartbeats 4000000 in
theorem a6Y (B : Bl mg) (Bz : mg "zip" = none) (C : Cl K mg) (dZ13 : DZ13 K mg) (dZ10 : DZ10 K mg) (dZ12 : DZ12 K mg) (dZ23 : DZ23 K mg) (dZ21 : DZ21 K mg) (dZ15 : DZ15 K mg) (dZ8 : DZ8 K mg) : FnOk P w K mg base (CXE P w) 6 dZ8.f dZ8.fd ["graph", "order"] (a3Z K C.NoOrder) := by
 have GX_later : FnOk P w K mg base (CXE P w) 5 _ _ _ _ := a4A B C dZ13 dZ10 dZ12 dZ21 dZ15
 have gZ23 : FnOk P w K mg base CX0 5 _ _ _ _ := (a9E B dZ13 dZ10 dZ23).mono (by decide)
 refine dZ8.F.okE sc_filled (fun vs H Q E h => ?_) (fun cdv A outer s H vs Q E hr h => ?_)
 ·obtain ⟨g, n, ts, a, us, rfl, _⟩ := h
  rfl
 obtain ⟨g, n, ts, a, us, rfl, hG, hA, l20, bad, q⟩ := h
 refine ⟨_, (a0C (a0O (i := 2) sc_filled.nd rfl (Or.inl rfl) (a0S a0B))
   (a0C (a2S PassesOwn.leaving rfl (b8M (K := K) rfl rfl Bz (a0A (pv 1) (a0A (a0G GX_later hr rfl dZ15.m dZ15.F.kp dZ15.b .nil a6I (a0A (pv 0) (a0A (pv 1) a0B))) a0B))) (a9W (K := K) (n := 2) rfl rfl (a3B (a0N (i := 3) sc_filled.nd rfl (Or.inr rfl)) (a3B (a0N (i := 4) sc_filled.nd rfl (Or.inl rfl)) a9M)))
   (a0E (a2H (a4M (K := K) rfl PySem.F.plainAttrs_list PySem.F.slot_list_extend PySem.F.type_list_extend a6R (pv 2) (a0A (a7D ["u", "v", "graph"] [none, some 3, some 0]  (by kernel_rfl) rfl (a1G (K := K) rfl (pv 4)) (fun _ _ _ _ _ => (a0N (i := 0) (show (["u", "v", "graph"] : List Str).Nodup by decide +kernel) rfl (Or.inl rfl))) (fun _ _ _ _ _ => a2O) (fun _ _ _ _ _ => (a0G gZ23 hr rfl dZ23.m dZ23.F.kp dZ23.b .nil a0T (a0A (a1K (a1H (K := K) rfl) (pv 2) a0F (fun _ _ => rfl)) (a0A (pv 1) (a0A (pv 0) a0B)))))) a0B)))))
   a1R)), ?_⟩
 refine ⟨(by show 0 <= 1000; decide), fun p0 H1 n1 => ?_⟩
 exact ⟨_, rfl, _, rfl, _, rfl, g, n, ts, a, us, rfl, hG.same n1.same, n1.same.seq hA, l20, bad, fun p H' s => q p H' (n1.same.trans s)⟩
set_option maxHeartbeats 4000000 in
theorem a6L (B : Bl mg) (Bz : mg "zip" = none) (C : Cl K mg) (dZ13 : DZ13 K mg) (dZ10 : DZ10 K mg) (dZ12 : DZ12 K mg) (dZ23 : DZ23 K mg) (dZ21 : DZ21 K mg) (dZ15 : DZ15 K mg) (dZ8 : DZ8 K mg) (dZ11 : DZ11 K mg) : FnOk P w K mg base (CXE P w) 7 dZ11.f dZ11.fd ["graph", "order"] (a3Z K C.NoOrder) := by
 have GX_filled : FnOk P w K mg base (CXE P w) 6 _ _ _ _ := a6Y B Bz C dZ13 dZ10 dZ12 dZ23 dZ21 dZ15 dZ8
 refine dZ11.F.okE a3U (fun vs H Q E h => ?_) (fun cdv A outer s H vs Q E hr h => ?_)
 ·obtain ⟨g, n, ts, a, us, rfl, _⟩ := h
  rfl
 obtain ⟨g, n, ts, a, us, rfl, hG, hA, l20, bad, q⟩ := h
 have hu : (A.deeper (PyProof.Rows.envOfC "is_perfect" (a0D a2G) s.heap.objs.size dZ11.f cdv)).units + 64 < cLine := hr.units
 refine ⟨_, (a0C (a0J (a4C (a7E (K := K) rfl hu) (a1K (a1H (K := K) rfl) (a0G GX_filled hr rfl dZ8.m dZ8.F.kp dZ8.b .nil a6I (a0A (pv 0) (a0A (pv 1) a0B))) a0F (fun _ _ => rfl)) (a1K (a1H (K := K) rfl) (pv 0) a0F (fun _ _ => rfl)) (a0Q _)))
   a1R), ?_⟩
 exact ⟨_, rfl, _, rfl, g, n, ts, a, us, rfl, hG, hA, l20, bad, q⟩
set_option maxHeartbeats 4000000 in
theorem b0M (B : Bl mg) (C : Cl K mg) (dZ13 : DZ13 K mg) (dZ10 : DZ10 K mg) (dZ12 : DZ12 K mg) (dZ21 : DZ21 K mg) (dZ15 : DZ15 K mg) (dZ24 : DZ24 K mg) : FnOk P w K mg base (CXE P w) 6 dZ24.f dZ24.fd ["graph", "order"] (a3Z K C.NoOrder) := by
 have GX_later : FnOk P w K mg base (CXE P w) 5 _ _ _ _ := a4A B C dZ13 dZ10 dZ12 dZ21 dZ15
 refine dZ24.F.okE sc_tree_of (fun vs H Q E h => ?_) (fun cdv A outer s H vs Q E hr h => ?_)
 ·obtain ⟨g, n, ts, a, us, rfl, _⟩ := h
  rfl
 obtain ⟨g, n, ts, a, us, rfl, hG, hA, l20, bad, q⟩ := h
 obtain ⟨pg, ta, rfl, hP, hT⟩ := id hG
 refine ⟨_, (a0C (a0O (i := 2) sc_tree_of.nd rfl (Or.inl rfl) (a1K (a1H (K := K) rfl) (pv 0) a0F (fun _ _ => rfl)))
   (a0C (a0O (i := 3) sc_tree_of.nd rfl (Or.inl rfl) (a0G GX_later hr rfl dZ15.m dZ15.F.kp dZ15.b .nil a6I (a0A (pv 0) (a0A (pv 1) a0B))))
   a1R)), ?_⟩
 exact ⟨_, rfl, pg, _, _, _, rfl, rfl, hP, rfl, _, rfl, _, rfl, .ref pg, n, ts, a, us, rfl, hG, hA, l20, bad, q⟩
set_option maxHeartbeats 4000000 in
theorem b0N (B : Bl mg) (C : Cl K mg) (dZ13 : DZ13 K mg) (dZ10 : DZ10 K mg) (dZ20 : DZ20 K mg) : FnOk P w K mg base (CXE P w) 3 dZ20.f dZ20.fd ["graph", "gone", "v"] (c3C K C.NoPlace) := by
 have gZ10 : FnOk P w K mg base CX0 2 _ _ _ _ := a2Q B dZ13 dZ10
 refine dZ20.F.okE sc_reached (fun vs H Q E h => ?_) (fun cdv A outer s H vs Q E hr h => ?_)
 ·obtain ⟨g, n, ts, a, S, v, rfl, _⟩ := h
  rfl
 obtain ⟨g, n, ts, a, S, v, rfl, hG, hA, bad, q⟩ := h
 have hv : (A.deeper (PyProof.Rows.envOfC "reached" (a0D a3W) s.heap.objs.size dZ20.f cdv)).units + 65 < cLine := by have := hr.un; omega
 obtain ⟨pg, ta, rfl, hP, hT⟩ := id hG
 refine ⟨_, (a0C (a1N (PW.pt (a9L (a3E (a0Y (K := K) rfl (a0G gZ10 hr rfl dZ10.m dZ10.F.kp dZ10.b .nil a0T (a0A (a1K (a1H (K := K) rfl) (pv 0) a0F (fun _ _ => rfl)) (a0A (pv 2) a0B))) (fun _ => rfl))) (a6M (a0L (a9V (K := K) rfl hv) (pv 2) (pv 1) (by with_unfolding_all rfl)))))
   (a0E (b1J hr.hd rfl C.m_NoPlace C.k_NoPlace (a0A b7Z a0B)))
   a0M)
   a1R), ?_⟩
 refine ⟨_, rfl, pg, _, _, _, rfl, rfl, hP, rfl, _, rfl, (n : Int), some v, rfl, _, rfl, ?_⟩
 cases hb : a2K (n : Int) (some v) with
 | false => exact iteT (iteT ⟨Nat.le_of_lt (a0V (by decide)), fun p hp => q p H (Same.refl _) hp⟩)
 | true =>
  refine iteF ?_
  refine ⟨_, rfl, _, rfl, b8I hA ⟨_, rfl, ?_⟩⟩
  have vS : v ∈ S := by
   unfold a2K at hb
   simp at hb
   rcases bad with h | h | h
   ·omega
   ·omega
   ·exact h
  rw [decide_eq_true vS]
  exact iteT ⟨Nat.le_of_lt (a0V (by decide)), fun p hp => q p H (Same.refl _) hp⟩
abbrev DZ0 (K : PySem.W.Frag) (mg : Str -> Option Value) := Dn K mg "_law_call" a6F ["_law_web", "_law_order", "_law_which"]
set_option maxHeartbeats 4000000 in
theorem a7T (B : Bl mg) (Bz : mg "zip" = none) (C : Cl K mg) (dZ13 : DZ13 K mg) (dZ10 : DZ10 K mg) (dZ12 : DZ12 K mg) (dZ23 : DZ23 K mg) (dZ21 : DZ21 K mg) (dZ15 : DZ15 K mg) (dZ18 : DZ18 K mg) (dZ8 : DZ8 K mg) (dZ11 : DZ11 K mg) (dZ24 : DZ24 K mg) (dZ0 : DZ0 K mg) : FnOk P w K mg base (CXE P w) 8 dZ0.f dZ0.fd ["_law_web", "_law_order", "_law_which"] (b7W K C.NoOrder) := by
 have GX_later : FnOk P w K mg base (CXE P w) 7 _ _ _ _ := (a4A B C dZ13 dZ10 dZ12 dZ21 dZ15).mono (by decide)
 have GX_order_width : FnOk P w K mg base (CXE P w) 7 _ _ _ _ := (a6G B C dZ13 dZ10 dZ12 dZ21 dZ15 dZ18).mono (by decide)
 have GX_filled : FnOk P w K mg base (CXE P w) 7 _ _ _ _ := (a6Y B Bz C dZ13 dZ10 dZ12 dZ23 dZ21 dZ15 dZ8).mono (by decide)
 have GX_is_perfect : FnOk P w K mg base (CXE P w) 7 _ _ _ _ := (a6L B Bz C dZ13 dZ10 dZ12 dZ23 dZ21 dZ15 dZ8 dZ11).mono (by decide)
 have GX_tree_of : FnOk P w K mg base (CXE P w) 7 _ _ _ _ := (b0M B C dZ13 dZ10 dZ12 dZ21 dZ15 dZ24).mono (by decide)
 refine dZ0.F.okE a4V (fun vs H Q E h => ?_) (fun cdv A outer s H vs Q E hr h => ?_)
 ·obtain ⟨g, n, ts, a, us, k, rfl, _⟩ := h
  rfl
 obtain ⟨g, n, ts, a, us, k, rfl, hG, hA, l20, bad, q⟩ := h
 refine ⟨_, (a0C (a1N (a0L a2U (pv 2) a0F (a0Q _))
   (a0E (a0J (a0G GX_later hr rfl dZ15.m dZ15.F.kp dZ15.b .nil a6I (a0A (pv 0) (a0A (pv 1) a0B)))))
   a0M)
   (a0C (a1N (a0L a2U (pv 2) a0F (a0Q _))
   (a0E (a0J (a0G GX_order_width hr rfl dZ18.m dZ18.F.kp dZ18.b .nil a6I (a0A (pv 0) (a0A (pv 1) a0B)))))
   a0M)
   (a0C (a1N (a0L a2U (pv 2) a0F (a0Q _))
   (a0E (a0J (a0G GX_filled hr rfl dZ8.m dZ8.F.kp dZ8.b .nil a6I (a0A (pv 0) (a0A (pv 1) a0B)))))
   a0M)
   (a0C (a1N (a0L a2U (pv 2) a0F (a0Q _))
   (a0E (a0J (a0G GX_is_perfect hr rfl dZ11.m dZ11.F.kp dZ11.b .nil a6I (a0A (pv 0) (a0A (pv 1) a0B)))))
   a0M)
   (a0C (a0J (a0G GX_tree_of hr rfl dZ24.m dZ24.F.kp dZ24.b .nil a6I (a0A (pv 0) (a0A (pv 1) a0B))))
   a1R))))), ?_⟩
 iterate 4
  refine ⟨_, rfl, rfl, _, rfl, ite2 (fun _ => ?_) (fun _ => ?_)⟩
  ·exact ⟨_, rfl, _, rfl, g, n, ts, a, us, rfl, hG, hA, l20, bad, q⟩
 exact ⟨_, rfl, _, rfl, g, n, ts, a, us, rfl, hG, hA, l20, bad, q⟩
set_option maxHeartbeats 4000000 in
theorem a9J (B : Bl mg) (Bz : mg "zip" = none) (dZ13 : DZ13 K mg) (dZ10 : DZ10 K mg) (dZ12 : DZ12 K mg) (dZ14 : DZ14 K mg) (dZ17 : DZ17 K mg) (dZ23 : DZ23 K mg) (dZ19 : DZ19 K mg) (dZ9 : DZ9 K mg) (dZ22 : DZ22 K mg) (dZ21 : DZ21 K mg) (dZ15 : DZ15 K mg) (dZ18 : DZ18 K mg) (dZ8 : DZ8 K mg) (dZ11 : DZ11 K mg) (dZ24 : DZ24 K mg) (dZ0 : DZ0 K mg) : FnOk P w K mg base CX0 8 dZ0.f dZ0.fd ["_law_web", "_law_order", "_law_which"] (c0Z K) := by
 have gZ15 : FnOk P w K mg base CX0 7 _ _ _ _ := (a5G B dZ13 dZ10 dZ12 dZ17 dZ19 dZ9 dZ22 dZ21 dZ15).mono (by decide)
 have gZ18 : FnOk P w K mg base CX0 7 _ _ _ _ := (a6J B dZ13 dZ10 dZ12 dZ17 dZ19 dZ9 dZ22 dZ21 dZ15 dZ18).mono (by decide)
 have gZ8 : FnOk P w K mg base CX0 7 _ _ _ _ := (a9F B Bz dZ13 dZ10 dZ12 dZ17 dZ23 dZ19 dZ9 dZ22 dZ21 dZ15 dZ8).mono (by decide)
 have gZ11 : FnOk P w K mg base CX0 7 _ _ _ _ := (a7R B Bz dZ13 dZ10 dZ12 dZ17 dZ23 dZ19 dZ9 dZ22 dZ21 dZ15 dZ8 dZ11).mono (by decide)
 have gZ24 : FnOk P w K mg base CX0 7 _ _ _ _ := (b2U B dZ13 dZ10 dZ12 dZ14 dZ17 dZ19 dZ9 dZ22 dZ21 dZ15 dZ24).mono (by decide)
 refine dZ0.F.ok a4V (fun vs H Q E h => ?_) (fun cdv A outer s H vs Q E hr h => ?_)
 ·obtain ⟨g, n, ts, a, os, k, rfl, _⟩ := h
  rfl
 obtain ⟨g, n, ts, a, os, k, rfl, hG, okt, hA, po, n10, q⟩ := h
 refine ⟨_, (a0C (a1N (a0L a2U (pv 2) a0F (a0Q _))
   (a0E (a0J (a0G gZ15 hr rfl dZ15.m dZ15.F.kp dZ15.b .nil a0T (a0A (pv 0) (a0A (pv 1) a0B)))))
   a0M)
   (a0C (a1N (a0L a2U (pv 2) a0F (a0Q _))
   (a0E (a0J (a0G gZ18 hr rfl dZ18.m dZ18.F.kp dZ18.b .nil a0T (a0A (pv 0) (a0A (pv 1) a0B)))))
   a0M)
   (a0C (a1N (a0L a2U (pv 2) a0F (a0Q _))
   (a0E (a0J (a0G gZ8 hr rfl dZ8.m dZ8.F.kp dZ8.b .nil a0T (a0A (pv 0) (a0A (pv 1) a0B)))))
   a0M)
   (a0C (a1N (a0L a2U (pv 2) a0F (a0Q _))
   (a0E (a0J (a0G gZ11 hr rfl dZ11.m dZ11.F.kp dZ11.b .nil a0T (a0A (pv 0) (a0A (pv 1) a0B)))))
   a0M)
   (a0E (a0J (a0G gZ24 hr rfl dZ24.m dZ24.F.kp dZ24.b .nil a0T (a0A (pv 0) (a0A (pv 1) a0B))))))))), ?_⟩
 refine ⟨_, rfl, rfl, _, rfl, ite2 (fun _ => ?_) (fun _ => ?_)⟩
 ·exact ⟨_, rfl, _, rfl, g, n, ts, a, os, rfl, hG, okt, SqL.of hA, po, n10, fun p qs H' s _ _ _ _ _ _ => q _ H' s⟩
 refine ⟨_, rfl, rfl, _, rfl, ite2 (fun _ => ?_) (fun _ => ?_)⟩
 ·exact ⟨_, rfl, _, rfl, g, n, ts, a, os, rfl, hG, okt, SqL.of hA, po, n10, fun H' s => q _ H' s⟩
 refine ⟨_, rfl, rfl, _, rfl, ite2 (fun _ => ?_) (fun _ => ?_)⟩
 ·exact ⟨_, rfl, _, rfl, g, n, ts, a, os, rfl, hG, okt, SqL.of hA, po, n10, fun p r xs H' s _ _ _ _ _ _ _ => q _ H' s⟩
 refine ⟨_, rfl, rfl, _, rfl, ite2 (fun _ => ?_) (fun _ => ?_)⟩
 ·exact ⟨_, rfl, _, rfl, g, n, ts, a, os, rfl, hG, okt, SqL.of hA, po, n10, fun H' s => q _ H' s⟩
 exact ⟨_, rfl, _, rfl, g, n, ts, a, os, rfl, hG, okt, hA, po, n10, fun p xs H' s _ _ _ => q _ H' s⟩
abbrev DZ3 (K : PySem.W.Frag) (mg : Str -> Option Value) := Dn K mg "_law_others" a2R ["_law_error"]
set_option maxHeartbeats 4000000 in
theorem a3A (B : Bl mg) (C : Cl K mg) (dZ3 : DZ3 K mg) : FnOkH P w K mg base 1 dZ3.f dZ3.fd ["_law_error"] (b7X K C.NoOrder C.NoPlace) := by
 refine dZ3.F.okH sc__law_others (fun vs H Q E h => ?_) (fun cdv A outer s H vs Q E hr h => ?_)
 ·obtain ⟨p, rfl, _⟩ := h
  rfl
 obtain ⟨p, rfl, hp, q⟩ := h
 have hv : (A.deeper (PyProof.Rows.envOfC "_law_others" (a0D a2R) s.heap.objs.size dZ3.f cdv)).units + 65 < cLine := by have := hr.un; omega
 refine ⟨_, (a0C (a0O (i := 1) sc__law_others.nd rfl (Or.inl rfl) (a0S (a0A (a0I (a5V (K := K) rfl) rfl B.isinstance (by decide +kernel) (a0A (pv 0) (a0A (a2A (a0A (a1C (v := .ref C.NoBag) (u := .ref C.NoBag) rfl C.m_NoBag rfl) (a0A (a1C (v := .ref C.NoColours) (u := .ref C.NoColours) rfl C.m_NoColours rfl) (a0A (a1C (v := .ref C.NoGraph) (u := .ref C.NoGraph) rfl C.m_NoGraph rfl) (a0A (a1C (v := .ref C.NoName) (u := .ref C.NoName) rfl C.m_NoName rfl) (a0A (a1C (v := .ref C.NoNumber) (u := .ref C.NoNumber) rfl C.m_NoNumber rfl) (a0A (a1C (v := .ref C.NoPart) (u := .ref C.NoPart) rfl C.m_NoPart rfl) (a0A (a1C (v := .ref C.NoRow) (u := .ref C.NoRow) rfl C.m_NoRow rfl) a0B)))))))) a0B))) a0B)))
   (a0C (a2H (a4M (K := K) rfl PySem.F.plainAttrs_list PySem.F.slot_list_append PySem.F.type_list_append a3D (pv 1) (a0A (a0I (a5V (K := K) rfl) rfl B.isinstance (by decide +kernel) (a0A (pv 0) (a0A (a2A (a0A (a1C (v := .ref C.NoSteps) (u := .ref C.NoSteps) rfl C.m_NoSteps rfl) (a0A (a1C (v := .ref C.NoText) (u := .ref C.NoText) rfl C.m_NoText rfl) (a0A (a1C (v := .ref C.NoTie) (u := .ref C.NoTie) rfl C.m_NoTie rfl) (a0A (a1C (v := .ref C.NoTree) (u := .ref C.NoTree) rfl C.m_NoTree rfl) (a0A (a1C (v := .ref C.NoWeights) (u := .ref C.NoWeights) rfl C.m_NoWeights rfl) (a0A (a1C (v := .ref C.TooWide) (u := .ref C.TooWide) rfl C.m_TooWide rfl) a0B))))))) a0B))) a0B)))
   (a0E (a0J (a4C (a9V (K := K) rfl hv) a4W (pv 1) (by with_unfolding_all rfl)))))), ?_⟩
 obtain ⟨cc, hp, k1, k2, k3⟩ : ∃ cc : Addr, H p = some (ExcO p cc) /\ Xk K cc /\ PySem.W.kitAny K (.ref cc) ([C.NoBag, C.NoColours, C.NoGraph, C.NoName, C.NoNumber, C.NoPart, C.NoRow].map Value.ref) = some false /\ PySem.W.kitAny K (.ref cc) ([C.NoSteps, C.NoText, C.NoTie, C.NoTree, C.NoWeights, C.TooWide].map Value.ref) = some false := by
  rcases hp with hp | hp
  ·refine ⟨C.NoOrder, hp, C.k_NoOrder, ?_, ?_⟩
   ·simp [PySem.W.kitAny, C.q_NoOrder_NoBag, C.q_NoOrder_NoColours, C.q_NoOrder_NoGraph, C.q_NoOrder_NoName, C.q_NoOrder_NoNumber, C.q_NoOrder_NoPart, C.q_NoOrder_NoRow]
   ·simp [PySem.W.kitAny, C.q_NoOrder_NoSteps, C.q_NoOrder_NoText, C.q_NoOrder_NoTie, C.q_NoOrder_NoTree, C.q_NoOrder_NoWeights, C.q_NoOrder_TooWide]
  ·refine ⟨C.NoPlace, hp, C.k_NoPlace, ?_, ?_⟩
   ·simp [PySem.W.kitAny, C.q_NoPlace_NoBag, C.q_NoPlace_NoColours, C.q_NoPlace_NoGraph, C.q_NoPlace_NoName, C.q_NoPlace_NoNumber, C.q_NoPlace_NoPart, C.q_NoPlace_NoRow]
   ·simp [PySem.W.kitAny, C.q_NoPlace_NoSteps, C.q_NoPlace_NoText, C.q_NoPlace_NoTie, C.q_NoPlace_NoTree, C.q_NoPlace_NoWeights, C.q_NoPlace_TooWide]
 refine ⟨_, rfl, (by show 7 <= 1000; decide), fun t1 H1 n1 => ?_⟩
 refine ⟨p, cc, t1, _, [C.NoBag, C.NoColours, C.NoGraph, C.NoName, C.NoNumber, C.NoPart, C.NoRow], false, rfl, n1.same _ _ hp, k1, n1.here, rfl, k2, ?_⟩
 refine ⟨(by show 1 <= 1000; decide), fun r2 H2 n2 => ?_⟩
 refine ⟨_, rfl, .inl ⟨rfl, _, SqL.of n2.here⟩, _, rfl, (by show 6 <= 1000; decide), fun t3 H3 n3 => ?_⟩
 refine ⟨p, cc, t3, _, [C.NoSteps, C.NoText, C.NoTie, C.NoTree, C.NoWeights, C.TooWide], false, rfl, n3.same _ _ (n2.same _ _ (n1.same _ _ hp)), k1, n3.here, rfl, k3, ?_⟩
 refine ⟨r2, _, _, rfl, rfl, n3.same _ _ n2.here, (by show 1 < 1000; decide), fun H4 c4 => ?_⟩
 have s4 : Same H H4 := (n1.same.trans (n2.same.trans n3.same)).chg (n1.same.free n2.fresh) c4
 refine ⟨_, rfl, .bool true, [.bool false, .bool false], .bl true, .lst (SqL.of c4.here) (.cons (.bl false) (.cons (.bl false) .nil)), rfl, rfl, ?_⟩
 exact q H4 s4
abbrev DZ4 (K : PySem.W.Frag) (mg : Str -> Option Value) := Dn K mg "_law_refused" a2I ["_law_web", "_law_order", "_law_which"]
set_option maxHeartbeats 4000000 in
theorem a6H (B : Bl mg) (Bz : mg "zip" = none) (C : Cl K mg) (dZ13 : DZ13 K mg) (dZ10 : DZ10 K mg) (dZ12 : DZ12 K mg) (dZ23 : DZ23 K mg) (dZ21 : DZ21 K mg) (dZ15 : DZ15 K mg) (dZ18 : DZ18 K mg) (dZ8 : DZ8 K mg) (dZ11 : DZ11 K mg) (dZ24 : DZ24 K mg) (dZ0 : DZ0 K mg) (dZ3 : DZ3 K mg) (dZ4 : DZ4 K mg) : FnOk P w K mg base CX0 9 dZ4.f dZ4.fd ["_law_web", "_law_order", "_law_which"] (c3D K) := by
 have GX__law_call : FnOk P w K mg base (CXE P w) 8 _ _ _ _ := a7T B Bz C dZ13 dZ10 dZ12 dZ23 dZ21 dZ15 dZ18 dZ8 dZ11 dZ24 dZ0
 have GH__law_others : FnOkH P w K mg base 8 _ _ _ _ := (a3A B C dZ3).mono (by decide)
 refine dZ4.F.ok sc__law_refused (fun vs H Q E h => ?_) (fun cdv A outer s H vs Q E hr h => ?_)
 ·obtain ⟨g, n, ts, a, us, k, rfl, _⟩ := h
  rfl
 obtain ⟨g, n, ts, a, us, k, rfl, hG, hA, l20, bad, q⟩ := h
 have hu : (A.deeper (PyProof.Rows.envOfC "_law_refused" (a0D a2I) s.heap.objs.size dZ4.f cdv)).units + 64 < cLine := by have := hr.un; omega
 refine ⟨_, (a0C (a0O (i := 3) sc__law_refused.nd rfl (Or.inl rfl) b0O)
   (a0C (b8N ⟨rfl, rfl, rfl⟩ (b1L (b1M (b1N (fun _ _ z => z) GX__law_call hr rfl dZ0.m dZ0.F.kp dZ0.b .nil (a0A (pv 0) (a0A (pv 1) (a0A (pv 2) a0B)))))) (fun p cc (hc : PySem.W.exmOne K (.ref cc) (.ref C.BagError) = some true) => (c2W (i := 4) rfl C.m_BagError hc sc__law_refused.nd rfl rfl (a0C (a0O (i := 5) sc__law_refused.nd rfl (Or.inl rfl) (b0Q (a0I (a1X (K := K) rfl) rfl B.isinstance (by decide +kernel) (a0A (pv 4) (a0A (a1C (v := .ref C.NoOrder) (u := .ref C.NoOrder) rfl C.m_NoOrder rfl) a0B))) (b0P (b2Y (a0I (a1X (K := K) rfl) rfl B.isinstance (by decide +kernel) (a0A (pv 4) (a0A (a1C (v := .ref C.NoPlace) (u := .ref C.NoPlace) rfl C.m_NoPlace rfl) a0B)))))))
   (a0E (a0O (i := 3) sc__law_refused.nd rfl (Or.inl rfl) (a0S (a0A (pv 5) (a0A (a0I (a1X (K := K) rfl) rfl B.isinstance (by decide +kernel) (a0A (pv 4) (a0A (a5H (v := .ty "ValueError") (u := .type "ValueError") rfl B.ValueError (by decide +kernel) rfl) a0B))) (a0A (b1O GH__law_others (hr.h.mark _) rfl dZ3.m dZ3.F.kp dZ3.b .nil (a0A (pv 4) a0B)) a0B))))))))))
   (a0E (a0J (a4C (a7E (K := K) rfl hu) (pv 3) (a0S (a0A a4W (a0A a4W (a0A a4W a0B)))) (a0Q _)))))), ?_⟩
 refine ⟨_, rfl, _, rfl, _, rfl, g, n, ts, a, us, k, rfl, hG, hA, l20, bad, fun p H1 s1 hp p' cc e1 e2 => ?_⟩
 cases e1
 cases e2
 refine ⟨C.x_NoOrder_BagError, ?_⟩
 have he : upd H1 p (ExcO p C.NoOrder) p = some (ExcO p C.NoOrder) := a1V
 have hs : Same H1 (upd H1 p (ExcO p C.NoOrder)) := b0Y hp _
 generalize upd H1 p (ExcO p C.NoOrder) = G1 at he hs ⊢
 refine ⟨_, rfl, p, _, _, _, _, rfl, he, C.k_NoOrder, rfl, C.q_NoOrder_NoOrder, _, rfl, iteT ?_⟩
 refine ⟨_, rfl, p, _, _, _, _, rfl, he, C.k_NoOrder, rfl, C.q_NoOrder_NoPlace, _, rfl, ?_⟩
 refine ⟨_, rfl, _, rfl, p, _, _, _, _, rfl, he, C.k_NoOrder, rfl, C.v_NoOrder, _, rfl, p, rfl, .inl he, fun H2 s2 => ?_⟩
 refine ⟨(by show 3 <= 1000; decide), fun r3 H3 n3 => ?_⟩
 have s3 : Same G1 H3 := s2.trans n3.same
 refine ⟨_, rfl, (by show 3 <= 1000; decide), fun r4 H4 n4 => ?_⟩
 refine ⟨.list [.bool true, .bool true, .bool false], .list [.bool true, .bool true, .bool false], .lst (SqL.of (n4.same _ _ n3.here)) (.cons (.bl true) (.cons (.bl true) (.cons (.bl false) .nil))), .lst (SqL.of n4.here) (.cons (.bl true) (.cons (.bl true) (.cons (.bl false) .nil))), rfl, rfl, ?_⟩
 rw [if_neg Bool.false_ne_true, a5D rfl]
 exact q H4 (s1.trans (hs.trans (s3.trans n4.same)))
abbrev DZ2 (K : PySem.W.Frag) (mg : Str -> Option Value) := Dn K mg "_law_no_place" a2D ["_law_web", "_law_gone", "_law_v"]
set_option maxHeartbeats 4000000 in
theorem a4Y (B : Bl mg) (C : Cl K mg) (dZ13 : DZ13 K mg) (dZ10 : DZ10 K mg) (dZ20 : DZ20 K mg) (dZ3 : DZ3 K mg) (dZ2 : DZ2 K mg) : FnOk P w K mg base CX0 9 dZ2.f dZ2.fd ["_law_web", "_law_gone", "_law_v"] (c1A K) := by
 have GX_reached : FnOk P w K mg base (CXE P w) 8 _ _ _ _ := (b0N B C dZ13 dZ10 dZ20).mono (by decide)
 have GH__law_others : FnOkH P w K mg base 8 _ _ _ _ := (a3A B C dZ3).mono (by decide)
 refine dZ2.F.ok sc__law_no_place (fun vs H Q E h => ?_) (fun cdv A outer s H vs Q E hr h => ?_)
 ·obtain ⟨g, n, ts, a, S, v, rfl, _⟩ := h
  rfl
 obtain ⟨g, n, ts, a, S, v, rfl, hG, hA, bad, q⟩ := h
 have hu : (A.deeper (PyProof.Rows.envOfC "_law_no_place" (a0D a2D) s.heap.objs.size dZ2.f cdv)).units + 64 < cLine := by have := hr.un; omega
 refine ⟨_, (a0C (a0O (i := 3) sc__law_no_place.nd rfl (Or.inl rfl) b0O)
   (a0C (b8N ⟨rfl, rfl, rfl⟩ (b1L (b1M (b1N (fun _ _ z => z) GX_reached hr rfl dZ20.m dZ20.F.kp dZ20.b .nil (a0A (pv 0) (a0A (pv 1) (a0A (pv 2) a0B)))))) (fun p cc (hc : PySem.W.exmOne K (.ref cc) (.ref C.BagError) = some true) => (c2W (i := 4) rfl C.m_BagError hc sc__law_no_place.nd rfl rfl (a0C (a0O (i := 5) sc__law_no_place.nd rfl (Or.inl rfl) (b0Q (a0I (a1X (K := K) rfl) rfl B.isinstance (by decide +kernel) (a0A (pv 4) (a0A (a1C (v := .ref C.NoPlace) (u := .ref C.NoPlace) rfl C.m_NoPlace rfl) a0B))) (b0P (b2Y (a0I (a1X (K := K) rfl) rfl B.isinstance (by decide +kernel) (a0A (pv 4) (a0A (a1C (v := .ref C.NoOrder) (u := .ref C.NoOrder) rfl C.m_NoOrder rfl) a0B)))))))
   (a0E (a0O (i := 3) sc__law_no_place.nd rfl (Or.inl rfl) (a0S (a0A (pv 5) (a0A (a0I (a1X (K := K) rfl) rfl B.isinstance (by decide +kernel) (a0A (pv 4) (a0A (a5H (v := .ty "ValueError") (u := .type "ValueError") rfl B.ValueError (by decide +kernel) rfl) a0B))) (a0A (b1O GH__law_others (hr.h.mark _) rfl dZ3.m dZ3.F.kp dZ3.b .nil (a0A (pv 4) a0B)) a0B))))))))))
   (a0E (a0J (a4C (a7E (K := K) rfl hu) (pv 3) (a0S (a0A a4W (a0A a4W (a0A a4W a0B)))) (a0Q _)))))), ?_⟩
 refine ⟨_, rfl, _, rfl, _, rfl, g, n, ts, a, S, v, rfl, hG, hA, bad, fun p H1 s1 hp p' cc e1 e2 => ?_⟩
 cases e1
 cases e2
 refine ⟨C.x_NoPlace_BagError, ?_⟩
 have he : upd H1 p (ExcO p C.NoPlace) p = some (ExcO p C.NoPlace) := a1V
 have hs : Same H1 (upd H1 p (ExcO p C.NoPlace)) := b0Y hp _
 generalize upd H1 p (ExcO p C.NoPlace) = G1 at he hs ⊢
 refine ⟨_, rfl, p, _, _, _, _, rfl, he, C.k_NoPlace, rfl, C.q_NoPlace_NoPlace, _, rfl, iteT ?_⟩
 refine ⟨_, rfl, p, _, _, _, _, rfl, he, C.k_NoPlace, rfl, C.q_NoPlace_NoOrder, _, rfl, ?_⟩
 refine ⟨_, rfl, _, rfl, p, _, _, _, _, rfl, he, C.k_NoPlace, rfl, C.v_NoPlace, _, rfl, p, rfl, .inr he, fun H2 s2 => ?_⟩
 refine ⟨(by show 3 <= 1000; decide), fun r3 H3 n3 => ?_⟩
 have s3 : Same G1 H3 := s2.trans n3.same
 refine ⟨_, rfl, (by show 3 <= 1000; decide), fun r4 H4 n4 => ?_⟩
 refine ⟨.list [.bool true, .bool true, .bool false], .list [.bool true, .bool true, .bool false], .lst (SqL.of (n4.same _ _ n3.here)) (.cons (.bl true) (.cons (.bl true) (.cons (.bl false) .nil))), .lst (SqL.of n4.here) (.cons (.bl true) (.cons (.bl true) (.cons (.bl false) .nil))), rfl, rfl, ?_⟩
 rw [if_neg Bool.false_ne_true, a5D rfl]
 exact q H4 (s1.trans (hs.trans (s3.trans n4.same)))
end
end K
namespace K
open PySem L2 Lw Bg
theorem c1B {p : List Nat} {x : Nat} : ((x : Int) ∈ p.map fun (y : Nat) => (y : Int)) ↔ x ∈ p := by
 rw [List.mem_map]
 constructor
 ·rintro ⟨y, hy, e⟩
  have : y = x := by omega
  rw [<- this]; exact hy
 ·exact fun h => ⟨x, h, rfl⟩
theorem b2W {K : Φρ} {H : Hp} {b : Addr} {l : List Nat} {x : Nat} {Q : VK} (hS : SqL K H b (natV l)) (q : Q (.bl (!decide (x ∈ l))) H) : rInD K true (.int (x : Int)) (.ref b) H Q := by
 rw [a0W] at hS
 refine a8P hS ?_
 rw [show decide ((x : Int) ∈ l.map fun (x : Nat) => (x : Int)) = decide (x ∈ l) from decide_eq_decide.mpr c1B]
 exact q
abbrev b7Y : Stmt := top 46
theorem sc_law : FnScope ["_law_script", "_law_n", "_law_ties_here", "_law_order", "_law_far", "_law_bad", "_law_which", "_law_web", "_law_handed", "_law_gone", "_law_v"] ["_law_script"] (a0D b7Y) := ⟨rfl, rfl, rfl, by decide +kernel, rfl, by decide +kernel, by decide +kernel⟩
theorem a7U {K : Φρ} : PySem.W.kitOne K (.type "list") (.type "list") = some true := by rfl
section
variable {P : Program} {w : World} {K : Φρ} {mg : Str -> Option Value} {base : Heap}
set_option maxHeartbeats 16000000 in
theorem c4M (B : Bl mg) (Bz : mg "zip" = none) (C : Cl K mg) (dZ13 : DZ13 K mg) (dZ10 : DZ10 K mg) (dZ12 : DZ12 K mg) (dZ14 : DZ14 K mg) (dZ17 : DZ17 K mg) (dZ23 : DZ23 K mg) (dZ19 : DZ19 K mg) (dZ9 : DZ9 K mg) (dZ22 : DZ22 K mg) (dZ15 : DZ15 K mg) (dZ21 : DZ21 K mg) (dZ18 : DZ18 K mg) (dZ20 : DZ20 K mg) (dZ8 : DZ8 K mg) (dZ11 : DZ11 K mg) (dZ24 : DZ24 K mg) (dZ1 : DZ1 K mg) (dZ7 : DZ7 K mg) (dZ6 : DZ6 K mg) (dZ5 : DZ5 K mg) (dZ0 : DZ0 K mg) (dZ3 : DZ3 K mg) (dZ4 : DZ4 K mg) (dZ2 : DZ2 K mg) (dZ16 : Dn K mg "law" b7Y ["_law_script"]) : FnOk P w K mg base CX0 10 dZ16.f dZ16.fd ["_law_script"] (spLaw K) := by
 have gZ20 : FnOk P w K mg base CX0 9 _ _ _ _ := (b2V B dZ13 dZ10 dZ17 dZ19 dZ9 dZ22 dZ20).mono (by decide)
 have gZ1 : FnOk P w K mg base CX0 9 _ _ _ _ := (a2Z B dZ1).mono (by decide)
 have gZ7 : FnOk P w K mg base CX0 9 _ _ _ _ := (a6K B dZ1 dZ7).mono (by decide)
 have gZ6 : FnOk P w K mg base CX0 9 _ _ _ _ := (a9I B dZ1 dZ6).mono (by decide)
 have gZ5 : FnOk P w K mg base CX0 9 _ _ _ _ := (a6E B dZ5).mono (by decide)
 have gZ0 : FnOk P w K mg base CX0 9 _ _ _ _ := (a9J B Bz dZ13 dZ10 dZ12 dZ14 dZ17 dZ23 dZ19 dZ9 dZ22 dZ21 dZ15 dZ18 dZ8 dZ11 dZ24 dZ0).mono (by decide)
 have gZ4 : FnOk P w K mg base CX0 9 _ _ _ _ := a6H B Bz C dZ13 dZ10 dZ12 dZ23 dZ21 dZ15 dZ18 dZ8 dZ11 dZ24 dZ0 dZ3 dZ4
 have gZ2 : FnOk P w K mg base CX0 9 _ _ _ _ := a4Y B C dZ13 dZ10 dZ20 dZ3 dZ2
 refine dZ16.F.ok sc_law (fun vs H Q E h => ?_) (fun cdv A outer s H vs Q E hr h => ?_)
 ·obtain ⟨a, ns, rfl, _⟩ := h
  rfl
 obtain ⟨a, ns, rfl, hS, h63, q⟩ := h
 have hu : (A.deeper (PyProof.Rows.envOfC "law" (a0D b7Y) s.heap.objs.size dZ16.f cdv)).units + 64 < cLine := hr.units
 have hv : (A.deeper (PyProof.Rows.envOfC "law" (a0D b7Y) s.heap.objs.size dZ16.f cdv)).units + 65 < cLine := by have := hr.un; omega
 refine ⟨_, (a0C (a0O (i := 1) sc_law.nd rfl (Or.inl rfl) (a0H a1M (a0G gZ1 hr rfl dZ1.m dZ1.F.kp dZ1.b .nil a0T (a0A (pv 0) (a0A a0F a0B))) a0F))
   (a0C (a0O (i := 2) sc_law.nd rfl (Or.inl rfl) (a0G gZ6 hr rfl dZ6.m dZ6.F.kp dZ6.b .nil a0T (a0A (pv 0) (a0A (pv 1) a0B))))
   (a0C (a0O (i := 3) sc_law.nd rfl (Or.inl rfl) (a0G gZ7 hr rfl dZ7.m dZ7.F.kp dZ7.b .nil a0T (a0A (pv 0) (a0A (pv 1) a0B))))
   (a0C (a0O (i := 4) sc_law.nd rfl (Or.inl rfl) (a0H a3M (a0H a1M (a0G gZ1 hr rfl dZ1.m dZ1.F.kp dZ1.b .nil a0T (a0A (pv 0) (a0A a0F a0B))) a0F) (a0H a1M (a0G gZ1 hr rfl dZ1.m dZ1.F.kp dZ1.b .nil a0T (a0A (pv 0) (a0A a0F a0B))) a0F)))
   (a0C (a0O (i := 5) sc_law.nd rfl (Or.inl rfl) (a0G gZ5 hr rfl dZ5.m dZ5.F.kp dZ5.b .nil a0T (a0A (pv 3) (a0A (a0H a1M (a0G gZ1 hr rfl dZ1.m dZ1.F.kp dZ1.b .nil a0T (a0A (pv 0) (a0A a0F a0B))) a0F) (a0A (a0G gZ1 hr rfl dZ1.m dZ1.F.kp dZ1.b .nil a0T (a0A (pv 0) (a0A a0F a0B))) (a0A (pv 4) a0B))))))
   (a0C (a2S PassesOwn.never rfl (a1Y rfl B.range (a0A a0F a0B)) (a0N (i := 6) sc_law.nd rfl (Or.inl rfl))
   (a0C (a0O (i := 7) sc_law.nd rfl (Or.inl rfl) (a2A (a0A (pv 1) (a0A (a1J (a1Q (K := K) rfl) rfl B.list (by decide +kernel) (a0A (pv 2) a0B)) a0B))))
   (a0C (a0O (i := 8) sc_law.nd rfl (Or.inl rfl) (a1J (a1Q (K := K) rfl) rfl B.list (by decide +kernel) (a0A (pv 5) a0B)))
   (a0C (a1N (PW.pt (a9L (a3E (a0Y (K := K) rfl (a0G gZ4 hr rfl dZ4.m dZ4.F.kp dZ4.b .nil a0T (a0A (pv 7) (a0A (pv 8) (a0A (pv 6) a0B)))) (fun _ => rfl))) (a9L (a0L (b3T (K := K) rfl hu) (pv 8) (pv 5) (a0Q _)) (a6M (a0L (b3T (K := K) rfl hu) (pv 7) (a2A (a0A (pv 1) (a0A (pv 2) a0B))) (a0Q _))))))
   (a0E (a0J a4W))
   a0M)
   (a0E (a2H (a0G gZ0 hr rfl dZ0.m dZ0.F.kp dZ0.b .nil a0T (a0A (pv 7) (a0A (a1J (a1Q (K := K) rfl) rfl B.list (by decide +kernel) (a0A (pv 3) a0B)) (a0A (pv 6) a0B))))))))))
   (a0C (a0O (i := 9) sc_law.nd rfl (Or.inl rfl) (a0I (a2X (K := K) rfl) rfl B.sorted (by decide +kernel) (a0A (a1D (a1E (K := K) rfl) (pv 3) a1O (a1P (a0H a1M (a0G gZ1 hr rfl dZ1.m dZ1.F.kp dZ1.b .nil a0T (a0A (pv 0) (a0A a0F a0B))) (a0H a1Z (pv 1) a0F)))) a0B)))
   (a0C (a2S PassesOwn.never rfl (a1G (K := K) rfl (a0H a1T (pv 9) (a0S (a0A (a0H a1Z (pv 1) (pv 4)) (a0A (a0H a2T (b2C a6N a0F) (pv 4)) (a0A (pv 1) (a0A (a0H a2T (b2C a6N (pv 1)) a0F) a0B))))))) (a0N (i := 10) sc_law.nd rfl (Or.inl rfl))
   (a0E (a1N (a3E (a0Y (K := K) rfl (a0G gZ2 hr rfl dZ2.m dZ2.F.kp dZ2.b .nil a0T (a0A (a2A (a0A (pv 1) (a0A (a1J (a1Q (K := K) rfl) rfl B.list (by decide +kernel) (a0A (pv 2) a0B)) a0B))) (a0A (a1J (a1Q (K := K) rfl) rfl B.list (by decide +kernel) (a0A (pv 9) a0B)) (a0A (pv 10) a0B)))) (fun _ => rfl)))
   (a0E (a0J a4W))
   a0M)))
   (a0C (a2S PassesOwn.never rfl (a1Y rfl B.range (a0A (pv 1) a0B)) (a0N (i := 10) sc_law.nd rfl (Or.inl rfl))
   (a0E (a1N (PW.pt (a7W (a0L (a6Q (K := K) rfl hv) (pv 10) (pv 9) (by with_unfolding_all rfl)) (a5I (a3E (a0Y (K := K) rfl (a0I (a2W (K := K) rfl) rfl B.isinstance (by decide +kernel) (a0A (a0G gZ20 hr rfl dZ20.m dZ20.F.kp dZ20.b .nil a0T (a0A (a2A (a0A (pv 1) (a0A (a1J (a1Q (K := K) rfl) rfl B.list (by decide +kernel) (a0A (pv 2) a0B)) a0B))) (a0A (a1J (a1Q (K := K) rfl) rfl B.list (by decide +kernel) (a0A (pv 9) a0B)) (a0A (pv 10) a0B)))) (a0A (a5H (v := .ty "list") (u := .type "list") rfl B.list (by decide +kernel) rfl) a0B))) (fun _ => rfl))))))
   (a0E (a0J a4W))
   a0M)))
   (a0E (a0J a4W))))))))))), ?_⟩
 refine ⟨_, rfl, a, ns, 0, rfl, hS, h63, by decide, by decide, fun z0 => ⟨_, _, rfl, rfl, (show (0 : Int) < _ by decide), ?_⟩⟩
 dsimp only
 have m0 := Int.emod_nonneg z0 (show (11 : Int) ≠ 0 by decide)
 have m1 := Int.emod_lt_of_pos z0 (show (0 : Int) < 11 by decide)
 obtain ⟨n, en⟩ : ∃ n : Nat, z0 % 11 = (n : Int) := ⟨(z0 % 11).toNat, by omega⟩
 rw [en]
 have hn : n <= 10 := by omega
 refine ⟨_, rfl, _, rfl, a, ns, n, rfl, hS, h63, hn, fun rt xs ts H1 s1 f1 h1 p1 w1 z1 => ?_⟩
 have lx := Paired.length p1
 refine ⟨_, rfl, _, rfl, a, ns, n, rfl, hS.same s1, h63, hn, fun ro us H2 n2 pm => ?_⟩
 obtain ⟨os, eo, po, eu⟩ := b7V pm
 rw [eo] at n2
 have ln : os.length = n := by have := po.length_eq; simpa using this
 have ndo : os.Nodup := po.nodup_iff.mpr List.nodup_range
 have oslt : ∀ x ∈ os, x < n := fun x hx => List.mem_range.mp (po.mem_iff.mp hx)
 have s2 : Same H H2 := s1.trans n2.same
 refine ⟨_, rfl, a, ns, 1, rfl, hS.same s2, h63, by decide, by decide, fun z2 => ⟨_, _, rfl, rfl, (show (0 : Int) < _ by decide), _, rfl, a, ns, 11, rfl, hS.same s2, h63, by decide, by decide, fun z3 => ⟨_, _, rfl, rfl, (show (0 : Int) < _ by decide), ?_⟩⟩⟩
 have b0 := Int.emod_nonneg z2 (show (1000003 : Int) ≠ 0 by decide)
 have b1 := Int.emod_lt_of_pos z2 (show (0 : Int) < 1000003 by decide)
 have c0 := Int.emod_nonneg z3 (show (3 : Int) ≠ 0 by decide)
 have c1 := Int.emod_lt_of_pos z3 (show (0 : Int) < 3 by decide)
 refine ⟨_, _, rfl, rfl, .inr ⟨by omega, by omega⟩, ?_⟩
 have f0 : 0 <= z2 % 1000003 * (z3 % 3) := Int.mul_nonneg b0 c0
 dsimp only
 generalize z2 % 1000003 * (z3 % 3) = far at f0
 refine ⟨_, rfl, _, rfl, a, ns, 60, rfl, hS.same s2, h63, by decide, by decide, fun z4 => ⟨_, _, rfl, rfl, (show (0 : Int) < _ by decide), ?_⟩⟩
 refine ⟨_, rfl, a, ns, 61, rfl, hS.same s2, h63, by decide, by decide, fun z5 => ?_⟩
 refine ⟨_, rfl, ro, _, z5, far, os, n, rfl, SqL.of n2.here, ln, hn, f0, fun rb us2 H3 s3 f3 h3 l11 bad => ?_⟩
 have s13 : Same H1 H3 := n2.same.trans s3
 have hrt3 : H3 rt = some (.lst xs) := s13 _ _ h1
 have hro3 : H3 ro = some (.lst (natV os)) := s3 _ _ n2.here
 have p3 : Paired (TieL H3) xs ts := Paired.mapP p1 fun _ _ q => TieL.same s13 q
 have g3 : ∀ {H' : Hp}, Same H3 H' -> Paired (TieL H') xs ts := fun {H'} s => Paired.mapP p3 fun _ _ q => TieL.same s q
 refine ⟨5, rfl, by decide, by decide, ?_⟩
 refine a2J (n := 5) (fun i σ H' => (∃ wh we ha : Option V, σ = [some (.ref a), some (.int n), some (.ref rt), some (.ref ro), some (.int far), some (.ref rb), wh, we, ha, none, none]) /\ Same H3 H') ⟨⟨_, _, _, rfl⟩, Same.refl _⟩ ?_ ?_
 ·rintro i σ H4 hi ⟨⟨wh, we, ha, rfl⟩, s4⟩
  refine ⟨_, rfl, _, rfl, rt, _, rfl, .inl (SqL.of (s4 _ _ hrt3)), fun rc H5 n5 => ?_⟩
  refine ⟨(by show 2 <= 1000; decide), fun pg H6 n6 => ?_⟩
  have s6 : Same H3 H6 := s4.trans (n5.same.trans n6.same)
  refine ⟨_, rfl, rb, _, rfl, .inl (SqL.of (s6 _ _ h3)), fun rh H7 n7 => ?_⟩
  have s7 : Same H3 H7 := s6.trans n7.same
  have hg : GraphV K H7 (.ref pg) n ts := ⟨pg, rc, rfl, SqT.of (n7.same _ _ n6.here), xs, SqL.of (n7.same _ _ (n6.same _ _ n5.here)), Paired.mapP (g3 s7) fun _ _ q => q.v, by omega⟩
  refine ⟨_, rfl, _, rfl, _, rfl, .ref pg, n, ts, rh, us2, _, rfl, hg, SqL.of n7.here, by omega, bad, fun H8 s8 => ⟨_, rfl, iteF ?_⟩⟩
  have s78 : Same H3 H8 := s7.trans s8
  refine ⟨_, rfl, _, rfl, _, _, .lst (SqL.of (s8 _ _ n7.here)) (IsDs.ints _), .lst (SqL.of (s78 _ _ h3)) (IsDs.ints _), a2B _, a2B _, _, rfl, ?_⟩
  rw [if_pos rfl, a5D (a2B _)]
  refine iteF ?_
  refine ⟨_, rfl, _, rfl, _, rfl, (by show 2 <= 1000; decide), fun p12 H12 n12 => ?_⟩
  have s12 : Same H3 H12 := s78.trans n12.same
  have g2 : GraphV K H12 (.ref p12) n ts := ⟨p12, rt, rfl, SqT.of n12.here, xs, SqL.of (s12 _ _ hrt3), Paired.mapP (g3 s12) fun _ _ q => q.v, by omega⟩
  refine ⟨_, _, ((hg.same s8).same n12.same).isD, g2.isD, a4E _ _, a4E _ _, _, rfl, ?_⟩
  rw [if_pos rfl, a5D (a4E _ _)]
  refine iteF ?_
  refine ⟨_, rfl, _, rfl, ro, _, rfl, .inl (SqL.of (s12 _ _ hro3)), fun rk H13 n13 => ?_⟩
  refine ⟨_, rfl, .ref pg, n, ts, rk, os, _, rfl, ((hg.same s8).same n12.same).same n13.same, w1.ok, n13.here, po, hn, fun v H14 s14 => ?_⟩
  exact ⟨⟨_, _, _, rfl⟩, s12.trans (n13.same.trans s14)⟩
 rintro σ H4 ⟨⟨wh, we, ha, rfl⟩, s4⟩
 have hro4 := s4 _ _ hro3
 refine ⟨_, rfl, _, rfl, a, ns, 62, rfl, hS.same (s2.trans (s3.trans s4)), h63, by decide, by decide, fun z6 => ?_⟩
 have d0 := Int.emod_nonneg z6 (show ((n : Int) + 1) ≠ 0 by omega)
 have d1 := Int.emod_lt_of_pos z6 (show (0 : Int) < (n : Int) + 1 by omega)
 obtain ⟨m, em⟩ : ∃ m : Nat, z6 % ((n : Int) + 1) = (m : Int) := ⟨(z6 % ((n : Int) + 1)).toNat, by omega⟩
 refine ⟨_, rfl, _, _, rfl, rfl, _, _, rfl, rfl, (show (0 : Int) < (n : Int) + 1 by omega), _, congrArg V.int em, ro, _, rfl, SqL.of hro4, fun p5 H5 n5 => ?_⟩
 rw [a3K os m (by omega), a0W] at n5
 have lt : (os.take m).length = m := by rw [List.length_take]; omega
 refine ⟨p5, _, rfl, SqL.of n5.here, by rw [List.length_map]; omega, fun rg H6 zs n6 pz _ => ?_⟩
 have s6 : Same H3 H6 := s4.trans (n5.same.trans n6.same)
 have lz : zs.length = m := by rw [pz.length_eq, List.length_map, lt]
 obtain ⟨S, eS, pS⟩ := b6A pz
 have zS : zs = S.map fun (x : Nat) => (x : Int) := by
  rw [a0W] at eS
  have inj : ∀ a b : List Int, a.map V.int = b.map V.int -> a = b := fun a => by
   induction a with
   | nil => intro b e; cases b with
    | nil => rfl
    | cons y r => cases e
   | cons x r ih => intro b e; cases b with
    | nil => cases e
    | cons y t =>
     rw [List.map_cons, List.map_cons] at e
     injection e with e1 e2
     rw [V.int.inj e1, ih t e2]
  exact inj _ _ eS
 have Slt : ∀ x ∈ S, x < n := fun x hx => oslt x (List.mem_of_mem_take (pS.mem_iff.mp hx))
 have lS : S.length = m := by rw [pS.length_eq, lt]
 refine ⟨_, rfl, _, rfl, _, rfl, _, _, rfl, rfl, ?_⟩
 refine ⟨_, rfl, _, rfl, _, _, rfl, rfl, _, rfl, _, rfl, _, rfl, _, _, rfl, rfl, (by show 4 <= 1000; decide), fun p7 H7 n7 => ?_⟩
 refine ⟨rg, p7, _, _, rfl, rfl, n7.same _ _ n6.here, n7.here, by rw [List.length_map]; show _ + 4 <= _; omega, fun p8 H8 n8 => ?_⟩
 have s68 : Same H6 H8 := n7.same.trans n8.same
 have s8 : Same H3 H8 := s6.trans s68
 have n8' : H8 p8 = some (.lst ((zs ++ [(n : Int) + far, -1 - far, (n : Int), -(n : Int) - 1]).map V.int)) := by rw [n8.here, List.map_append]; rfl
 refine ⟨p8, rfl, ⟨_, SqL.of n8'⟩, ?_⟩
 refine a5A (xs := (zs ++ [(n : Int) + far, -1 - far, (n : Int), -(n : Int) - 1]).map V.int) (fun i σ H' => (∃ wh we ha vv : Option V, σ = [some (.ref a), some (.int n), some (.ref rt), some (.ref ro), some (.int far), some (.ref rb), wh, we, ha, some (.ref rg), vv]) /\ Same H8 H') ⟨⟨_, _, _, _, rfl⟩, Same.refl _⟩ (fun i σ H' _ ⟨_, s⟩ => SqL.of (s _ _ n8')) ?_ ?_
 ·rintro i x σ H9 hx ⟨⟨wh, we, ha, vv, rfl⟩, s9⟩
  rw [List.getElem?_map] at hx
  obtain ⟨v, hv, rfl⟩ := Option.map_eq_some_iff.mp hx
  have vm := List.mem_of_getElem? hv
  have sh : Same H3 H9 := s8.trans s9
  refine ⟨_, rfl, _, rfl, rt, _, rfl, .inl (SqL.of (sh _ _ hrt3)), fun rc H10 n10 => ?_⟩
  refine ⟨(by show 2 <= 1000; decide), fun pg H11 n11 => ?_⟩
  have s11 : Same H9 H11 := n10.same.trans n11.same
  refine ⟨_, rfl, rg, _, rfl, .inl (SqL.of (s11 _ _ (s9 _ _ (s68 _ _ n6.here)))), fun rh H12 n12 => ?_⟩
  have s12 : Same H3 H12 := sh.trans (s11.trans n12.same)
  have hg : GraphV K H12 (.ref pg) n ts := ⟨pg, rc, rfl, SqT.of (n12.same _ _ n11.here), xs, SqL.of (n12.same _ _ (n11.same _ _ n10.here)), Paired.mapP (g3 s12) fun _ _ q => q.v, by omega⟩
  refine ⟨_, rfl, .ref pg, n, ts, rh, zs, v, rfl, hg, SqL.of n12.here, ?_, fun H13 s13 => ⟨_, rfl, iteF ?_⟩⟩
  ·rcases List.mem_append.mp vm with h | h
   ·exact .inr (.inr h)
   ·simp at h
    omega
  ·exact ⟨⟨_, _, _, _, rfl⟩, s9.trans (s11.trans (n12.same.trans s13))⟩
 rintro σ H9 ⟨⟨wh, we, ha, vv, rfl⟩, s9⟩
 have h9g : H9 rg = some (.lst (natV S)) := by rw [<- eS]; exact s9 _ _ (s68 _ _ n6.here)
 refine ⟨_, rfl, _, rfl, by omega, by omega, ?_⟩
 rw [Int.toNat_natCast]
 refine a2J (n := n) (fun i σ H' => (∃ wh we ha vv : Option V, σ = [some (.ref a), some (.int n), some (.ref rt), some (.ref ro), some (.int far), some (.ref rb), wh, we, ha, some (.ref rg), vv]) /\ Same H9 H') ⟨⟨_, _, _, _, rfl⟩, Same.refl _⟩ ?_ ?_
 ·rintro i σ H10 hi ⟨⟨wh, we, ha, vv, rfl⟩, s10⟩
  have ei : (0 + (i : Int)) = ((i : Nat) : Int) := by omega
  rw [ei]
  have sh : Same H3 H10 := s8.trans (s9.trans s10)
  refine ⟨_, rfl, _, rfl, b2W (SqL.of (s10 _ _ h9g)) ⟨_, rfl, ?_⟩⟩
  by_cases c : i ∈ S
  ·rw [decide_eq_true c]
   exact iteF (iteF ⟨⟨_, _, _, _, rfl⟩, s10⟩)
  ·rw [decide_eq_false c]
   refine iteT ?_
   refine ⟨_, rfl, _, rfl, rt, _, rfl, .inl (SqL.of (sh _ _ hrt3)), fun rc H11 n11 => ?_⟩
   refine ⟨(by show 2 <= 1000; decide), fun pg H12 n12 => ?_⟩
   have s12 : Same H10 H12 := n11.same.trans n12.same
   refine ⟨_, rfl, rg, _, rfl, .inl (SqL.of (s12 _ _ (s10 _ _ h9g))), fun rh H13 n13 => ?_⟩
   have s13 : Same H3 H13 := sh.trans (s12.trans n13.same)
   have hg : GraphV K H13 (.ref pg) n ts := ⟨pg, rc, rfl, SqT.of (n13.same _ _ n12.here), xs, SqL.of (n13.same _ _ (n12.same _ _ n11.here)), Paired.mapP (g3 s13) fun _ _ q => q.v, by omega⟩
   refine ⟨_, rfl, .ref pg, n, ts, rh, S, i, rfl, hg, w1.ok, SqL.of n13.here, Slt, by omega, hi, c, hn, fun pf H14 s14 f14 h14 => ?_⟩
   refine ⟨_, _, _, _, _, rfl, rfl, TyOf.lst h14, a7U, _, rfl, iteF ?_⟩
   exact ⟨⟨_, _, _, _, rfl⟩, s10.trans (s12.trans (n13.same.trans s14))⟩
 rintro σ H10 ⟨⟨wh, we, ha, vv, rfl⟩, s10⟩
 exact q _
end
end K
open PySem PySem.W PyProof.Rows
def PySem.W.Fast.tw554820491559657063 : Unit := ()
def PySem.W.Fast.tw5812480600039384457 : Unit := ()
def PySem.W.Fast.tw11988062275282373785 : Unit := ()
def PySem.W.Fast.tw6008691662080975782 : Unit := ()
def PySem.W.Fast.tw12630658664706146802 : Unit := ()
def PySem.W.Fast.tw6179502418462199293 : Unit := ()
def PySem.W.Fast.tw15699574005290045392 : Unit := ()
def PySem.W.Fast.tw8792653215969172413 : Unit := ()
def PySem.W.Fast.tw12284213595504539705 : Unit := ()
def PySem.W.Fast.tw10573669842378528805 : Unit := ()
def PySem.W.Fast.tw17783203589955602108 : Unit := ()
def PySem.W.Fast.tw7648103825947987825 : Unit := ()
def PySem.W.Fast.tw17215802950733801707 : Unit := ()
def PySem.W.Fast.tw4293917443130580737 : Unit := ()
def PySem.W.Fast.tw7566941444890369108 : Unit := ()
def PySem.W.Fast.tw12888163374466915976 : Unit := ()
def PySem.W.Fast.tw9984562088474531355 : Unit := ()
def PySem.W.Fast.tw1685223984462010931 : Unit := ()
def PySem.W.Fast.tw17695701082294893746 : Unit := ()
def PySem.W.Fast.tw16878227974708901424 : Unit := ()
def PySem.W.Fast.tw6025265078785485495 : Unit := ()
def PySem.W.Fast.tw7017769731113937595 : Unit := ()
def PySem.W.Fast.tw8799762656232231443 : Unit := ()
def PySem.W.Fast.tw11921048427804547468 : Unit := ()
def PySem.W.Fast.tw4334949786178374024 : Unit := ()
def PySem.W.Fast.tw11943782929279695082 : Unit := ()
def PySem.W.Fast.tw2144304832771708581 : Unit := ()
set_option maxRecDepth 100000 in
set_option maxHeartbeats 0 in
theorem PySem.Challenge.cw_bagwood_k22_no_order_no_place_holds : PySem.Challenge.rw_bagwood_k22_no_order_no_place.Holds := by
 w_on; o_law; k_head; (case hw => w_witness2)
 k_fill
 refine L2.walk_ofK (l := PySem.Challenge.rw_bagwood_k22_no_order_no_place) (n := 63) (k := 10) (x := "_law_script") (CX := L2.CX0) (sp := Lw.spLaw) rfl (by decide) rfl ⟨rfl, by decide, by decide⟩ (fun w h Y => PySem.W.kIn_of Y) ?F ?S ?C
 case F =>
  intro w mg fa h KX G hmg
  have B : L2.Bl mg := by
   refine' L2.bl_mk KX G ?z1 ?z2 ?z3 ?z4 ?z5 ?z6 ?z7 ?z8 ?z9 ?z10 ?z11 ?z12 ?z13 ?z14 ?z15 ?z16 ?z17
   all_goals k_is
  have Bz : mg "zip" = none := by
   refine' PySem.W.mg_none_of KX G ?z
   k_is
  have dZ13 : Nonempty (L2.Dn (L2.KOf KX) mg "is_whole" K.a6V ["thing"]) := by
   dsimp only [L2.KOf]
   refine' L2.dn_mk1 KX G ?a ?l ?c ?k rfl (fun _ _ _ _ _ _ _ => rfl)
   (case a => k_is); (case l => k_is); (case c => k_is); (case k => k_is)
  obtain ⟨dZ13⟩ := dZ13
  have dZ10 : Nonempty (L2.Dn (L2.KOf KX) mg "is_below" K.a6W ["n", "thing"]) := by
   dsimp only [L2.KOf]
   refine' L2.dn_mk2 KX G ?a ?l ?c ?k rfl (fun _ _ _ _ _ _ _ _ => rfl)
   (case a => k_is); (case l => k_is); (case c => k_is); (case k => k_is)
  obtain ⟨dZ10⟩ := dZ10
  have dZ12 : Nonempty (L2.Dn (L2.KOf KX) mg "is_set" K.b1P ["n", "places"]) := by
   dsimp only [L2.KOf]
   refine' L2.dn_mk2 KX G ?a ?l ?c ?k rfl (fun _ _ _ _ _ _ _ _ => rfl)
   (case a => k_is); (case l => k_is); (case c => k_is); (case k => k_is)
  obtain ⟨dZ12⟩ := dZ12
  have dZ14 : Nonempty (L2.Dn (L2.KOf KX) mg "joint" K.b5N ["one", "other"]) := by
   dsimp only [L2.KOf]
   refine' L2.dn_mk2 KX G ?a ?l ?c ?k rfl (fun _ _ _ _ _ _ _ _ => rfl)
   (case a => k_is); (case l => k_is); (case c => k_is); (case k => k_is)
  obtain ⟨dZ14⟩ := dZ14
  have dZ17 : Nonempty (L2.Dn (L2.KOf KX) mg "less" K.b5L ["one", "other"]) := by
   dsimp only [L2.KOf]
   refine' L2.dn_mk2 KX G ?a ?l ?c ?k rfl (fun _ _ _ _ _ _ _ _ => rfl)
   (case a => k_is); (case l => k_is); (case c => k_is); (case k => k_is)
  obtain ⟨dZ17⟩ := dZ17
  have dZ23 : Nonempty (L2.Dn (L2.KOf KX) mg "tie_of" K.b1W ["n", "a", "b"]) := by
   dsimp only [L2.KOf]
   refine' L2.dn_mk3 KX G ?a ?l ?c ?k rfl (fun _ _ _ _ _ _ _ _ _ => rfl)
   (case a => k_is); (case l => k_is); (case c => k_is); (case k => k_is)
  obtain ⟨dZ23⟩ := dZ23
  have dZ19 : Nonempty (L2.Dn (L2.KOf KX) mg "places_of" K.a5W ["mask"]) := by
   dsimp only [L2.KOf]
   refine' L2.dn_mk1 KX G ?a ?l ?c ?k rfl (fun _ _ _ _ _ _ _ => rfl)
   (case a => k_is); (case l => k_is); (case c => k_is); (case k => k_is)
  obtain ⟨dZ19⟩ := dZ19
  have dZ9 : Nonempty (L2.Dn (L2.KOf KX) mg "first_bags" K.a4R ["graph"]) := by
   dsimp only [L2.KOf]
   refine' L2.dn_mk1 KX G ?a ?l ?c ?k rfl (fun _ _ _ _ _ _ _ => rfl)
   (case a => k_is); (case l => k_is); (case c => k_is); (case k => k_is)
  obtain ⟨dZ9⟩ := dZ9
  have dZ22 : Nonempty (L2.Dn (L2.KOf KX) mg "taken_out" K.a5X ["bags", "v"]) := by
   dsimp only [L2.KOf]
   refine' L2.dn_mk2 KX G ?a ?l ?c ?k rfl (fun _ _ _ _ _ _ _ _ => rfl)
   (case a => k_is); (case l => k_is); (case c => k_is); (case k => k_is)
  obtain ⟨dZ22⟩ := dZ22
  have dZ15 : Nonempty (L2.Dn (L2.KOf KX) mg "later" K.b5R ["graph", "order"]) := by
   dsimp only [L2.KOf]
   refine' L2.dn_mk2 KX G ?a ?l ?c ?k rfl (fun _ _ _ _ _ _ _ _ => rfl)
   (case a => k_is); (case l => k_is); (case c => k_is); (case k => k_is)
  obtain ⟨dZ15⟩ := dZ15
  have dZ21 : Nonempty (L2.Dn (L2.KOf KX) mg "refuse_no_order" K.a2N ["n", "order"]) := by
   dsimp only [L2.KOf]
   refine' L2.dn_mk2 KX G ?a ?l ?c ?k rfl (fun _ _ _ _ _ _ _ _ => rfl)
   (case a => k_is); (case l => k_is); (case c => k_is); (case k => k_is)
  obtain ⟨dZ21⟩ := dZ21
  have dZ18 : Nonempty (L2.Dn (L2.KOf KX) mg "order_width" K.a3V ["graph", "order"]) := by
   dsimp only [L2.KOf]
   refine' L2.dn_mk2 KX G ?a ?l ?c ?k rfl (fun _ _ _ _ _ _ _ _ => rfl)
   (case a => k_is); (case l => k_is); (case c => k_is); (case k => k_is)
  obtain ⟨dZ18⟩ := dZ18
  have dZ20 : Nonempty (L2.Dn (L2.KOf KX) mg "reached" K.a3W ["graph", "gone", "v"]) := by
   dsimp only [L2.KOf]
   refine' L2.dn_mk3 KX G ?a ?l ?c ?k rfl (fun _ _ _ _ _ _ _ _ _ => rfl)
   (case a => k_is); (case l => k_is); (case c => k_is); (case k => k_is)
  obtain ⟨dZ20⟩ := dZ20
  have dZ8 : Nonempty (L2.Dn (L2.KOf KX) mg "filled" K.b1X ["graph", "order"]) := by
   dsimp only [L2.KOf]
   refine' L2.dn_mk2 KX G ?a ?l ?c ?k rfl (fun _ _ _ _ _ _ _ _ => rfl)
   (case a => k_is); (case l => k_is); (case c => k_is); (case k => k_is)
  obtain ⟨dZ8⟩ := dZ8
  have dZ11 : Nonempty (L2.Dn (L2.KOf KX) mg "is_perfect" K.a2G ["graph", "order"]) := by
   dsimp only [L2.KOf]
   refine' L2.dn_mk2 KX G ?a ?l ?c ?k rfl (fun _ _ _ _ _ _ _ _ => rfl)
   (case a => k_is); (case l => k_is); (case c => k_is); (case k => k_is)
  obtain ⟨dZ11⟩ := dZ11
  have dZ24 : Nonempty (L2.Dn (L2.KOf KX) mg "tree_of" K.a9G ["graph", "order"]) := by
   dsimp only [L2.KOf]
   refine' L2.dn_mk2 KX G ?a ?l ?c ?k rfl (fun _ _ _ _ _ _ _ _ => rfl)
   (case a => k_is); (case l => k_is); (case c => k_is); (case k => k_is)
  obtain ⟨dZ24⟩ := dZ24
  have dZ1 : Nonempty (L2.Dn (L2.KOf KX) mg "_law_cell" K.a6C ["_law_script", "_law_k"]) := by
   dsimp only [L2.KOf]
   refine' L2.dn_mk2 KX G ?a ?l ?c ?k rfl (fun _ _ _ _ _ _ _ _ => rfl)
   (case a => k_is); (case l => k_is); (case c => k_is); (case k => k_is)
  obtain ⟨dZ1⟩ := dZ1
  have dZ7 : Nonempty (L2.Dn (L2.KOf KX) mg "_law_turned" K.a3X ["_law_script", "_law_n"]) := by
   dsimp only [L2.KOf]
   refine' L2.dn_mk2 KX G ?a ?l ?c ?k rfl (fun _ _ _ _ _ _ _ _ => rfl)
   (case a => k_is); (case l => k_is); (case c => k_is); (case k => k_is)
  obtain ⟨dZ7⟩ := dZ7
  have dZ6 : Nonempty (L2.Dn (L2.KOf KX) mg "_law_ties" K.a6D ["_law_script", "_law_n"]) := by
   dsimp only [L2.KOf]
   refine' L2.dn_mk2 KX G ?a ?l ?c ?k rfl (fun _ _ _ _ _ _ _ _ => rfl)
   (case a => k_is); (case l => k_is); (case c => k_is); (case k => k_is)
  obtain ⟨dZ6⟩ := dZ6
  have dZ5 : Nonempty (L2.Dn (L2.KOf KX) mg "_law_spoiled" K.a3G ["_law_order", "_law_kind", "_law_at", "_law_far"]) := by
   dsimp only [L2.KOf]
   refine' L2.dn_mk4 KX G ?a ?l ?c ?k rfl (fun _ _ _ _ _ _ _ _ _ _ => rfl)
   (case a => k_is); (case l => k_is); (case c => k_is); (case k => k_is)
  obtain ⟨dZ5⟩ := dZ5
  have dZ0 : Nonempty (L2.Dn (L2.KOf KX) mg "_law_call" K.a6F ["_law_web", "_law_order", "_law_which"]) := by
   dsimp only [L2.KOf]
   refine' L2.dn_mk3 KX G ?a ?l ?c ?k rfl (fun _ _ _ _ _ _ _ _ _ => rfl)
   (case a => k_is); (case l => k_is); (case c => k_is); (case k => k_is)
  obtain ⟨dZ0⟩ := dZ0
  have dZ3 : Nonempty (L2.Dn (L2.KOf KX) mg "_law_others" K.a2R ["_law_error"]) := by
   dsimp only [L2.KOf]
   refine' L2.dn_mk1 KX G ?a ?l ?c ?k rfl (fun _ _ _ _ _ _ _ => rfl)
   (case a => k_is); (case l => k_is); (case c => k_is); (case k => k_is)
  obtain ⟨dZ3⟩ := dZ3
  have dZ4 : Nonempty (L2.Dn (L2.KOf KX) mg "_law_refused" K.a2I ["_law_web", "_law_order", "_law_which"]) := by
   dsimp only [L2.KOf]
   refine' L2.dn_mk3 KX G ?a ?l ?c ?k rfl (fun _ _ _ _ _ _ _ _ _ => rfl)
   (case a => k_is); (case l => k_is); (case c => k_is); (case k => k_is)
  obtain ⟨dZ4⟩ := dZ4
  have dZ2 : Nonempty (L2.Dn (L2.KOf KX) mg "_law_no_place" K.a2D ["_law_web", "_law_gone", "_law_v"]) := by
   dsimp only [L2.KOf]
   refine' L2.dn_mk3 KX G ?a ?l ?c ?k rfl (fun _ _ _ _ _ _ _ _ _ => rfl)
   (case a => k_is); (case l => k_is); (case c => k_is); (case k => k_is)
  obtain ⟨dZ2⟩ := dZ2
  have dZ16 : Nonempty (L2.Dn (L2.KOf KX) mg "law" K.b7Y ["_law_script"]) := by
   dsimp only [L2.KOf]
   refine' L2.dn_mk1 KX G ?a ?l ?c ?k rfl (fun _ _ _ _ _ _ _ => rfl)
   (case a => k_is); (case l => k_is); (case c => k_is); (case k => k_is)
  obtain ⟨dZ16⟩ := dZ16
  have Cn : Nonempty (K.Cl (L2.KOf KX) mg) := by
   dsimp only [L2.KOf]
   refine' K.c4N KX G ?aBagError ?aNoGraph ?aNoPlace ?aNoTie ?aNoBag ?aNoTree ?aNoOrder ?aNoPart ?aNoSteps ?aTooWide ?aNoColours ?aNoWeights ?aNoNumber ?aNoName ?aNoText ?aNoRow ⟨?gNoOrder1, ?gNoOrder2, ?gNoOrder3, ?gNoOrder4, ?gNoOrder5, ?gNoOrder6, ?gNoOrder7, ?gNoOrder8⟩ ?vNoOrder ⟨?gNoPlace1, ?gNoPlace2, ?gNoPlace3, ?gNoPlace4, ?gNoPlace5, ?gNoPlace6, ?gNoPlace7, ?gNoPlace8⟩ ?vNoPlace
   (case aBagError => k_is)
   (case aNoGraph => k_is)
   (case aNoPlace => k_is)
   (case aNoTie => k_is)
   (case aNoBag => k_is)
   (case aNoTree => k_is)
   (case aNoOrder => k_is)
   (case aNoPart => k_is)
   (case aNoSteps => k_is)
   (case aTooWide => k_is)
   (case aNoColours => k_is)
   (case aNoWeights => k_is)
   (case aNoNumber => k_is)
   (case aNoName => k_is)
   (case aNoText => k_is)
   (case aNoRow => k_is)
   (case gNoOrder1 => k_is)
   (case gNoOrder2 => k_is)
   (case gNoOrder3 => k_is)
   (case gNoOrder4 => k_is)
   (case gNoOrder5 => k_is)
   (case gNoOrder6 => k_is)
   (case gNoOrder7 => k_is)
   (case gNoOrder8 => kernel_rfl!)
   (case vNoOrder => kernel_rfl!)
   (case gNoPlace1 => k_is)
   (case gNoPlace2 => k_is)
   (case gNoPlace3 => k_is)
   (case gNoPlace4 => k_is)
   (case gNoPlace5 => k_is)
   (case gNoPlace6 => k_is)
   (case gNoPlace7 => k_is)
   (case gNoPlace8 => kernel_rfl!)
   (case vNoPlace => kernel_rfl!)
  obtain ⟨C⟩ := Cn
  exact L2.law_at hmg dZ16 fun base => K.c4M B Bz C dZ13 dZ10 dZ12 dZ14 dZ17 dZ23 dZ19 dZ9 dZ22 dZ15 dZ21 dZ18 dZ20 dZ8 dZ11 dZ24 dZ1 dZ7 dZ6 dZ5 dZ0 dZ3 dZ4 dZ2 dZ16
 case S => exact fun K H a ns hl hO hS => ⟨a, ns, rfl, Lw.Scr.of hO hS, hl, fun _ => rfl⟩
 case C => exact fun _ _ _ _ z => z
