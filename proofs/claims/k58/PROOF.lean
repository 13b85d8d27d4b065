import PyProof.Rows.All
import Wide.All
import OpenK.AllK
import Wide.FinOn
import Lean
import PyProof.EqAt
import PyProof.EqKinds
import PyProof.TupleCall
import PyProof.SetScanFacts
import PyProof.SetKind
import PyProof.DictKinds
import PyProof.FactsAll.set_0
import PyProof.FactsAll.set_1
import PyProof.FactsAll.set_2
import PyProof.FactsAll.set_3
import PyProof.FactsSeq
import PyProof.CollectWalk
import PyProof.ListRange
import PyProof.ZipIter
import PyProof.MeetsSeq
import PyProof.IsRules
import PyProof.Rows.ZipGen
import PyProof.SumWalkG
import PyProof.DictWalks
import PyProof.Rows.SortShell
import PyProof.Rows.SetFrom
import PyProof.SetRoads
import KE.KIntText
import KE.IntTextLaws
import PyProof.StrWalks
import PyProof.StrOps2
import PyProof.SliceStr2
import PyProof.PureStr
import PyProof.StrCalls3
import PyProof.Rows.StrMadeLen
import PyProof.StrLawsIn
import KE.KStateDown
import PyProof.Rows.Range3
import PySem.Challenge.RW_bagwood_k58_whole_steps_and_trees
set_option Elab.async false
set_option linter.all false
set_option maxRecDepth 100000
local macro_rules | `(tactic| omega) => `(tactic| first | lia | omega (config := {}))
namespace L2
open PySem PySem.Spec PyProof.Rows
abbrev Key := Sum Int Str
def keyIs : Key → Value → Bool
 | .inl k, v => Value.isInt k v
 | .inr x, v => Value.isStrOf x v
def keyH (w : World) : Key → Int
 | .inl k => hashInt k
 | .inr x => hashStr w x
theorem keyIs_shape : ∀ {k : Key} {v : Value}, keyIs k v = true → (∃ i t, k = Sum.inl i ∧ v = Value.int i t) ∨ (∃ x t, k = Sum.inr x ∧ v = Value.str x t)
 | .inl i, v, h => by
  obtain ⟨t, e⟩ := Value.isInt_shape (k := i) (v := v) h
  exact .inl ⟨i, t, rfl, e⟩
 | .inr x, v, h => by
  obtain ⟨t, e⟩ := Value.isStrOf_shape (x := x) (v := v) h
  exact .inr ⟨x, t, rfl, e⟩
theorem keyIs_int (i : Int) (t : Tok) : keyIs (.inl i) (.int i t) = true := by simp [keyIs, Value.isInt]
theorem keyIs_str (x : Str) (t : Tok) : keyIs (.inr x) (.str x t) = true := by simp [keyIs, Value.isStrOf]
theorem key_ll (a b : Int) : decide ((Sum.inl a : Key) = Sum.inl b) = (a == b) := by
 by_cases e : a = b
 ·subst e; simp
 ·have h : ¬ (Sum.inl a : Key) = Sum.inl b := fun q => e (Sum.inl.inj q)
  rw [decide_eq_false h]
  exact (beq_eq_false_iff_ne.mpr e).symm
theorem key_rr (a b : Str) : decide ((Sum.inr a : Key) = Sum.inr b) = decide (a = b) := by
 by_cases e : a = b
 ·subst e; simp
 ·have h : ¬ (Sum.inr a : Key) = Sum.inr b := fun q => e (Sum.inr.inj q)
  rw [decide_eq_false h, decide_eq_false e]
theorem key_lr (a : Int) (b : Str) : decide ((Sum.inl a : Key) = Sum.inr b) = false := decide_eq_false (fun q => nomatch q)
theorem key_rl (a : Str) (b : Int) : decide ((Sum.inr a : Key) = Sum.inl b) = false := decide_eq_false (fun q => nomatch q)
def mixKind (prog : Program) (w : World) : PySem.KeyKind prog w Key where
 is := keyIs
 hash := keyH w
 inj := fun v a b ha hb => by
  rcases keyIs_shape ha with ⟨i, t, rfl, rfl⟩ | ⟨x, t, rfl, rfl⟩
  ·rcases keyIs_shape hb with ⟨j, u, rfl, e⟩ | ⟨y, u, rfl, e⟩
   ·injection e with e1 _; rw [e1]
   ·exact nomatch e
  ·rcases keyIs_shape hb with ⟨j, u, rfl, e⟩ | ⟨y, u, rfl, e⟩
   ·exact nomatch e
   ·injection e with e1 _; rw [e1]
 byValue := fun k v h => by
  rcases keyIs_shape h with ⟨i, t, rfl, rfl⟩ | ⟨x, t, rfl, rfl⟩ <;> rfl
 pyHash := fun hv h => by
  rcases keyIs_shape hv with ⟨i, t, rfl, rfl⟩ | ⟨x, t, rfl, rfl⟩
  ·exact wpAny_pyHash_int h
  ·exact wpAny_pyHash_str h
 eqBool := fun hu hv h => by
  rcases keyIs_shape hu with ⟨i, t, rfl, rfl⟩ | ⟨x, t, rfl, rfl⟩
  ·rcases keyIs_shape hv with ⟨j, u, rfl, rfl⟩ | ⟨y, u, rfl, rfl⟩
   ·rw [key_ll] at h; exact wpAny_eqBool_int h
   ·rw [key_lr] at h; exact SeqAt.EqAt.int_str i t y u _ _ _ _ h
  ·rcases keyIs_shape hv with ⟨j, u, rfl, rfl⟩ | ⟨y, u, rfl, rfl⟩
   ·rw [key_rl] at h; exact SeqAt.EqAt.str_int x t j u _ _ _ _ h
   ·rw [key_rr] at h; exact wpAny_eqBool_str h
 «strs» := fun k x t v h => by
  rcases keyIs_shape h with ⟨i, u, rfl, e⟩ | ⟨y, u, rfl, e⟩
  ·exact nomatch e
  ·injection e with e1 _
   subst e1
   cases v <;> rfl
theorem mixKind_int (prog : Program) (w : World) (i : Int) (t : Tok) : (mixKind prog w).is (.inl i) (.int i t) = true := keyIs_int i t
theorem mixKind_str (prog : Program) (w : World) (x : Str) (t : Tok) : (mixKind prog w).is (.inr x) (.str x t) = true := keyIs_str x t
end L2
namespace L2
open PySem PySem.Spec PyProof.Rows
inductive V where
 | non | bl (b : Bool) | int (i : Int) | str (x : Str) | byt (b : Array UInt8) | flt (b : UInt64) | ref (a : Addr) | ty (n : String)
 deriving DecidableEq
def RelV : V → Value → Prop
 | .non, u => u = Value.none
 | .bl b, u => u = Value.bool b
 | .int i, u => ∃ t, u = Value.int i t
 | .str x, u => ∃ t, u = Value.str x t
 | .byt b, u => ∃ t, u = Value.bytes b t
 | .flt b, u => ∃ t, u = Value.float b t
 | .ref a, u => u = Value.ref a
 | .ty n, u => u = Value.type n
abbrev Vals : List V → List Value → Prop := Paired RelV
theorem Vals.length {xs : List V} {us : List Value} (r : Vals xs us) : xs.length = us.length := Paired.length r
theorem Vals.get : ∀ {xs : List V} {us : List Value} {i : Nat} {x : V}, Vals xs us → xs[i]? = some x → ∃ u, us[i]? = some u ∧ RelV x u
 | _, _, _, _, .nil, e => by simp at e
 | _, _, 0, _, .cons r _, e => by simp at e; subst e; exact ⟨_, rfl, r⟩
 | _, _, i + 1, x, .cons _ t, e => by
  obtain ⟨u, h1, h2⟩ := Vals.get (i := i) (x := x) t (by simpa using e)
  exact ⟨u, by simpa using h1, h2⟩
theorem Vals.set {x : V} {u : Value} (r : RelV x u) : ∀ {xs : List V} {us : List Value} (i : Nat), Vals xs us → Vals (xs.set i x) (us.set i u)
 | _, _, _, .nil => .nil
 | _, _, 0, .cons _ t => .cons r t
 | _, _, i + 1, .cons q t => .cons q (Vals.set r i t)
theorem Vals.append : ∀ {xs ys : List V} {us ws : List Value}, Vals xs us → Vals ys ws → Vals (xs ++ ys) (us ++ ws)
 | _, _, _, _, .nil, s => s
 | _, _, _, _, .cons r t, s => .cons r (Vals.append t s)
theorem Vals.take : ∀ {xs : List V} {us : List Value} (n : Nat), Vals xs us → Vals (xs.take n) (us.take n)
 | _, _, 0, _ => .nil
 | _, _, _ + 1, .nil => .nil
 | _, _, n + 1, .cons r t => .cons r (Vals.take n t)
theorem Vals.drop : ∀ {xs : List V} {us : List Value} (n : Nat), Vals xs us → Vals (xs.drop n) (us.drop n)
 | _, _, 0, r => r
 | _, _, _ + 1, .nil => .nil
 | _, _, n + 1, .cons _ t => Vals.drop n t
def RelO : Option V → Option Value → Prop
 | some v, some u => RelV v u
 | none, none => True
 | _, _ => False
def KV {κ : Type} : List (κ × V) → List (κ × Value) → Prop := Paired fun (p : κ × V) (q : κ × Value) => p.1 = q.1 ∧ RelV p.2 q.2
def kV : Key → V
 | .inl i => .int i
 | .inr x => .str x
inductive HO where
  | lst (xs : List V)
  | tup (xs : List V)
  | dK (kvs : List (Key × V)) | dT (kvs : List (List Key × V))
  | set (S : Int → Bool) (n : Nat)
  | ins (C dx : Addr) (fs : List (Str × V))
  | own (x : Addr)
  | xd (fs : List (Str × V))
  | met (f x : Addr)
  | rng (lo hi : Int)
  | frz (o : Obj) (u : HO)
  | tbl (ps : Array Value)
  | ext (φ : Heap → Prop)
abbrev Hp := Addr → Option HO
def upd (H : Hp) (a : Addr) (o : HO) : Hp := fun b => if b = a then some o else H b
theorem upd_same {H : Hp} {a : Addr} {o : HO} : upd H a o a = some o := by unfold upd; rw [if_pos rfl]
theorem upd_ne {H : Hp} {a b : Addr} {o : HO} (h : b ≠ a) : upd H a o b = H b := by unfold upd; rw [if_neg h]
theorem ne_of {H : Hp} {a b : Addr} {o u : HO} (h : H a = some o) (h' : H b = some u) (d : o ≠ u) : a ≠ b := by
 intro e; subst e; rw [h] at h'; exact d (Option.some.inj h')
theorem ne_of_none {H : Hp} {a b : Addr} {o : HO} (h : H a = some o) (h' : H b = none) : a ≠ b := by
 intro e; subst e; rw [h] at h'; cases h'
section
variable (P : Program) (w : World)
def ObjOk (H : Hp) (h : Heap) (a : Addr) : HO → Prop
 | .lst xs => xs.length ≤ sizeLine ∧ ∃ (its : List Value) (n : Nat), Vals xs its ∧ h.get? a = some { cls := .type "list", data := .seq its.toArray n }
 | .tup xs => xs.length ≤ sizeLine ∧ ∃ its : List Value, Vals xs its ∧ IsTup h a its.toArray
 | .dK kvs => kvs.length ≤ sizeLine ∧ (a == sysModules) = false ∧ ∃ vs, KV kvs vs ∧ h.DictOf (mixKind P w) a vs
 | .dT kvs => kvs.length ≤ sizeLine ∧ (a == sysModules) = false ∧ ∃ xs : List (List Key × Addr × Value),
   Paired (fun (p : List Key × V) (q : List Key × Addr × Value) => p.1 = q.1 ∧ H q.2.1 = some (.tup (p.1.map kV)) ∧ RelV p.2 q.2.2) kvs xs ∧
   ∃ o es ep, h.get? a = some o ∧ o.ExactDict ∧ o.data = .dict es ep ∧ es.toList = xs.map (entryOfKey (tupleKind (mixKind P w))) ∧ (xs.map (·.1)).Nodup
 | .set S n => h.SetOf (intKind P w) a S n
 | .ins C dx fs => H dx = some (.own a) ∧ fs.length ≤ 1000 ∧ dx ≠ a ∧ h.get? a = some (PySem.W.instObj C dx) ∧
   ∃ mA, h.Ns1 dx mA ∧ (∀ f, RelO (fs.lookup f) (mA f)) ∧ PySem.Within mA (fs.map (·.1))
 | .own _ => ∃ o, h.get? a = some o
 | .xd fs => ∃ mA, h.Ns1 a mA ∧ ∀ f, RelO (fs.lookup f) (mA f)
 | .rng lo hi => ∃ t u v, h.get? a = some { cls := .type "range", data := .fields #[.int lo t, .int hi u, .int 1 v] }
 | .frz o u => h.get? a = some o ∧ ObjOk H h a u
 | .tbl ps => h.get? a = some { cls := .none, data := .fields ps }
 | .met f x => h.get? a = some (PySem.W.methodObj (.ref f) (.ref x))
 | .ext φ => φ h ∧ (∃ o, h.get? a = some o) ∧ ∀ h1 h2 : Heap, φ h1 → (∀ o, h1.get? a = some o → h2.get? a = some o) → φ h2
def HOk (H : Hp) (h : Heap) : Prop := ∀ a o, H a = some o → ObjOk P w H h a o
end
section
variable {P : Program} {w : World} {H H' : Hp} {h h' : Heap} {a : Addr} {o : HO}
theorem ObjOk.lt (x : ObjOk P w H h a o) : a < h.objs.size := by
 cases o with
 | lst xs => obtain ⟨_, _, _, _, e⟩ := x; exact Heap.lt_size e
 | tup xs => obtain ⟨_, _, _, p⟩ := x; exact p.lt
 | dK kvs => obtain ⟨_, _, _, _, o, _, _, e, _⟩ := x; exact Heap.lt_size e
 | dT kvs => obtain ⟨_, _, _, _, o, _, _, e, _⟩ := x; exact Heap.lt_size e
 | set S n => obtain ⟨o, _, _, _, e, _⟩ := x; exact Heap.lt_size e
 | ins C dx fs => obtain ⟨_, _, _, e, _⟩ := x; exact Heap.lt_size e
 | own y => obtain ⟨_, e⟩ := x; exact Heap.lt_size e
 | xd fs => obtain ⟨_, ⟨_, _, _, e, _⟩, _⟩ := x; exact Heap.lt_size e
 | rng lo hi => obtain ⟨_, _, _, e⟩ := x; exact Heap.lt_size e
 | frz ob u => obtain ⟨e, _⟩ := x; exact Heap.lt_size e
 | tbl ps => exact Heap.lt_size (show h.get? a = some _ from x)
 | met f y => exact Heap.lt_size (show h.get? a = some _ from x)
 | ext φ => obtain ⟨_, ⟨_, e⟩, _⟩ := x; exact Heap.lt_size e
theorem Paired.mapP {α β : Type} {F G : α → β → Prop} : ∀ {l₁ : List α} {l₂ : List β}, Paired F l₁ l₂ → (∀ a b, F a b → G a b) → Paired G l₁ l₂
 | _, _, .nil, _ => .nil
 | _, _, .cons r t, f => .cons (f _ _ r) (Paired.mapP t f)
theorem ObjOk.stay (x : ObjOk P w H h a o) (k : ∀ b u, (b = a ∨ H b = some (.own a)) → h.get? b = some u → h'.get? b = some u)
  (ho : ∀ b, H b = some (.own a) → H' b = some (.own a)) (ht : ∀ b xs, H b = some (.tup xs) → H' b = some (.tup xs)) : ObjOk P w H' h' a o := by
 induction o with
 | lst xs => obtain ⟨z, its, n, r, e⟩ := x; exact ⟨z, its, n, r, k _ _ (.inl rfl) e⟩
 | tup xs => obtain ⟨z, its, r, ob, e, c⟩ := x; exact ⟨z, its, r, ob, k _ _ (.inl rfl) e, c⟩
 | dK kvs => obtain ⟨z, y, vs, r, ob, es, ep, e, c⟩ := x; exact ⟨z, y, vs, r, ob, es, ep, k _ _ (.inl rfl) e, c⟩
 | dT kvs =>
  obtain ⟨z, y, xs, r, ob, es, ep, e, c⟩ := x
  exact ⟨z, y, xs, Paired.mapP r fun p q z => ⟨z.1, ht _ _ z.2.1, z.2.2⟩, ob, es, ep, k _ _ (.inl rfl) e, c⟩
 | set S n => obtain ⟨ob, es, ep, t, e, c⟩ := x; exact ⟨ob, es, ep, t, k _ _ (.inl rfl) e, c⟩
 | ins C dx fs =>
  obtain ⟨d, z, ne, e, mA, ⟨od, es, ep, e2, c⟩, r⟩ := x
  exact ⟨ho _ d, z, ne, k _ _ (.inl rfl) e, mA, ⟨od, es, ep, k _ _ (.inr d) e2, c⟩, r⟩
 | own y => obtain ⟨ob, e⟩ := x; exact ⟨ob, k _ _ (.inl rfl) e⟩
 | xd fs => obtain ⟨mA, ⟨od, es, ep, e, c⟩, r⟩ := x; exact ⟨mA, ⟨od, es, ep, k _ _ (.inl rfl) e, c⟩, r⟩
 | rng lo hi => obtain ⟨t, u, v, e⟩ := x; exact ⟨t, u, v, k _ _ (.inl rfl) e⟩
 | frz ob u ih => obtain ⟨e, q⟩ := x; exact ⟨k _ _ (.inl rfl) e, ih q⟩
 | tbl ps =>
  have e : h.get? a = some { cls := .none, data := .fields ps } := x
  show h'.get? a = some { cls := .none, data := .fields ps }
  exact k a _ (.inl rfl) e
 | met f y =>
  have e : h.get? a = some (PySem.W.methodObj (.ref f) (.ref y)) := x
  show h'.get? a = some (PySem.W.methodObj (.ref f) (.ref y))
  exact k a _ (.inl rfl) e
 | ext φ => obtain ⟨p, ⟨o, e⟩, st⟩ := x; exact ⟨st _ _ p fun o q => k _ _ (.inl rfl) q, ⟨o, k _ _ (.inl rfl) e⟩, st⟩
theorem HOk.lt (x : HOk P w H h) (e : H a = some o) : a < h.objs.size := (x a o e).lt
theorem HOk.fresh (x : HOk P w H h) (e : h.objs.size ≤ a) : H a = none := by
 cases q : H a with
 | none => rfl
 | some u => exact absurd (Nat.lt_of_lt_of_le (x.lt q) e) (Nat.lt_irrefl _)
theorem HOk.kept (x : HOk P w H h) (k : ∀ b u, h.get? b = some u → h'.get? b = some u) : HOk P w H h' := fun a o e =>
 (x a o e).stay (fun b u _ q => k b u q) (fun _ q => q) fun _ _ q => q
theorem HOk.laid (x : HOk P w H h) (k : ∀ b u, h.get? b = some u → h'.get? b = some u) (hp : h.objs.size ≤ a) (new : ObjOk P w (upd H a o) h' a o) : HOk P w (upd H a o) h' := fun b u e => by
 have hn := x.fresh hp
 by_cases hb : b = a
 ·subst hb; rw [upd_same] at e; cases e; exact new
 ·rw [upd_ne hb] at e
  exact (x b u e).stay (fun c v _ q => k c v q) (fun c q => by rw [upd_ne (ne_of_none q hn)]; exact q) fun c xs q => by rw [upd_ne (ne_of_none q hn)]; exact q
end
def Rd (H : Hp) (a : Addr) (u : HO) : Prop := H a = some u ∨ ∃ o, H a = some (.frz o u)
theorem Rd.ok {P : Program} {w : World} {H : Hp} {h : Heap} {a : Addr} {u : HO} (r : Rd H a u) (x : HOk P w H h) : ObjOk P w H h a u := by
 rcases r with r | ⟨o, r⟩
 ·exact x a u r
 ·obtain ⟨_, q⟩ := x a _ r
  exact q
def Mut : Option HO → Prop
 | some (.lst _) => True
 | some (.dK _) => True
 | some (.dT _) => True
 | some (.set _ _) => True
 | some (.ins _ _ _) => True
 | some (.ext _) => True
 | _ => False
section
variable {P : Program} {w : World} {H : Hp} {h h' : Heap} {x e : Addr} {o' : HO}
theorem HOk.write (ok : HOk P w H h) (mu : Mut (H x)) (he : e = x ∨ H e = some (.own x)) (k : ∀ b u, b ≠ e → h.get? b = some u → h'.get? b = some u) (heo : ∃ u, h'.get? e = some u)
  (new : ObjOk P w (upd H x o') h' x o') : HOk P w (upd H x o') h' := fun b u q => by
 have nown : ∀ c y, H c = some (.own y) → c ≠ x := fun c y r z => by subst z; rw [r] at mu; exact mu
 have ntup : ∀ c xs, H c = some (.tup xs) → c ≠ x := fun c xs r z => by subst z; rw [r] at mu; exact mu
 by_cases hb : b = x
 ·subst hb; rw [upd_same] at q; cases q; exact new
 ·rw [upd_ne hb] at q
  by_cases hbe : b = e
  ·have q' : H b = some (.own x) := by
    rcases he with z | z
    ·exact absurd (hbe.trans z) hb
    ·rw [hbe]; exact z
   rw [q] at q'; cases q'
   obtain ⟨v, hv⟩ := heo
   exact ⟨v, by rw [hbe]; exact hv⟩
  ·refine (ok b u q).stay (fun c v hc r => k c v ?_ r) (fun c r => by rw [upd_ne (nown c b r)]; exact r) fun c xs r => by rw [upd_ne (ntup c xs r)]; exact r
   rcases hc with rfl | hc
   ·exact hbe
   ·rintro rfl
    rcases he with z | z
    ·exact nown c b hc z
    ·rw [hc] at z; cases z; exact hb rfl
end
structure Un (fs ex : List Addr) (H H' : Hp) (h h' : Heap) : Prop where
 keep : ∀ b o, h.get? b = some o → H b = none → b ∉ fs → b ∉ ex → h'.get? b = some o
 slot : ∀ b o, h.get? b = some o → H b = none → b ∈ fs → b ∉ ex → ∃ sl, h'.get? b = some { o with slots := sl }
 free : ∀ b o, h.get? b = some o → H b = none → b ∉ ex → H' b = none
 there : ∀ b o, h.get? b = some o → b ∉ ex → ∃ o', h'.get? b = some o'
 tups : ∀ b xs, H b = some (.tup xs) → H' b = some (.tup xs)
 frzs : ∀ b o u, H b = some (.frz o u) → H' b = some (.frz o u)
 tbls : ∀ b ps, H b = some (.tbl ps) → ∃ more, H' b = some (.tbl (ps ++ more))
section
variable {fs fs' ex ex' : List Addr} {H H1 H2 : Hp} {h h1 h2 h' : Heap} {a x e : Addr} {o : HO}
theorem Un.any (u : Un fs ex H H1 h h1) {b : Addr} {ob : Obj} (q : h.get? b = some ob) (n : H b = none) (hx : b ∉ ex) : ∃ sl, h1.get? b = some { ob with slots := sl } := by
 by_cases hb : b ∈ fs
 ·exact u.slot b ob q n hb hx
 ·exact ⟨ob.slots, u.keep b ob q n hb hx⟩
theorem Un.kept (k : ∀ b u, h.get? b = some u → h'.get? b = some u) : Un fs ex H H h h' :=
 ⟨fun b ob q _ _ _ => k b ob q, fun b ob q _ _ _ => ⟨ob.slots, k b ob q⟩, fun _ _ _ n _ => n, fun b ob q _ => ⟨ob, k b ob q⟩, fun _ _ q => q, fun _ _ _ q => q, fun _ ps q => ⟨#[], by rw [q]; simp⟩⟩
theorem Un.refl : Un fs ex H H h h := Un.kept fun _ _ q => q
theorem Un.laid (k : ∀ b u, h.get? b = some u → h'.get? b = some u) (hp : h.objs.size ≤ a) (hn : H a = none) : Un fs ex H (upd H a o) h h' where
 keep := fun b u q _ _ _ => k b u q
 slot := fun b u q _ _ _ => ⟨u.slots, k b u q⟩
 free := fun b u q n _ => by rw [upd_ne (Nat.ne_of_lt (Nat.lt_of_lt_of_le (Heap.lt_size q) hp))]; exact n
 there := fun b u q _ => ⟨u, k b u q⟩
 tups := fun b xs q => by rw [upd_ne (ne_of_none q hn)]; exact q
 frzs := fun b u xs q => by rw [upd_ne (ne_of_none q hn)]; exact q
 tbls := fun b ps q => ⟨#[], by rw [upd_ne (ne_of_none q hn), q]; simp⟩
theorem Un.write (mu : Mut (H x)) (he : e = x ∨ H e = some (.own x)) (k : ∀ b u, b ≠ e → h.get? b = some u → h'.get? b = some u) (heo : ∃ u, h'.get? e = some u) : Un fs ex H (upd H x o) h h' := by
 have hx : ∀ b, H b = none → b ≠ x := fun b n z => by subst z; rw [n] at mu; exact mu
 have hb : ∀ b, H b = none → b ≠ e := fun b n z => by
  subst z
  rcases he with r | r
  ·exact hx b n r
  ·rw [n] at r; cases r
 have hm : ∀ b u, H b = some u → ¬ Mut (some u) → b ≠ x := fun b u q nm z => by subst z; rw [q] at mu; exact nm mu
 refine ⟨fun b u q n _ _ => k b u (hb b n) q, fun b u q n _ _ => ⟨u.slots, k b u (hb b n) q⟩, fun b u q n _ => by rw [upd_ne (hx b n)]; exact n, fun b u q _ => ?_,
  fun b xs q => by rw [upd_ne (hm b _ q fun z => z)]; exact q, fun b u xs q => by rw [upd_ne (hm b _ q fun z => z)]; exact q, fun b ps q => ⟨#[], by rw [upd_ne (hm b _ q fun z => z), q]; simp⟩⟩
 by_cases hbe : b = e
 ·subst hbe; exact heo
 ·exact ⟨u, k b u hbe q⟩
end
def trk (h : Heap) (H : Hp) : List Addr := (List.range h.objs.size).filter fun a => (H a).isSome
def hidT (h : Heap) (H : Hp) : Heap := PySem.W.hideAll h (trk h H)
theorem hidT_size (h : Heap) (H : Hp) : (hidT h H).objs.size = h.objs.size := PySem.W.hideAll_size _ _
theorem hidT_get {h : Heap} {H : Hp} {b : Addr} {o : Obj} (e : h.get? b = some o) (n : H b = none) : (hidT h H).get? b = some o :=
 PySem.W.hideAll_get _ e fun hm => by
  have q : (H b).isSome = true := (List.mem_filter.mp hm).2
  rw [n] at q; simp at q
theorem of_hidT {h : Heap} {H : Hp} {b : Addr} {o : Obj} (e : (hidT h H).get? b = some o) : h.get? b = some o ∧ H b = none := by
 have e' : h.get? b = some o := PySem.W.of_hideAll (trk h H) e
 refine ⟨e', ?_⟩
 cases q : H b with
 | none => rfl
 | some x =>
  have hm : b ∈ trk h H := List.mem_filter.mpr ⟨List.mem_range.mpr (Heap.lt_size e'), by simp [q]⟩
  have z : (hidT h H).get? b = none := PySem.W.hideAll_none (trk h H) hm
  rw [z] at e; cases e
end L2
namespace L2
open PySem PySem.Spec PyProof.Rows
structure Mod (K : PySem.W.Frag) (mg : Str → Option Value) (base : Heap) : Prop where
 kin : K.In base
 glob : base.Ns mainGlobals mg
 blt : ∃ mb, base.Ns builtinsNs mb ∧ ∀ x : Str, x ≠ "__name__" → mb x = bootBuiltins x
 nolimit : base.NoLimit
structure Cx where
 prog : Program
 w : World
 K : PySem.W.Frag
 mg : Str → Option Value
 base : Heap
 A : Around
 N : List Str
 s₀ : Shared
 H₀ : Hp
 env : Env
 outer : List Env
 stack : List Env
 ex : List Addr
 fn : Str → Bool
 calm : Bool
 pn : List (Addr × Obj)
 xe : Value → Shared → Prop
def frs (l : List Env) : List Addr := l.filterMap (·.frame)
abbrev Cx.fs (X : Cx) : List Addr := frs X.outer
def Vis (sc : Scope) (x : Str) : Prop := sc.names.lookup x = some .local ∨ sc.names.lookup x = some .cell ∨ sc.names.lookup x = some .free
def Loc (sc : Scope) (x : Str) : Prop := sc.names.lookup x = some .local ∨ sc.names.lookup x = some .cell
def Look (env : Env) (h : Heap) (m : Str → Option Value) (x : Str) (u : Value) : Prop :=
 (env.kindOf x = some .local ∧ m x = some u) ∨ ((env.kindOf x = some .cell ∨ env.kindOf x = some .free) ∧ ∃ c, env.cells.lookup x = some c ∧ h.IsCell c (some u))
structure Cx.Ok (X : Cx) : Prop where
 mod : Mod X.K X.mg X.base
 kind : X.env.scope.kind = .function
 glob : X.env.globals = mainGlobals
 blt : X.env.builtins = builtinsNs
 above : X.s₀.heap.objs.size ≤ X.env.locals
 inj : ∀ x y c, X.env.cells.lookup x = some c → X.env.cells.lookup y = some c → x = y
 has : ∀ x, (X.env.kindOf x = some .cell ∨ X.env.kindOf x = some .free) → ∃ c, X.env.cells.lookup x = some c
 cab : ∀ x c, X.fn x = true → X.env.cells.lookup x = some c → X.s₀.heap.objs.size ≤ c
 hd : X.calm = true → X.A.handled = none
 frames : X.A.frames = some X.stack
 stk : X.stack = X.outer ∨ (X.stack = X.env :: X.outer ∧ X.env.frame = some X.env.locals)
 exf : ∀ b ∈ X.ex, b ≠ X.env.locals ∧ ∀ x c, X.env.cells.lookup x = some c → c ≠ b
 bs : ∀ b o, X.base.get? b = some o → X.s₀.heap.get? b = some o ∧ X.H₀ b = none
 bsz : X.base.objs.size ≤ X.s₀.heap.objs.size
 noex : ∀ b o, X.base.get? b = some o → b ∉ X.ex
 exfs : ∀ b ∈ X.ex, b ∉ X.fs
 funs : X.s₀.heap.FunFrames X.base X.outer
 frf : ∀ b ∈ X.fs, X.H₀ b = none
structure Inv (X : Cx) (pins : List (Addr × Obj)) (σ : List (Option V)) (H : Hp) (s : Shared) : Prop where
 ok : X.Ok
 os : s.os = X.s₀.os
 bare : AllBare s.gens
 base : Un X.fs X.ex X.H₀ H X.s₀.heap s.heap
 loc : ∃ m, s.heap.Ns X.env.locals m ∧ ∀ (i : Nat) (x : Str) (v : V), X.N[i]? = some x → σ[i]? = some (some v) → Vis X.env.scope x → ∃ u, RelV v u ∧ Look X.env s.heap m x u
 cell : ∀ x c, X.env.cells.lookup x = some c → ∃ v, s.heap.IsCell c v
 free : H X.env.locals = none
 freeC : ∀ x c, X.env.cells.lookup x = some c → H c = none
 pin : ∀ p ∈ X.pn ++ pins, s.heap.get? p.1 = some p.2 ∧ H p.1 = none ∧ p.1 ≠ X.env.locals ∧ p.1 ∉ X.fs ∧ ∀ v, p.2.data ≠ .cell v
 hok : HOk X.prog X.w H s.heap
 len : σ.length = X.N.length
section
variable {X : Cx} {pins : List (Addr × Obj)} {σ : List (Option V)} {H H' : Hp} {s : Shared} {h' : Heap}
theorem Cx.Ok.nofr (ok : X.Ok) {b : Addr} {o : Obj} (e : X.base.get? b = some o) : b ∉ X.fs := fun hb => by
 have := (ok.funs.mem hb).1
 rw [e] at this; cases this
theorem Inv.bs (I : Inv X pins σ H s) : ∀ b o, X.base.get? b = some o → s.heap.get? b = some o ∧ H b = none := fun b o e =>
 ⟨I.base.keep b o (I.ok.bs b o e).1 (I.ok.bs b o e).2 (I.ok.nofr e) (I.ok.noex b o e), I.base.free b o (I.ok.bs b o e).1 (I.ok.bs b o e).2 (I.ok.noex b o e)⟩
theorem Inv.bk (I : Inv X pins σ H s) : ∀ b o, X.base.get? b = some o → s.heap.get? b = some o := fun b o e => (I.bs b o e).1
theorem Inv.mod (I : Inv X pins σ H s) : Mod X.K X.mg X.base := I.ok.mod
theorem Inv.kIn (I : Inv X pins σ H s) : X.K.In s.heap := I.ok.mod.kin.keeps I.bk
theorem Inv.lt (I : Inv X pins σ H s) : X.env.locals < s.heap.objs.size := let ⟨_, hn, _⟩ := I.loc; hn.lt
theorem Inv.sz (I : Inv X pins σ H s) : X.s₀.heap.objs.size ≤ s.heap.objs.size := Nat.le_trans I.ok.above (Nat.le_of_lt I.lt)
theorem Inv.nofs (I : Inv X pins σ H s) {a : Addr} (h : s.heap.objs.size ≤ a) : a ∉ X.fs := fun hb => by
 obtain ⟨_, o, ho, _⟩ := I.ok.funs.mem hb
 exact absurd (Nat.lt_of_lt_of_le (Heap.lt_size ho) (Nat.le_trans I.sz h)) (Nat.lt_irrefl _)
theorem Inv.cne (I : Inv X pins σ H s) : ∀ x c, X.env.cells.lookup x = some c → c ≠ X.env.locals := fun x c e z => by
 obtain ⟨v, o, ho, hd⟩ := I.cell x c e
 obtain ⟨m, ⟨o', es, ep, ho', hd', _⟩, _⟩ := I.loc
 rw [z, ho'] at ho; cases ho; rw [hd'] at hd; cases hd
theorem Inv.funs (I : Inv X pins σ H s) : s.heap.FunFrames X.base X.outer := by
 have all : ∀ (l : List Env), (∀ b ∈ frs l, b ∈ X.fs) → X.s₀.heap.FunFrames X.base l → s.heap.FunFrames X.base l := by
  intro l
  induction l with
  | nil => intro _ _; trivial
  | cons env r ih =>
   intro hs hl
   obtain ⟨hk, ⟨L, o, hf, hn, ho, hd⟩, hr⟩ := hl
   have hL : L ∈ X.fs := hs L (by unfold frs; rw [List.filterMap_cons, hf]; exact List.mem_cons_self)
   obtain ⟨sl, e⟩ := I.base.slot L o ho (I.ok.frf L hL) hL fun z => I.ok.exfs L z hL
   exact ⟨hk, ⟨L, _, hf, hn, e, hd⟩, ih (fun b hb => hs b (by unfold frs; rw [List.filterMap_cons, hf]; exact List.mem_cons_of_mem _ hb)) hr⟩
 exact all X.outer (fun _ hb => hb) I.ok.funs
theorem Inv.stack (I : Inv X pins σ H s) : s.heap.FunFrames X.base X.stack := by
 rcases I.ok.stk with e | ⟨e, hf⟩
 ·rw [e]; exact I.funs
 ·rw [e]
  obtain ⟨m, hn, _⟩ := I.loc
  refine .cons (by rw [I.ok.kind]; decide) hf hn ?_ I.funs
  exact Heap.get?_none_of_le (Nat.le_trans I.ok.bsz I.ok.above)
theorem Inv.stkSub (I : Inv X pins σ H s) : ∀ b ∈ frs X.stack, b ∈ X.env.locals :: X.fs := fun b hb => by
 rcases I.ok.stk with e | ⟨e, hf⟩
 ·rw [e] at hb; exact List.mem_cons_of_mem _ hb
 ·rw [e] at hb
  unfold frs at hb
  rw [List.filterMap_cons, hf] at hb
  exact hb
theorem Inv.stkFree (I : Inv X pins σ H s) : ∀ b ∈ frs X.stack, H b = none := fun b hb => by
 rcases List.mem_cons.mp (I.stkSub b hb) with e | hb
 ·rw [e]; exact I.free
 ·obtain ⟨_, o, ho, _⟩ := I.ok.funs.mem hb
  exact I.base.free b o ho (I.ok.frf b hb) fun z => I.ok.exfs b z hb
theorem Inv.step {g' : Array GenState} {t' : Nat} {d' : Drawn} {ch : List Addr} (I : Inv X pins σ H s)
  (hch : ∀ b ∈ ch, (b ∈ X.ex ∨ X.s₀.heap.objs.size ≤ b) ∧ b ≠ X.env.locals ∧ (∀ x c, X.env.cells.lookup x = some c → c ≠ b) ∧ ∀ p ∈ X.pn ++ pins, p.1 ≠ b)
  (keep : ∀ b o, b ≠ X.env.locals → b ∉ X.fs → b ∉ ch → s.heap.get? b = some o → H b = none → h'.get? b = some o)
  (slot : ∀ b o, b ≠ X.env.locals → b ∈ X.fs → b ∉ ch → s.heap.get? b = some o → H b = none → ∃ sl, h'.get? b = some { o with slots := sl }) (free : ∀ b o, b ∉ ch → s.heap.get? b = some o → H b = none → H' b = none)
  (there : ∀ b o, b ∉ ch → s.heap.get? b = some o → ∃ o', h'.get? b = some o')
  (tups : ∀ b xs, H b = some (.tup xs) → H' b = some (.tup xs)) (frzs : ∀ b o u, H b = some (.frz o u) → H' b = some (.frz o u)) (tbls : ∀ b ps, H b = some (.tbl ps) → ∃ more, H' b = some (.tbl (ps ++ more)))
  (ns : ∀ m, s.heap.Ns X.env.locals m → h'.Ns X.env.locals m) (hok : HOk X.prog X.w H' h') (hg : AllBare g') :
  Inv X pins σ H' { s with heap := h', gens := g', drawn := d', toks := t' } := by
 have neL : ∀ b o, X.s₀.heap.get? b = some o → b ≠ X.env.locals := fun b o e => Nat.ne_of_lt (Nat.lt_of_lt_of_le (Heap.lt_size e) I.ok.above)
 have neC : ∀ b o, X.s₀.heap.get? b = some o → b ∉ X.ex → b ∉ ch := fun b o e hx hb => by
  rcases (hch b hb).1 with z | z
  ·exact hx z
  ·exact absurd (Nat.lt_of_lt_of_le (Heap.lt_size e) z) (Nat.lt_irrefl _)
 have cellK : ∀ x c, X.env.cells.lookup x = some c → ∀ v, s.heap.IsCell c v → h'.IsCell c v := fun x c e v ⟨o, ho, hd⟩ => by
  have nch : c ∉ ch := fun z => (hch c z).2.2.1 x c e rfl
  by_cases hc : c ∈ X.fs
  ·obtain ⟨sl, q⟩ := slot c o (I.cne x c e) hc nch ho (I.freeC x c e)
   exact ⟨_, q, hd⟩
  ·exact ⟨o, keep c o (I.cne x c e) hc nch ho (I.freeC x c e), hd⟩
 refine ⟨I.ok, I.os, hg, ⟨fun b o e n hb hx => ?_, fun b o e n hb hx => ?_, fun b o e n hx => ?_, fun b o e hx => ?_, fun b xs e => tups b xs (I.base.tups b xs e), fun b o xs e => frzs b o xs (I.base.frzs b o xs e), fun b ps e => ?_⟩, ?_, fun x c e => ?_, ?_, fun x c e => ?_, fun p hp => ?_, hok, I.len⟩
 ·exact keep b o (neL b o e) hb (neC b o e hx) (I.base.keep b o e n hb hx) (I.base.free b o e n hx)
 ·obtain ⟨sl, e1⟩ := I.base.slot b o e n hb hx
  obtain ⟨sl', e2⟩ := slot b _ (neL b o e) hb (neC b o e hx) e1 (I.base.free b o e n hx)
  exact ⟨sl', e2⟩
 ·obtain ⟨o', e1⟩ := I.base.there b o e hx
  exact free b o' (neC b o e hx) e1 (I.base.free b o e n hx)
 ·obtain ⟨o', e1⟩ := I.base.there b o e hx
  exact there b o' (neC b o e hx) e1
 ·obtain ⟨m1, e1⟩ := I.base.tbls b ps e
  obtain ⟨m2, e2⟩ := tbls b _ e1
  exact ⟨m1 ++ m2, by rw [e2, Array.append_assoc]⟩
 ·obtain ⟨m, hn, hl⟩ := I.loc
  refine ⟨m, ns m hn, fun i x v e1 e2 e3 => ?_⟩
  obtain ⟨u, r, l⟩ := hl i x v e1 e2 e3
  refine ⟨u, r, ?_⟩
  rcases l with l | ⟨k, c, e, z⟩
  ·exact .inl l
  ·exact .inr ⟨k, c, e, cellK x c e _ z⟩
 ·obtain ⟨v, z⟩ := I.cell x c e
  exact ⟨v, cellK x c e v z⟩
 ·obtain ⟨m, ⟨o, _, _, ho, _⟩, _⟩ := I.loc
  exact free _ o (fun z => (hch _ z).2.1 rfl) ho I.free
 ·obtain ⟨v, o, ho, hd⟩ := I.cell x c e
  exact free c o (fun z => (hch c z).2.2.1 x c e rfl) ho (I.freeC x c e)
 ·obtain ⟨e, n, ne, nf, d⟩ := I.pin p hp
  have nch : p.1 ∉ ch := fun z => (hch p.1 z).2.2.2 p hp rfl
  exact ⟨keep p.1 p.2 ne nf nch e n, free p.1 p.2 nch e n, ne, nf, d⟩
theorem Inv.un {t' : Nat} (I : Inv X pins σ H s) (u : Un X.fs [] H H' s.heap h') (hok : HOk X.prog X.w H' h') : Inv X pins σ H' { s with heap := h', toks := t' } := by
 obtain ⟨m, ⟨o, es, ep, ho, r⟩, _⟩ := id I.loc
 obtain ⟨sl, hL⟩ := u.any ho I.free (by simp)
 exact I.step (g' := s.gens) (d' := s.drawn) (ch := []) (fun _ z => nomatch z) (fun b o _ hb _ e n => u.keep b o e n hb (by simp)) (fun b o _ hb _ e n => u.slot b o e n hb (by simp)) (fun b o _ e n => u.free b o e n (by simp)) (fun b o _ e => u.there b o e (by simp)) u.tups u.frzs u.tbls (fun m' hm => by
  obtain ⟨o', es', ep', ho', r'⟩ := hm
  rw [ho] at ho'; cases ho'
  exact ⟨_, es', ep', hL, r'⟩) hok I.bare
theorem Inv.call {g' : Array GenState} {t' : Nat} {d' : Drawn} {ch : List Addr} (I : Inv X pins σ H s) (u : Un (frs X.stack) ch H H' s.heap h') (hok : HOk X.prog X.w H' h') (hg : AllBare g')
  (hch : ∀ b ∈ ch, (b ∈ X.ex ∨ X.s₀.heap.objs.size ≤ b) ∧ b ≠ X.env.locals ∧ (∀ x c, X.env.cells.lookup x = some c → c ≠ b) ∧ ∀ p ∈ X.pn ++ pins, p.1 ≠ b) :
  Inv X pins σ H' { s with heap := h', gens := g', drawn := d', toks := t' } := by
 obtain ⟨m, ⟨o, es, ep, ho, r⟩, _⟩ := id I.loc
 obtain ⟨sl, hL⟩ := u.any ho I.free fun z => (hch _ z).2.1 rfl
 exact I.step (ch := ch) hch (fun b o hL hb hc e n => u.keep b o e n (fun z => (List.mem_cons.mp (I.stkSub b z)).elim hL hb) hc) (fun b o _ _ hc e n => u.any e n hc) (fun b o hc e n => u.free b o e n hc) (fun b o hc e => u.there b o e hc) u.tups u.frzs u.tbls (fun m' hm => by
  obtain ⟨o', es', ep', ho', r'⟩ := hm
  rw [ho] at ho'; cases ho'
  exact ⟨_, es', ep', hL, r'⟩) hok hg
theorem Inv.turned {t' : Nat} {it : Addr} (I : Inv X pins σ H s) (k : ∀ b o, b ≠ it → s.heap.get? b = some o → h'.get? b = some o) (hn : H it = none) (hL : it ≠ X.env.locals)
  (h1 : it ∈ X.ex ∨ X.s₀.heap.objs.size ≤ it) (h2 : ∀ x c, X.env.cells.lookup x = some c → c ≠ it) (h3 : ∀ p ∈ X.pn ++ pins, p.1 ≠ it) : Inv X pins σ H { s with heap := h', toks := t' } := by
 have nit : ∀ b u, H b = some u → b ≠ it := fun b u e z => by rw [z, hn] at e; cases e
 refine I.step (g' := s.gens) (d' := s.drawn) (ch := [it]) (fun b hb => ?_) (fun b o _ _ hc e _ => k b o (fun z => hc (by simp [z])) e) (fun b o _ _ hc e _ => ⟨o.slots, k b o (fun z => hc (by simp [z])) e⟩) (fun _ _ _ _ n => n)
  (fun b o hc e => ⟨o, k b o (fun z => hc (by simp [z])) e⟩) (fun _ _ e => e) (fun _ _ _ e => e) (fun b ps e => ⟨#[], by rw [e]; simp⟩) (fun m hm => ?_) (fun b u e => ?_) I.bare
 ·have e : b = it := by simpa using hb
  subst e
  exact ⟨h1, hL, h2, h3⟩
 ·obtain ⟨o, es, ep, ho, r⟩ := hm
  exact ⟨o, es, ep, k _ o (Ne.symm hL) ho, r⟩
 ·refine (I.hok b u e).stay (fun c v hc q => k c v ?_ q) (fun _ q => q) fun _ _ q => q
  rcases hc with z | z
  ·rw [z]; exact nit b u e
  ·exact nit c _ z
theorem Inv.tok (I : Inv X pins σ H s) (t : Nat) : Inv X pins σ H { s with toks := t } := I.un (h' := s.heap) (t' := t) Un.refl I.hok
theorem Inv.kept {t' : Nat} (I : Inv X pins σ H s) (k : ∀ b u, s.heap.get? b = some u → h'.get? b = some u) : Inv X pins σ H { s with heap := h', toks := t' } := I.un (Un.kept k) (I.hok.kept k)
theorem Inv.laid {a : Addr} {o : HO} {t' : Nat} (I : Inv X pins σ H s) (k : ∀ b u, s.heap.get? b = some u → h'.get? b = some u) (hp : s.heap.objs.size ≤ a) (new : ObjOk X.prog X.w (upd H a o) h' a o) :
  Inv X pins σ (upd H a o) { s with heap := h', toks := t' } := I.un (Un.laid k hp (I.hok.fresh hp)) (I.hok.laid k hp new)
theorem Inv.write {x e : Addr} {o : HO} {t' : Nat} (I : Inv X pins σ H s) (mu : Mut (H x)) (he : e = x ∨ H e = some (.own x)) (k : ∀ b u, b ≠ e → s.heap.get? b = some u → h'.get? b = some u) (heo : ∃ u, h'.get? e = some u)
  (new : ObjOk X.prog X.w (upd H x o) h' x o) : Inv X pins σ (upd H x o) { s with heap := h', toks := t' } := I.un (Un.write mu he k heo) (I.hok.write mu he k heo new)
theorem Inv.pins_of {pins' : List (Addr × Obj)} (I : Inv X pins σ H s) (h : ∀ p ∈ pins', s.heap.get? p.1 = some p.2 ∧ H p.1 = none ∧ p.1 ≠ X.env.locals ∧ p.1 ∉ X.fs ∧ ∀ v, p.2.data ≠ .cell v) : Inv X pins' σ H s :=
 ⟨I.ok, I.os, I.bare, I.base, I.loc, I.cell, I.free, I.freeC, fun p hp => (List.mem_append.mp hp).elim (fun z => I.pin p (List.mem_append_left _ z)) (h p), I.hok, I.len⟩
theorem nodup_ix {N : List Str} (hN : N.Nodup) {i j : Nat} {x : Str} (a : N[i]? = some x) (b : N[j]? = some x) : i = j := by
 obtain ⟨h1, e1⟩ := List.getElem?_eq_some_iff.mp a
 obtain ⟨h2, e2⟩ := List.getElem?_eq_some_iff.mp b
 exact (List.getElem_inj hN).mp (e1.trans e2.symm)
theorem store_ok2 {M : Model} {A : Around} {E : Value → Shared → Prop} {i : Nat} {x : Str} {v : V} {u : Value} {Q : Unit → Shared → Prop} (I : Inv X pins σ H s) (hN : X.N.Nodup) (hi : X.N[i]? = some x) (hx : Loc X.env.scope x) (r : RelV v u)
  (h : ∀ s', Inv X pins (σ.set i (some v)) H s' → (∃ a, Heap.SameBut a s.heap s'.heap ∧ (a = X.env.locals ∨ X.env.cells.lookup x = some a)) → Q () s') (hf : X.fn x = true ∨ X.env.scope.names.lookup x = some .local := by first | exact .inl rfl | exact .inr rfl | assumption) : wpAny M A (storeName X.env x u) Q E s := by
 obtain ⟨m, hn, hl⟩ := id I.loc
 have hcls : (X.env.scope.kind == .class || (X.env.scope.kind == .module && X.env.locals != X.env.globals)) = false := by rw [I.ok.kind]; rfl
 have hiσ : i < σ.length := by rw [I.len]; exact (List.getElem?_eq_some_iff.mp hi).1
 have cne := I.cne
 have tracked : ∀ {a : Addr} {h' : Heap}, (∃ o, s.heap.get? a = some o ∧ H a = none) → Heap.SameBut a s.heap h' → HOk X.prog X.w H h' := fun {a h'} ha hs b ob e => by
  obtain ⟨_, _, hfree⟩ := ha
  refine (I.hok b ob e).stay (fun c w' hc q => (hs.2 c ?_).trans q) (fun _ q => q) fun _ _ q => q
  rintro rfl
  rcases hc with rfl | hc
  ·rw [hfree] at e; cases e
  ·rw [hfree] at hc; cases hc
 rcases hx with hk | hk
 ·refine wpAny_storeName_local hk hn (fun h' hn' hs => ?_) hcls
  obtain ⟨oL, _, _, hoL, _⟩ := id hn
  refine h _ ⟨I.ok, I.os, I.bare, ⟨fun b o e n hb hx => ?_, fun b o e n hb hx => ?_, I.base.free, fun b o e hx => ?_, I.base.tups, I.base.frzs, I.base.tbls⟩, ⟨_, hn', fun j y v' e1 e2 e3 => ?_⟩, fun y c e => ?_, I.free, I.freeC, fun p hp => ?_, tracked ⟨oL, hoL, I.free⟩ hs, by simpa using I.len⟩ ⟨_, hs, .inl rfl⟩
  ·exact (hs.2 b (Nat.ne_of_lt (Nat.lt_of_lt_of_le (Heap.lt_size e) I.ok.above))).trans (I.base.keep b o e n hb hx)
  ·obtain ⟨sl, e1⟩ := I.base.slot b o e n hb hx
   exact ⟨sl, (hs.2 b (Nat.ne_of_lt (Nat.lt_of_lt_of_le (Heap.lt_size e) I.ok.above))).trans e1⟩
  ·obtain ⟨o', e1⟩ := I.base.there b o e hx
   exact ⟨o', (hs.2 b (Nat.ne_of_lt (Nat.lt_of_lt_of_le (Heap.lt_size e) I.ok.above))).trans e1⟩
  ·by_cases hj : j = i
   ·subst hj
    rw [hi] at e1; cases e1
    rw [List.getElem?_set_self hiσ] at e2
    cases e2
    exact ⟨u, r, .inl ⟨hk, by simp⟩⟩
   ·rw [List.getElem?_set_ne (Ne.symm hj)] at e2
    obtain ⟨u', r', q⟩ := hl j y v' e1 e2 e3
    refine ⟨u', r', ?_⟩
    rcases q with ⟨k, e⟩ | ⟨k, c, e, z⟩
    ·refine .inl ⟨k, ?_⟩
     have : y ≠ x := fun e => hj (nodup_ix hN e1 (e ▸ hi))
     simp [this, e]
    ·exact .inr ⟨k, c, e, z.sameBut hs (cne y c e)⟩
  ·obtain ⟨w', z⟩ := I.cell y c e
   exact ⟨w', z.sameBut hs (cne y c e)⟩
  ·obtain ⟨e, n, ne, nf, d⟩ := I.pin p hp
   exact ⟨(hs.2 p.1 ne).trans e, n, ne, nf, d⟩
 ·have hfn : X.fn x = true := by
   rcases hf with z | z
   ·exact z
   ·rw [z] at hk; cases hk
  obtain ⟨c, hc⟩ := I.ok.has x (.inl hk)
  obtain ⟨w', z⟩ := I.cell x c hc
  refine wpAny_storeName_cell I.ok.kind hk hc z (fun h' hc' hs => ?_)
  obtain ⟨oc, hoc, hocd⟩ := id z
  refine h { s with heap := h' } ⟨I.ok, I.os, I.bare, ⟨fun b o e n hb hx => ?_, fun b o e n hb hx => ?_, I.base.free, fun b o e hx => ?_, I.base.tups, I.base.frzs, I.base.tbls⟩, ⟨m, hn.sameBut hs (Ne.symm (cne x c hc)), fun j y v' e1 e2 e3 => ?_⟩, fun y c' e => ?_, I.free, I.freeC, fun p hp => ?_, tracked ⟨oc, hoc, I.freeC x c hc⟩ hs, by simpa using I.len⟩ ⟨c, hs, .inr hc⟩
  ·exact (hs.2 b (Nat.ne_of_lt (Nat.lt_of_lt_of_le (Heap.lt_size e) (I.ok.cab x c hfn hc)))).trans (I.base.keep b o e n hb hx)
  ·obtain ⟨sl, e1⟩ := I.base.slot b o e n hb hx
   exact ⟨sl, (hs.2 b (Nat.ne_of_lt (Nat.lt_of_lt_of_le (Heap.lt_size e) (I.ok.cab x c hfn hc)))).trans e1⟩
  ·obtain ⟨o', e1⟩ := I.base.there b o e hx
   exact ⟨o', (hs.2 b (Nat.ne_of_lt (Nat.lt_of_lt_of_le (Heap.lt_size e) (I.ok.cab x c hfn hc)))).trans e1⟩
  ·by_cases hj : j = i
   ·subst hj
    rw [hi] at e1; cases e1
    rw [List.getElem?_set_self hiσ] at e2
    cases e2
    exact ⟨u, r, .inr ⟨.inl hk, c, hc, hc'⟩⟩
   ·rw [List.getElem?_set_ne (Ne.symm hj)] at e2
    obtain ⟨u', r', q⟩ := hl j y v' e1 e2 e3
    refine ⟨u', r', ?_⟩
    rcases q with q | ⟨k, c', e, z'⟩
    ·exact .inl q
    ·refine .inr ⟨k, c', e, z'.sameBut hs ?_⟩
     rintro rfl
     exact hj (nodup_ix hN e1 (I.ok.inj _ _ _ e hc ▸ hi))
  ·by_cases hcc : c' = c
   ·subst hcc; exact ⟨_, hc'⟩
   ·obtain ⟨w2, z2⟩ := I.cell y c' e
    exact ⟨w2, z2.sameBut hs hcc⟩
  ·obtain ⟨e, n, ne, nf, d⟩ := I.pin p hp
   refine ⟨(hs.2 p.1 ?_).trans e, n, ne, nf, d⟩
   intro q
   rw [q, hoc] at e
   have q' : oc = p.2 := Option.some.inj e
   exact d w' (by rw [← q']; exact hocd)
theorem store_ok {M : Model} {A : Around} {E : Value → Shared → Prop} {i : Nat} {x : Str} {v : V} {u : Value} {Q : Unit → Shared → Prop} (I : Inv X pins σ H s) (hN : X.N.Nodup) (hi : X.N[i]? = some x) (hx : Loc X.env.scope x) (r : RelV v u)
  (h : ∀ s', Inv X pins (σ.set i (some v)) H s' → Q () s') (hf : X.fn x = true ∨ X.env.scope.names.lookup x = some .local := by first | exact .inl rfl | exact .inr rfl | assumption) : wpAny M A (storeName X.env x u) Q E s :=
 store_ok2 I hN hi hx r (fun s' I' _ => h s' I') hf
theorem Inv.call' {s' : Shared} {ch : List Addr} (I : Inv X pins σ H s) (ho : s'.os = s.os) (u : Un (frs X.stack) ch H H' s.heap s'.heap) (hok : HOk X.prog X.w H' s'.heap) (hg : AllBare s'.gens)
  (hch : ∀ b ∈ ch, (b ∈ X.ex ∨ X.s₀.heap.objs.size ≤ b) ∧ b ≠ X.env.locals ∧ (∀ x c, X.env.cells.lookup x = some c → c ≠ b) ∧ ∀ p ∈ X.pn ++ pins, p.1 ≠ b) : Inv X pins σ H' s' := by
 obtain ⟨h', g', d', t', o'⟩ := s'
 have e : o' = s.os := ho
 subst e
 exact I.call (g' := g') (t' := t') (d' := d') u hok hg hch
end
abbrev XK := Value → Option Addr → Hp → Prop
abbrev St := List (Option V)
abbrev VK := V → Hp → Prop
abbrev TE := St → Hp → VK → Prop
abbrev TT := St → Hp → (Bool → Hp → Prop) → Prop
abbrev TA := St → Hp → (List V → Hp → Prop) → Prop
structure Ends where
 nx : St → Hp → Prop
 rt : VK
 bk : St → Hp → Prop := fun _ _ => False
 ct : St → Hp → Prop := fun _ _ => False
abbrev TS := Ends → St → Hp → Prop
def EP (X : Cx) (pins : List (Addr × Obj)) (σ : St) (Q : VK) (u : Value) (s' : Shared) : Prop := ∃ v H', Inv X pins σ H' s' ∧ RelV v u ∧ Q v H'
def TP (X : Cx) (pins : List (Addr × Obj)) (σ : St) (Q : Bool → Hp → Prop) (b : Bool) (s' : Shared) : Prop := ∃ H', Inv X pins σ H' s' ∧ Q b H'
def AP (X : Cx) (pins : List (Addr × Obj)) (σ : St) (Q : List V → Hp → Prop) (us : List Value) (s' : Shared) : Prop := ∃ vs H', Inv X pins σ H' s' ∧ Vals vs us ∧ Q vs H'
def SP (X : Cx) (pins : List (Addr × Obj)) (D : Ends) (f : Flow) (s' : Shared) : Prop :=
 match f with
 | .next => ∃ σ' H', Inv X pins σ' H' s' ∧ D.nx σ' H'
 | .brk => ∃ σ' H', Inv X pins σ' H' s' ∧ D.bk σ' H'
 | .cont => ∃ σ' H', Inv X pins σ' H' s' ∧ D.ct σ' H'
 | .ret u => ∃ v σ' H', Inv X pins σ' H' s' ∧ RelV v u ∧ D.rt v H'
def PE (X : Cx) (e : Expr) (t : TE) : Prop :=
 ∀ (pins : List (Addr × Obj)) (s : Shared) (σ : St) (H : Hp) (Q : VK), Inv X pins σ H s → t σ H Q → wpAny (model X.prog X.w) X.A (eval e X.env) (EP X pins σ Q) X.xe s
def PT (X : Cx) (e : Expr) (t : TT) : Prop :=
 ∀ (pins : List (Addr × Obj)) (s : Shared) (σ : St) (H : Hp) (Q : Bool → Hp → Prop), Inv X pins σ H s → t σ H Q → wpAny (model X.prog X.w) X.A (isTrue e X.env (eval e X.env)) (TP X pins σ Q) X.xe s
def PW (X : Cx) (e : Expr) (t : TT) : Prop :=
 ∀ (whole : Sem Value) (pins : List (Addr × Obj)) (s : Shared) (σ : St) (H : Hp) (Q : Bool → Hp → Prop), Inv X pins σ H s → t σ H Q → wpAny (model X.prog X.w) X.A (isTrue e X.env whole) (TP X pins σ Q) X.xe s
theorem PW.pt {X : Cx} {e : Expr} {t : TT} (h : PW X e t) : PT X e t := h _
def PA (X : Cx) (es : List Expr) (t : TA) : Prop :=
 ∀ (pos : Pos) (pins : List (Addr × Obj)) (s : Shared) (σ : St) (H : Hp) (Q : List V → Hp → Prop), Inv X pins σ H s → t σ H Q → wpAny (model X.prog X.w) X.A (spliced (backTo pos (starEach es X.env))) (AP X pins σ Q) X.xe s
def PS (X : Cx) (st : Stmt) (t : TS) : Prop :=
 ∀ (pins : List (Addr × Obj)) (s : Shared) (σ : St) (H : Hp) (D : Ends), Inv X pins σ H s → t D σ H → wpAny (model X.prog X.w) X.A (exec st X.env) (SP X pins D) X.xe s
def PSs (X : Cx) (st : List Stmt) (t : TS) : Prop :=
 ∀ (pins : List (Addr × Obj)) (s : Shared) (σ : St) (H : Hp) (D : Ends), Inv X pins σ H s → t D σ H → wpAny (model X.prog X.w) X.A (execs st X.env) (SP X pins D) X.xe s
theorem thn {α : Type} {t : Sem α} {Q Q' : α → Shared → Prop} {M : Model} {A : Around} {E : Value → Shared → Prop} {s : Shared} (h : wpAny M A t Q E s) (hQ : ∀ a s, Q a s → Q' a s) : wpAny M A t Q' E s := wpAny_mono h hQ fun _ _ x => x
end L2
namespace L2
open PySem PySem.Spec PyProof.Rows
section
variable {X : Cx}
def tVar (i : Nat) : TE := fun σ H Q => ∃ v, σ[i]? = some (some v) ∧ Q v H
def tC (v : V) : TE := fun _ H Q => Q v H
theorem pe_var {i : Nat} {x : Str} {pos : Pos} (hN : X.N[i]? = some x) (hv : Vis X.env.scope x) (hd : (x == ("__debug__" : Str)) = false := by decide) (hcd : (x == ("__classdict__" : Str)) = false := by decide) : PE X (.Name x pos) (tVar i) := by
 intro pins s σ H Q I h
 obtain ⟨v, e, h⟩ := h
 obtain ⟨m, hn, hl⟩ := I.loc
 obtain ⟨u, r, l⟩ := hl i x v hN e hv
 have fin : EP X pins σ Q u s := ⟨v, H, I, r, h⟩
 rcases l with ⟨hk, hm⟩ | ⟨hk, c, hc, hcell⟩
 ·exact wpAny_Name (wpAny_loadName_local I.ok.kind hk hn hm fin) hd
 ·rcases hk with hk | hk
  ·exact wpAny_Name (wpAny_loadName_cell I.ok.kind hk hc hcell fin) hd
  ·exact wpAny_Name (wpAny_loadName_free I.ok.kind hk hc hcell fin hcd) hd
theorem pe_int {i j pos} : PE X (.Constant (.int i) j pos) (tC (.int i)) := fun _ _ _ H _ I h => wpAny_Constant_int ⟨.int i, H, I.tok _, ⟨_, rfl⟩, h⟩
theorem pe_bl {b j pos} : PE X (.Constant (.bool b) j pos) (tC (.bl b)) := fun _ _ _ H _ I h => Constant_bool ⟨.bl b, H, I, rfl, h⟩
theorem pe_non {j pos} : PE X (.Constant .none j pos) (tC .non) := fun _ _ _ H _ I h => Constant_none ⟨.non, H, I, rfl, h⟩
theorem pe_str {x j pos} : PE X (.Constant (.str x) j pos) (tC (.str x)) := fun _ _ _ H _ I h => Calls.Constant_str ⟨.str x, H, I.tok _, ⟨_, rfl⟩, h⟩
def Gl (X : Cx) (x : Str) : Prop := X.env.kindOf x = some .globalImplicit
theorem ld_glob {E : Value → Shared → Prop} {pins : List (Addr × Obj)} {s : Shared} {σ : St} {H : Hp} {x : Str} {u : Value} {pos : Pos} {Q : Value → Shared → Prop} (I : Inv X pins σ H s) (hg : Gl X x) (hm : X.mg x = some u) (h : Q u s)
  (hd : (x == ("__debug__" : Str)) = false := by decide) : wpAny (model X.prog X.w) X.A (eval (.Name x pos) X.env) Q E s :=
 Calls.Name_function_global I.ok.kind hg (Calls.loadGlobal_global (by rw [I.ok.glob]; exact I.mod.glob.keeps I.bk) hm h) hd
theorem ld_blt {E : Value → Shared → Prop} {pins : List (Addr × Obj)} {s : Shared} {σ : St} {H : Hp} {x : Str} {u : Value} {pos : Pos} {Q : Value → Shared → Prop} (I : Inv X pins σ H s) (hg : Gl X x) (hm : X.mg x = none) (hv : bootBuiltins x = some u) (h : Q u s)
  (hn : x ≠ "__name__" := by decide) (hd : (x == ("__debug__" : Str)) = false := by decide) : wpAny (model X.prog X.w) X.A (eval (.Name x pos) X.env) Q E s := by
 obtain ⟨mb, h1, h2⟩ := I.mod.blt
 exact Calls.Name_function_global I.ok.kind hg (Calls.loadGlobal_builtin (by rw [I.ok.glob]; exact I.mod.glob.keeps I.bk) hm (by rw [I.ok.blt]; exact h1.keeps I.bk) ((h2 x hn).trans hv) h) hd
theorem pe_glob {x : Str} {v : V} {u : Value} {pos : Pos} (hg : Gl X x) (hm : X.mg x = some u) (r : RelV v u) (hd : (x == ("__debug__" : Str)) = false := by decide) : PE X (.Name x pos) (tC v) :=
 fun _ _ _ H _ I h => ld_glob I hg hm ⟨v, H, I, r, h⟩ hd
theorem pe_bltn {x : Str} {v : V} {u : Value} {pos : Pos} (hg : Gl X x) (hm : X.mg x = none) (hv : bootBuiltins x = some u) (r : RelV v u) (hn : x ≠ "__name__" := by decide) (hd : (x == ("__debug__" : Str)) = false := by decide) : PE X (.Name x pos) (tC v) :=
 fun _ _ _ H _ I h => ld_blt I hg hm hv ⟨v, H, I, r, h⟩ hn hd
variable {a b : Expr} {ta tb : TE} {pos : Pos}
variable {tA tB' : TT} {rest : List Expr}
def tAnd (t u : TT) : TT := fun σ H Q => t σ H fun c H1 => if c = true then u σ H1 Q else Q false H1
def tOr (t u : TT) : TT := fun σ H Q => t σ H fun c H1 => if c = true then Q true H1 else u σ H1 Q
def tNot (t : TT) : TT := fun σ H Q => t σ H fun c H1 => Q (!c) H1
theorem pw_and1 (ha : PT X a tA) : PW X (.BoolOp .And [a] pos) tA := by
 intro wh pins s σ H Q I h
 refine isTrue_and (thn (ha pins s σ H Q I h) fun c s1 e => ?_)
 cases c with
 | true => exact isTrue_and_nil e
 | false => exact e
theorem pw_or1 (ha : PT X a tA) : PW X (.BoolOp .Or [a] pos) tA := by
 intro wh pins s σ H Q I h
 refine isTrue_or (thn (ha pins s σ H Q I h) fun c s1 e => ?_)
 cases c with
 | false => exact isTrue_or_nil e
 | true => exact e
theorem pw_and (ha : PT X a tA) (hb : PW X (.BoolOp .And (b :: rest) pos) tB') : PW X (.BoolOp .And (a :: b :: rest) pos) (tAnd tA tB') := by
 intro wh pins s σ H Q I h
 refine isTrue_and (thn (ha pins s σ H _ I h) fun c s1 ⟨H1, I1, q1⟩ => ?_)
 cases c with
 | true => exact hb wh pins s1 σ H1 Q I1 q1
 | false => exact ⟨H1, I1, q1⟩
theorem pw_or (ha : PT X a tA) (hb : PW X (.BoolOp .Or (b :: rest) pos) tB') : PW X (.BoolOp .Or (a :: b :: rest) pos) (tOr tA tB') := by
 intro wh pins s σ H Q I h
 refine isTrue_or (thn (ha pins s σ H _ I h) fun c s1 ⟨H1, I1, q1⟩ => ?_)
 cases c with
 | true => exact ⟨H1, I1, q1⟩
 | false => exact hb wh pins s1 σ H1 Q I1 q1
theorem pt_not (ha : PT X a tA) : PT X (.UnaryOp .Not a pos) (tNot tA) := by
 intro pins s σ H Q I h
 exact isTrue_not (ha pins s σ H (fun c H1 => Q (!c) H1) I h)
def tAndV (ta tb : TE) : TE := fun σ H Q => ta σ H fun x H1 => ∃ c, x = .bl c ∧ if c = true then tb σ H1 Q else Q (.bl false) H1
def tNotV (ta : TE) : TE := fun σ H Q => ta σ H fun x H1 => ∃ c, x = .bl c ∧ Q (.bl (!c)) H1
theorem pe_one {op} {t : TE} (h : PE X a t) : PE X (.BoolOp op [a] pos) t := fun pins s σ H Q I hw => BoolOp_one (h pins s σ H Q I hw)
theorem pe_and (ha : PE X a ta) (hb : PE X (.BoolOp .And (b :: rest) pos) tb) : PE X (.BoolOp .And (a :: b :: rest) pos) (tAndV ta tb) := by
 intro pins s σ H Q I h
 refine BoolOp_and (thn (ha pins s σ H _ I h) fun v s1 ⟨x, H1, I1, r1, q1⟩ => ?_)
 obtain ⟨c, rfl, q1⟩ := q1
 cases r1
 refine wpAny_truthy_bool ?_
 cases c with
 | true => exact hb pins s1 σ H1 Q I1 q1
 | false => exact ⟨.bl false, H1, I1, rfl, q1⟩
theorem pe_not (ha : PE X a ta) : PE X (.UnaryOp .Not a pos) (tNotV ta) := by
 intro pins s σ H Q I h
 refine UnaryOp_ (thn (ha pins s σ H _ I h) fun v s1 ⟨x, H1, I1, r1, q1⟩ => ?_)
 obtain ⟨c, rfl, q1⟩ := q1
 cases r1
 exact not_of (wpAny_truthy_bool ⟨.bl (!c), H1, I1, rfl, q1⟩)
def tIf (t : TT) (ta tb : TE) : TE := fun σ H Q => t σ H fun c H1 => if c = true then ta σ H1 Q else tb σ H1 Q
theorem pe_ifExp {c : Expr} (hc : PT X c tA) (ha : PE X a ta) (hb : PE X b tb) : PE X (.IfExp c a b pos) (tIf tA ta tb) := by
 intro pins s σ H Q I h
 refine wpAny_IfExp (thn (hc pins s σ H _ I h) fun d s1 ⟨H1, I1, q1⟩ => ?_)
 cases d with
 | true => exact ha pins s1 σ H1 Q I1 q1
 | false => exact hb pins s1 σ H1 Q I1 q1
end
end L2
namespace L2
open PySem PySem.Spec PyProof.Rows
def SqL (K : PySem.W.Frag) (H : Hp) (a : Addr) (xs : List V) : Prop :=
 Rd H a (.lst xs) ∨
  ∃ (o : Obj) (its : Array Value) (n : Nat), K.lookup a = some o ∧ o.cls = .type "list" ∧ o.dict = none ∧ o.data = .seq its n ∧ its.size ≤ sizeLine ∧ Vals xs its.toList
def SqT (K : PySem.W.Frag) (H : Hp) (a : Addr) (xs : List V) : Prop :=
 Rd H a (.tup xs) ∨
  ∃ (o : Obj) (its : Array Value) (n : Nat), K.lookup a = some o ∧ o.cls = .type "tuple" ∧ o.data = .seq its n ∧ its.size ≤ sizeLine ∧ Vals xs its.toList
def absV : Value → Option V
 | .none => some .non
 | .bool b => some (.bl b)
 | .int i _ => some (.int i)
 | .str x _ => some (.str x)
 | .bytes b _ => some (.byt b)
 | .float b _ => some (.flt b)
 | .ref a => some (.ref a)
 | .type n => some (.ty n)
 | _ => none
theorem RelV.abs {x : V} {u : Value} (r : RelV x u) : absV u = some x := by
 cases x with
 | non => cases r; rfl
 | bl _ => cases r; rfl
 | int _ => obtain ⟨t, rfl⟩ := r; rfl
 | str _ => obtain ⟨t, rfl⟩ := r; rfl
 | byt _ => obtain ⟨t, rfl⟩ := r; rfl
 | flt _ => obtain ⟨t, rfl⟩ := r; rfl
 | ref _ => cases r; rfl
 | ty _ => cases r; rfl
theorem RelV.inj {x y : V} {u : Value} (r : RelV x u) (q : RelV y u) : x = y := Option.some.inj (r.abs.symm.trans q.abs)
theorem Vals.inj : ∀ {xs ys : List V} {us : List Value}, Vals xs us → Vals ys us → xs = ys
 | _, _, _, .nil, .nil => rfl
 | _, _, _, .cons r t, .cons r' t' => by rw [r.inj r', Vals.inj t t']
section
variable {X : Cx} {pins : List (Addr × Obj)} {σ : St} {H : Hp} {s : Shared} {a : Addr} {xs ys : List V}
theorem SqL.of {K : PySem.W.Frag} (h : H a = some (.lst xs)) : SqL K H a xs := .inl (.inl h)
theorem SqT.of {K : PySem.W.Frag} (h : H a = some (.tup xs)) : SqT K H a xs := .inl (.inl h)
theorem Inv.list (I : Inv X pins σ H s) (h : SqL X.K H a xs) : ∃ its : List Value, Vals xs its ∧ PlainL s.heap a its.toArray ∧ xs.length ≤ sizeLine := by
 rcases h with h | ⟨o, its, n, hk, hc, hd, hs, hz, r⟩
 ·obtain ⟨z, its, n, r, e⟩ := h.ok I.hok
  exact ⟨its, r, ⟨_, n, e, rfl, rfl, rfl⟩, z⟩
 ·refine ⟨its.toList, r, ⟨o, n, I.kIn a o hk, hc, hd, by simpa using hs⟩, ?_⟩
  have e := r.length
  simp only [Array.length_toList] at e
  omega
theorem Inv.tuple (I : Inv X pins σ H s) (h : SqT X.K H a xs) : ∃ its : List Value, Vals xs its ∧ IsTup s.heap a its.toArray ∧ xs.length ≤ sizeLine := by
 rcases h with h | ⟨o, its, n, hk, hc, hs, hz, r⟩
 ·obtain ⟨z, its, r, p⟩ := h.ok I.hok
  exact ⟨its, r, p, z⟩
 ·refine ⟨its.toList, r, ⟨o, I.kIn a o hk, hc, n, by simpa using hs⟩, ?_⟩
  have e := r.length
  simp only [Array.length_toList] at e
  omega
theorem Inv.list_inj (I : Inv X pins σ H s) (h : SqL X.K H a xs) (h' : SqL X.K H a ys) : xs = ys := by
 obtain ⟨its, r, ⟨o, n, e, _, _, d⟩, _⟩ := I.list h
 obtain ⟨its', r', ⟨o', n', e', _, _, d'⟩, _⟩ := I.list h'
 rw [e] at e'; cases e'
 rw [d] at d'
 injection d' with d1 _
 have : its = its' := by simpa using congrArg Array.toList d1
 subst this
 exact r.inj r'
theorem Inv.tuple_inj (I : Inv X pins σ H s) (h : SqT X.K H a xs) (h' : SqT X.K H a ys) : xs = ys := by
 obtain ⟨its, r, ⟨o, e, _, n, d⟩, _⟩ := I.tuple h
 obtain ⟨its', r', ⟨o', e', _, n', d'⟩, _⟩ := I.tuple h'
 rw [e] at e'; cases e'
 rw [d] at d'
 injection d' with d1 _
 have : its = its' := by simpa using congrArg Array.toList d1
 subst this
 exact r.inj r'
end
abbrev Cx.wish (X : Cx) (E : Value → Shared → Prop) : Cx := { X with xe := E }
abbrev Cx.nox (X : Cx) : Cx := X.wish fun _ _ => False
theorem Cx.Ok.wish {X : Cx} (ok : X.Ok) (E : Value → Shared → Prop) : (X.wish E).Ok :=
 ⟨ok.mod, ok.kind, ok.glob, ok.blt, ok.above, ok.inj, ok.has, ok.cab, ok.hd, ok.frames, ok.stk, ok.exf, ok.bs, ok.bsz, ok.noex, ok.exfs, ok.funs, ok.frf⟩
theorem Cx.Ok.unwish {X : Cx} {E : Value → Shared → Prop} (ok : (X.wish E).Ok) : X.Ok :=
 ⟨ok.mod, ok.kind, ok.glob, ok.blt, ok.above, ok.inj, ok.has, ok.cab, ok.hd, ok.frames, ok.stk, ok.exf, ok.bs, ok.bsz, ok.noex, ok.exfs, ok.funs, ok.frf⟩
section
variable {X : Cx} {pins : List (Addr × Obj)} {σ : St} {H : Hp} {s : Shared} {E : Value → Shared → Prop}
theorem Inv.wish (I : Inv X pins σ H s) (E : Value → Shared → Prop) : Inv (X.wish E) pins σ H s := ⟨I.ok.wish E, I.os, I.bare, I.base, I.loc, I.cell, I.free, I.freeC, I.pin, I.hok, I.len⟩
theorem Inv.unwish (I : Inv (X.wish E) pins σ H s) : Inv X pins σ H s := ⟨I.ok.unwish, I.os, I.bare, I.base, I.loc, I.cell, I.free, I.freeC, I.pin, I.hok, I.len⟩
theorem SP.unwish {D : Ends} {f : Flow} {s' : Shared} (h : SP (X.wish E) pins D f s') : SP X pins D f s' := by
 cases f with
 | next => obtain ⟨σ', H', I, q⟩ := h; exact ⟨σ', H', I.unwish, q⟩
 | brk => obtain ⟨σ', H', I, q⟩ := h; exact ⟨σ', H', I.unwish, q⟩
 | cont => obtain ⟨σ', H', I, q⟩ := h; exact ⟨σ', H', I.unwish, q⟩
 | ret u => obtain ⟨v, σ', H', I, r, q⟩ := h; exact ⟨v, σ', H', I.unwish, r, q⟩
theorem PSs.nox {st : List Stmt} {t : TS} (h : PSs X.nox st t) : PSs X st t := fun pins s σ H D I hw =>
 wpAny_mono (h pins s σ H D (I.wish _) hw) (fun _ _ q => q.unwish) fun _ _ z => False.elim z
end
section
variable {X : Cx} {st : Stmt} {rest : List Stmt} {t u : TS} {e : Expr} {te : TE} {pos : Pos}
def tNext : TS := fun D σ H => D.nx σ H
def tSeq (t u : TS) : TS := fun D σ H => t { D with nx := u D } σ H
theorem pss_nil : PSs X [] tNext := fun _ _ σ H _ I h => wpAny_execs_nil ⟨σ, H, I, h⟩
theorem pss_cons (h1 : PS X st t) (h2 : PSs X rest u) : PSs X (st :: rest) (tSeq t u) := by
 intro pins s σ H D I h
 refine wpAny_execs_cons (thn (h1 pins s σ H { D with nx := u D } I h) fun f s1 q => ?_)
 cases f with
 | next =>
  obtain ⟨σ', H', I', q⟩ := q
  exact h2 pins s1 σ' H' D I' q
 | ret v => exact q
 | brk => exact q
 | cont => exact q
theorem pss_one (h1 : PS X st t) : PSs X [st] t := by
 intro pins s σ H D I h
 refine wpAny_execs_cons (thn (h1 pins s σ H D I h) fun f s1 q => ?_)
 cases f with
 | next => exact wpAny_execs_nil q
 | ret v => exact q
 | brk => exact q
 | cont => exact q
def tBreak : TS := fun D σ H => D.bk σ H
theorem ps_break : PS X (.Break pos) tBreak := fun _ _ σ H _ I h => wpAny_Break ⟨σ, H, I, h⟩
theorem Inv.quiet {pins : List (Addr × Obj)} {σ : St} {H : Hp} {s : Shared} (I : Inv X pins σ H s) : interactive X.env = false := by simp [interactive, I.ok.kind]
def tDrop (te : TE) : TS := fun D σ H => te σ H fun _ H1 => D.nx σ H1
theorem ps_expr (he : PE X e te) (hs : swapsWith e none pos.line X.env = pure false := by rfl) : PS X (.Expr e pos) (tDrop te) := by
 intro pins s σ H D I h
 exact wpAny_Expr_any (thn (he pins s σ H _ I h) fun v s1 ⟨x, H1, I1, r1, q1⟩ => ⟨σ, H1, I1, q1⟩) I.quiet hs
def tRet (te : TE) : TS := fun D σ H => te σ H D.rt
theorem ps_ret (he : PE X e te) : PS X (.Return (some e) pos) (tRet te) := by
 intro pins s σ H D I h
 exact wpAny_Return_some (thn (he pins s σ H _ I h) fun v s1 ⟨x, H1, I1, r1, q1⟩ => ⟨x, σ, H1, I1, r1, q1⟩)
def tIfS (c : TT) (t u : TS) : TS := fun D σ H => c σ H fun b H1 => if b = true then t D σ H1 else u D σ H1
theorem ps_if {c : Expr} {a b : List Stmt} {tc : TT} (hc : PT X c tc) (ha : PSs X a t) (hb : PSs X b u) : PS X (.If c a b pos) (tIfS tc t u) := by
 intro pins s σ H D I h
 refine wpAny_If (thn (hc pins s σ H _ I h) fun d s1 ⟨H1, I1, q1⟩ => ?_)
 cases d with
 | true => exact ha pins s1 σ H1 D I1 q1
 | false => exact hb pins s1 σ H1 D I1 q1
def tNever : TS := fun _ _ _ => False
theorem ps_never : PS X st tNever := fun _ _ _ _ _ _ h => h.elim
end
abbrev TG := V → St → Hp → (St → Hp → Prop) → Prop
abbrev TGs := List V → St → Hp → (St → Hp → Prop) → Prop
def PG (X : Cx) (target : Expr) (t : TG) : Prop :=
 ∀ (pins : List (Addr × Obj)) (s : Shared) (σ : St) (H : Hp) (v : V) (u : Value) (Q : St → Hp → Prop), Inv X pins σ H s → RelV v u → t v σ H Q →
  wpAny (model X.prog X.w) X.A (assign target X.env u) (fun _ s' => ∃ σ' H', Inv X pins σ' H' s' ∧ Q σ' H') X.xe s
def PGs (X : Cx) (ts : List Expr) (t : TGs) : Prop :=
 ∀ (pins : List (Addr × Obj)) (s : Shared) (σ : St) (H : Hp) (vs : List V) (us : List Value) (Q : St → Hp → Prop), Inv X pins σ H s → Vals vs us → t vs σ H Q →
  wpAny (model X.prog X.w) X.A (assignInOrder ((assignEach ts X.env).map (·.2)) us) (fun _ s' => ∃ σ' H', Inv X pins σ' H' s' ∧ Q σ' H') X.xe s
abbrev TSet := V → V → V → Hp → (Hp → Prop) → Prop
def PSet (X : Cx) (t : TSet) : Prop :=
 ∀ (pins : List (Addr × Obj)) (s : Shared) (σ : St) (H : Hp) (o i v : V) (ov iv u : Value) (Q : Hp → Prop), Inv X pins σ H s → RelV o ov → RelV i iv → RelV v u → t o i v H Q →
  wpAny (model X.prog X.w) X.A (setItem ov iv u) (fun _ s' => ∃ H', Inv X pins σ H' s' ∧ Q H') X.xe s
section
variable {X : Cx} {pos : Pos}
def gName (i : Nat) : TG := fun v σ H Q => Q (σ.set i (some v)) H
theorem pg_name {i : Nat} {x : Str} (hN : X.N.Nodup) (hi : X.N[i]? = some x) (hx : Loc X.env.scope x) (hf : X.fn x = true ∨ X.env.scope.names.lookup x = some .local := by first | exact .inl rfl | exact .inr rfl | assumption) : PG X (.Name x pos) (gName i) := by
 intro pins s σ H v u Q I r h
 exact wpAny_assign_Name (store_ok I hN hi hx r (fun s' I' => ⟨_, H, I', h⟩) hf)
def gNil : TGs := fun vs σ H Q => vs = [] ∧ Q σ H
def gCons (t : TG) (u : TGs) : TGs := fun vs σ H Q => ∃ v r, vs = v :: r ∧ t v σ H fun σ' H' => u r σ' H' Q
theorem pgs_nil : PGs X [] gNil := by
 intro pins s σ H vs us Q I r h
 obtain ⟨e, h⟩ := h
 subst e
 cases r
 exact assignInOrder_nil ⟨σ, H, I, h⟩
theorem pgs_cons {e : Expr} {es : List Expr} {t : TG} {u : TGs} (h1 : PG X e t) (h2 : PGs X es u)
  (hs : (assignEach (e :: es) X.env).map (·.2) = assign e X.env :: (assignEach es X.env).map (·.2) := by rfl) : PGs X (e :: es) (gCons t u) := by
 intro pins s σ H vs us Q I r h
 obtain ⟨v, vr, e1, h⟩ := h
 subst e1
 cases r with
 | cons r rr =>
  rw [hs]
  refine assignInOrder_cons (thn (h1 pins s σ H _ _ _ I r h) fun _ s1 ⟨σ1, H1, I1, q1⟩ => ?_)
  exact h2 pins s1 σ1 H1 _ _ Q I1 rr q1
def gTup (K : PySem.W.Frag) (n : Nat) (t : TGs) : TG := fun v σ H Q => ∃ a xs, v = .ref a ∧ SqT K H a xs ∧ xs.length = n ∧ t xs σ H Q
theorem pg_tup {es : List Expr} {k : Nat} {t : TGs} {n : Nat} (hc : X.calm = true) (h : PGs X es t)
  (hn : (assignEach es X.env).length = n := by rfl) (hst : (assignEach es X.env).findIdx? (·.1) = none := by rfl) : PG X (.Tuple es k pos) (gTup X.K n t) := by
 intro pins s σ H v u Q I r hw
 obtain ⟨a, xs, e1, hq, hl, hw⟩ := hw
 subst e1
 cases r
 obtain ⟨its, rv, ht, hz⟩ := I.tuple hq
 refine assign_Tuple_tuple (I.ok.hd hc) ht (by simp [hn, ← hl, rv.length]) hst fun h' hx => ?_
 have I1 : Inv X pins σ H { s with heap := h' } := I.kept (t' := s.toks) fun b o e => hx b o (Nat.ne_of_lt (Heap.lt_size e)) e
 exact h pins _ σ H xs _ Q I1 (by simpa using rv) hw
def gSub (to ti : TE) (t : TSet) : TG := fun v σ H Q => to σ H fun o H1 => ti σ H1 fun i H2 => t o i v H2 fun H3 => Q σ H3
theorem pg_sub {o i : Expr} {to ti : TE} {t : TSet} (ho : PE X o to) (hi : PE X i ti) (hs : PSet X t)
  (ha : ∀ v, assign (.Subscript o i pos) X.env v = (do
   let ov ← holding [v] (eval o X.env)
   let iv ← holding [v, ov] (eval i X.env)
   standAt pos
   holding [v, ov, iv] (setItem ov iv v)
   release [v, ov, iv] []) := by intro _; rfl) : PG X (.Subscript o i pos) (gSub to ti t) := by
 intro pins s σ H v u Q I r h
 rw [ha]
 refine wpAny_bind (wpAny_holding (thn (ho pins s σ H _ I h) fun ov s1 ⟨x, H1, I1, r1, q1⟩ => ?_))
 refine wpAny_bind (wpAny_holding (thn (hi pins s1 σ H1 _ I1 q1) fun iv s2 ⟨y, H2, I2, r2, q2⟩ => ?_))
 refine wpAny_bind (wpAny_standAt (wpAny_bind (wpAny_holding (thn (hs pins s2 σ H2 x y v ov iv u _ I2 r1 r2 r q2) fun _ s3 ⟨H3, I3, q3⟩ => ?_))))
 exact wpAny_release ⟨σ, H3, I3, q3⟩
def tAsg (te : TE) (g : TG) : TS := fun D σ H => te σ H fun x H1 => g x σ H1 D.nx
theorem ps_asg {tg e : Expr} {te : TE} {g : TG} (he : PE X e te) (hg : PG X tg g) (hs : swapsWithSole [tg] e pos.line X.env = pure false := by rfl) (hw : swappedStores [tg] e X.env = pure none := by rfl)
  (h1 : (assignEach [tg] X.env).map (·.2) = [assign tg X.env] := by rfl) : PS X (.Assign [tg] e pos) (tAsg te g) := by
 intro pins s σ H D I h
 refine wpAny_Assign_stores (thn (he pins s σ H _ I h) fun v s1 ⟨x, H1, I1, r1, q1⟩ => ?_) hs hw
 rw [h1]
 exact thn (hg pins s1 σ H1 x v _ I1 r1 q1) fun _ s2 q => q
theorem ps_set {i : Nat} {x : Str} {e : Expr} {te : TE} {pos' : Pos} (hN : X.N.Nodup) (hi : X.N[i]? = some x) (hx : Loc X.env.scope x) (he : PE X e te) (hs : swapsWith e (some (.Name x pos')) pos.line X.env = pure false := by rfl) (hf : X.fn x = true ∨ X.env.scope.names.lookup x = some .local := by first | exact .inl rfl | exact .inr rfl | assumption) :
  PS X (.Assign [.Name x pos'] e pos) (tAsg te (gName i)) := by
 intro pins s σ H D I h
 refine wpAny_Assign_Name (thn (he pins s σ H _ I h) fun v s1 ⟨y, H1, I1, r1, q1⟩ => ?_) hs
 exact store_ok I1 hN hi hx r1 (fun s2 I2 => ⟨_, H1, I2, q1⟩) hf
end
section
variable {X : Cx} {pos : Pos}
def tWhile (c : TT) (tb : TS) : TS := fun D σ H => ∃ W : Nat → St → Hp → Prop, (∃ m, W m σ H) ∧ ∀ m σ H, W m σ H →
 c σ H fun b H1 => if b = true then ∃ N : St → Hp → Prop, (∀ σ' H', N σ' H' → ∃ m', m' < m ∧ W m' σ' H') ∧ tb { D with nx := N, ct := N, bk := D.nx } σ H1 else D.nx σ H1
theorem ps_while {c : Expr} {body : List Stmt} {tc : TT} {tb : TS} (hp : PassesOwn (model X.prog X.w) X.A X.env X.xe) (hc : PT X c tc) (hb : PSs X body tb) : PS X (.While c body [] pos) (tWhile tc tb) := by
 intro pins s σ H D I h
 obtain ⟨W, ⟨m0, w0⟩, turn⟩ := h
 refine wpAny_While (codeAny_whileLoop (fun n s' => ∃ σ' H', Inv X pins σ' H' s' ∧ W n σ' H') ?_ m0 ⟨σ, H, I, w0⟩)
 rintro n s1 ⟨σ1, H1, I1, w1⟩
 refine wpAny_passesOwn hp (thn (hc pins s1 σ1 H1 _ I1 (turn n σ1 H1 w1)) fun b s2 ⟨H2, I2, q2⟩ => ?_)
 cases b with
 | true =>
  obtain ⟨N, hN, q2⟩ := q2
  rw [if_pos rfl]
  refine wpAny_passesOwn hp (thn (hb pins s2 σ1 H2 _ I2 q2) fun f s3 q3 => ?_)
  cases f with
  | next =>
   obtain ⟨σ3, H3, I3, n3⟩ := q3
   obtain ⟨m', hm, w3⟩ := hN σ3 H3 n3
   exact ⟨m', hm, σ3, H3, I3, w3⟩
  | cont =>
   obtain ⟨σ3, H3, I3, n3⟩ := q3
   obtain ⟨m', hm, w3⟩ := hN σ3 H3 n3
   exact ⟨m', hm, σ3, H3, I3, w3⟩
  | brk => exact q3
  | ret v => exact q3
 | false =>
  rw [if_neg Bool.false_ne_true]
  exact wpAny_execs_nil ⟨σ1, H2, I2, q2⟩
end
structure It where
 go : Nat → Hp → Prop
 yld : Nat → Hp → V → Hp → Prop
 stop : Nat → Hp → Prop
def FpOk (X : Cx) (pins : List (Addr × Obj)) (H : Hp) (b : Addr) : Prop :=
 H b = none ∧ b ≠ X.env.locals ∧ b ∉ X.fs ∧ (b ∈ X.ex ∨ X.s₀.heap.objs.size ≤ b) ∧ (∀ x c, X.env.cells.lookup x = some c → c ≠ b) ∧ ∀ p ∈ X.pn ++ pins, p.1 ≠ b
theorem Inv.fpOk {X : Cx} {pins : List (Addr × Obj)} {σ : St} {H H' : Hp} {s : Shared} {b : Addr} (I : Inv X pins σ H s) (hb : s.heap.objs.size ≤ b) (hn : H' b = none) : FpOk X pins H' b := by
 refine ⟨hn, Nat.ne_of_gt (Nat.lt_of_lt_of_le I.lt hb), I.nofs hb, .inr (Nat.le_trans I.sz hb), fun x c e z => ?_, fun p hp z => ?_⟩
 ·obtain ⟨v, q⟩ := I.cell x c e
  exact absurd (Nat.lt_of_lt_of_le q.lt (by rw [z]; exact hb)) (Nat.lt_irrefl _)
 ·exact absurd (Nat.lt_of_lt_of_le (Heap.lt_size (I.pin p hp).1) (by rw [z]; exact hb)) (Nat.lt_irrefl _)
structure Turn (P : Program) (w : World) (K : PySem.W.Frag) (tg : Expr) (J : It) (fp : List Addr) (it : Addr) (tn : Nat → Heap → Prop) : Prop where
 mem : it ∈ fp
 obj : ∀ i h, tn i h → ∀ b ∈ fp, ∃ o, h.get? b = some o ∧ ∀ v, o.data ≠ .cell v
 keep : ∀ i h h', tn i h → (∀ b ∈ fp, ∀ o, h.get? b = some o → h'.get? b = some o) → tn i h'
 item : ∀ (X : Cx), X.prog = P → X.w = w → X.K = K → X.calm = true → ∀ (i : Nat) (pins : List (Addr × Obj)) (s : Shared) (σ : St) (H : Hp) (E : Value → Shared → Prop), Inv X pins σ H s → (∀ b ∈ fp, FpOk X pins H b) → tn i s.heap → J.go i H →
  wpAny (model P w) X.A (pyNext (.ref it)) (fun r s1 => ∃ u, r = some u ∧
   wpAny (model P w) X.A (letOwnedTupleGo tg (.ref it) u) (fun _ s2 => ∃ x H', Inv X pins σ H' s2 ∧ RelV x u ∧ J.yld i H x H' ∧ tn (i + 1) s2.heap ∧ ∀ b ∈ fp, H' b = none) E s1) E s
 done : ∀ (X : Cx), X.prog = P → X.w = w → X.K = K → X.calm = true → ∀ (i : Nat) (pins : List (Addr × Obj)) (s : Shared) (σ : St) (H : Hp) (E : Value → Shared → Prop), Inv X pins σ H s → (∀ b ∈ fp, FpOk X pins H b) → tn i s.heap → J.stop i H →
  wpAny (model P w) X.A (pyNext (.ref it)) (fun r s1 => r = none ∧ Inv X pins σ H s1) E s
 self : ∀ (A : Around) (i : Nat) (s : Shared) (Q : Value → Shared → Prop) (E : Value → Shared → Prop), tn i s.heap → Q (.ref it) s → wpAny (model P w) A (pyIter (.ref it)) Q E s
abbrev TI := St → Hp → (It → Hp → Prop) → Prop
def PIE (X : Cx) (pins : List (Addr × Obj)) (σ : St) (tg : Expr) (R : It → Hp → Prop) (itv : Value) (s2 : Shared) : Prop :=
 ∃ (it : Addr) (fp : List Addr) (tn : Nat → Heap → Prop) (J : It) (H' : Hp), itv = .ref it ∧ Inv X pins σ H' s2 ∧ Turn X.prog X.w X.K tg J fp it tn ∧ tn 0 s2.heap ∧ (∀ b ∈ fp, FpOk X pins H' b) ∧ R J H'
def PI (X : Cx) (tg iter : Expr) (wi : TI) : Prop :=
 ∀ (pins : List (Addr × Obj)) (s : Shared) (σ : St) (H : Hp) (R : It → Hp → Prop), Inv X pins σ H s → wi σ H R →
  wpAny (model X.prog X.w) X.A (eval iter X.env) (fun v s1 => wpAny (model X.prog X.w) X.A (pyIter v) (PIE X pins σ tg R) X.xe s1) X.xe s
theorem go_of {M : Model} {A : Around} {E : Value → Shared → Prop} {s : Shared} {tg : Expr} {it : Addr} {u : Value} {o : Obj} {n : String} {vs : Array Value} {Q : Unit → Shared → Prop} (ho : s.heap.get? it = some o) (hc : o.cls = .type n) (hd : o.data = .fields vs)
    (hn : ["enumerate", "zip", "dict_itemiterator", "dict_reverseitemiterator", "odict_iterator", "itertools.zip_longest", "itertools.pairwise"].contains n = false) (hQ : Q () s) : wpAny M A (letOwnedTupleGo tg (.ref it) u) Q E s := by
  unfold letOwnedTupleGo
  cases tg <;> first
    | exact wpAny_pure hQ
    | (cases u <;> first
        | exact wpAny_pure hQ
        | (refine wpAny_bind (wpAny_load ho ?_)
           rw [hc, hd]
           show wpAny M A (if (["enumerate", "zip", "dict_itemiterator", "dict_reverseitemiterator", "odict_iterator", "itertools.zip_longest", "itertools.pairwise"].contains n && vs[0]? == some (rawInt _)) = true then _ else _) Q E s
           rw [if_neg (by intro h; rw [hn, Bool.false_and] at h; cases h)]
           exact wpAny_pure hQ))
def Itl (K : PySem.W.Frag) (a : Addr) : It :=
 ⟨fun i H => ∃ xs x, SqL K H a xs ∧ xs[i]? = some x, fun i H x H' => H' = H ∧ ∀ xs, SqL K H a xs → xs[i]? = some x, fun i H => ∃ xs, SqL K H a xs ∧ xs.length ≤ i⟩
def Itt (K : PySem.W.Frag) (a : Addr) : It :=
 ⟨fun i H => ∃ xs x, SqT K H a xs ∧ xs[i]? = some x, fun i H x H' => H' = H ∧ ∀ xs, SqT K H a xs → xs[i]? = some x, fun i H => ∃ xs, SqT K H a xs ∧ xs.length ≤ i⟩
def Itr (lo : Int) (n : Nat) : It := ⟨fun i _ => i < n, fun i H x H' => H' = H ∧ x = .int (lo + i), fun i _ => n ≤ i⟩
theorem turn_list {P : Program} {w : World} {K : PySem.W.Frag} {tg : Expr} (a it : Addr) : Turn P w K tg (Itl K a) [it] it (fun i h => h.IsListIter it a i) where
 mem := by simp
 obj := fun i h st b hb => by
  have e : b = it := by simpa using hb
  subst e
  obtain ⟨o, e, c, d⟩ := st
  exact ⟨o, e, fun v z => by rw [d] at z; cases z⟩
 keep := fun i h h' st k => st.at fun o e => k it (by simp) o e
 item := by
  intro X hP hw hK hc i pins s σ H E I hf st hg
  subst hP hw hK
  obtain ⟨xs, x, hq, hx⟩ := hg
  obtain ⟨its, rv, p, hz⟩ := I.list hq
  obtain ⟨u, hu, ru⟩ := rv.get hx
  obtain ⟨f0, f1, f2, f3, f4, f5⟩ := hf it (by simp)
  refine wpAny_pyNext_list_item st p.isList (x := u) (by simpa using hu) fun h' st' sb => ?_
  have I1 : Inv X pins σ H { s with heap := h' } := I.turned (t' := s.toks) (fun b o hb e => (sb.2 b hb).trans e) f0 f1 f3 f4 f5
  obtain ⟨o, e, c, d⟩ := id st'
  exact ⟨u, rfl, go_of (s := { s with heap := h' }) e c d (by decide) ⟨x, H, I1, ru, ⟨rfl, fun ys hy => by rw [I.list_inj hy hq]; exact hx⟩, st', fun b hb => (hf b hb).1⟩⟩
 done := by
  intro X hP hw hK hc i pins s σ H E I hf st hg
  subst hP hw hK
  obtain ⟨xs, hq, hx⟩ := hg
  obtain ⟨its, rv, p, hz⟩ := I.list hq
  obtain ⟨f0, f1, f2, f3, f4, f5⟩ := hf it (by simp)
  have hl := rv.length
  exact wpAny_pyNext_list_end (I.ok.hd hc) st p.isList (by simp; omega) fun h' eb => ⟨rfl, I.turned (t' := s.toks) (fun b o hb e => eb b o hb e) f0 f1 f3 f4 f5⟩
 self := fun _ _ _ _ _ st h => wpAny_pyIter_listiter st h
theorem turn_tuple {P : Program} {w : World} {K : PySem.W.Frag} {tg : Expr} (a it : Addr) : Turn P w K tg (Itt K a) [it] it (fun i h => h.IsTupleIter it a i) where
 mem := by simp
 obj := fun i h st b hb => by
  have e : b = it := by simpa using hb
  subst e
  obtain ⟨o, e, c, d⟩ := st
  exact ⟨o, e, fun v z => by rw [d] at z; cases z⟩
 keep := fun i h h' st k => st.at fun o e => k it (by simp) o e
 item := by
  intro X hP hw hK hc i pins s σ H E I hf st hg
  subst hP hw hK
  obtain ⟨xs, x, hq, hx⟩ := hg
  obtain ⟨its, rv, p, hz⟩ := I.tuple hq
  obtain ⟨u, hu, ru⟩ := rv.get hx
  obtain ⟨f0, f1, f2, f3, f4, f5⟩ := hf it (by simp)
  refine wpAny_pyNext_tuple_item st (show s.heap.IsTuple a its.toArray from p) (x := u) (by simpa using hu) fun h' st' sb => ?_
  have I1 : Inv X pins σ H { s with heap := h' } := I.turned (t' := s.toks) (fun b o hb e => (sb.2 b hb).trans e) f0 f1 f3 f4 f5
  obtain ⟨o, e, c, d⟩ := id st'
  exact ⟨u, rfl, go_of (s := { s with heap := h' }) e c d (by decide) ⟨x, H, I1, ru, ⟨rfl, fun ys hy => by rw [I.tuple_inj hy hq]; exact hx⟩, st', fun b hb => (hf b hb).1⟩⟩
 done := by
  intro X hP hw hK hc i pins s σ H E I hf st hg
  subst hP hw hK
  obtain ⟨xs, hq, hx⟩ := hg
  obtain ⟨its, rv, p, hz⟩ := I.tuple hq
  obtain ⟨f0, f1, f2, f3, f4, f5⟩ := hf it (by simp)
  have hl := rv.length
  exact wpAny_pyNext_tuple_end (I.ok.hd hc) st (show s.heap.IsTuple a its.toArray from p) (by simp; omega) fun h' eb => ⟨rfl, I.turned (t' := s.toks) (fun b o hb e => eb b o hb e) f0 f1 f3 f4 f5⟩
 self := fun _ _ _ _ _ st h => wpAny_pyIter_tupleiter st h
theorem turn_range {P : Program} {w : World} {K : PySem.W.Frag} {tg : Expr} (it : Addr) (lo : Int) (n : Nat) : Turn P w K tg (Itr lo n) [it] it (fun i h => IsRangeIter h it (lo + (i : Nat) * 1) ((n : Int) - (i : Nat)) 1) where
 mem := by simp
 obj := fun i h st b hb => by
  have e : b = it := by simpa using hb
  subst e
  exact ⟨_, st, fun v z => by
   have z' : Data.fields _ = Data.cell v := z
   cases z'⟩
 keep := fun i h h' st k => k it (by simp) _ st
 item := by
  intro X hP hw hK hc i pins s σ H E I hf st hg
  subst hP hw hK
  obtain ⟨f0, f1, f2, f3, f4, f5⟩ := hf it (by simp)
  have W := Walks.range (prog := X.prog) (w := X.w) (I.ok.hd hc) it lo 1 n
  refine W.item i s _ _ hg st fun v h' tk hv st' kk => ?_
  obtain ⟨t, rfl⟩ := hv
  have I1 : Inv X pins σ H { s with heap := h', toks := tk } := I.turned (fun b o hb e => kk b o (by simpa using hb) e) f0 f1 f3 f4 f5
  refine ⟨_, rfl, go_of (s := { s with heap := h', toks := tk }) (n := "range_iterator") st' rfl rfl (by decide) ⟨.int (lo + i), H, I1, ⟨t, ?_⟩, ⟨rfl, rfl⟩, st', fun b hb => (hf b hb).1⟩⟩
  rw [Int.mul_one]
 done := by
  intro X hP hw hK hc i pins s σ H E I hf st hg
  subst hP hw hK
  obtain ⟨f0, f1, f2, f3, f4, f5⟩ := hf it (by simp)
  exact wpAny_pyNext_range_end (I.ok.hd hc) st (by have : n ≤ i := hg; omega) fun h' eb => ⟨rfl, I.turned (t' := s.toks) (fun b o hb e => eb b o hb e) f0 f1 f3 f4 f5⟩
 self := fun _ _ _ _ _ st h => wpAny_pyIter_rangeiter st h
end L2
namespace L2
open PySem PySem.Spec PyProof.Rows
section
variable {X : Cx} {tg : Expr}
def iList (K : PySem.W.Frag) (tl : TE) : TI := fun σ H R => tl σ H fun x H1 => ∃ a, x = .ref a ∧ (∃ xs, SqL K H1 a xs) ∧ R (Itl K a) H1
def iTup (K : PySem.W.Frag) (tl : TE) : TI := fun σ H R => tl σ H fun x H1 => ∃ a, x = .ref a ∧ (∃ xs, SqT K H1 a xs) ∧ R (Itt K a) H1
theorem pi_list {l : Expr} {tl : TE} (hl : PE X l tl) : PI X tg l (iList X.K tl) := by
 intro pins s σ H R I h
 refine thn (hl pins s σ H _ I h) fun v s1 ⟨x, H1, I1, r1, q1⟩ => ?_
 obtain ⟨a, e, ⟨xs, hq⟩, q⟩ := q1
 subst e
 cases r1
 obtain ⟨its, rv, p, hz⟩ := I1.list hq
 refine wpAny_pyIter_list p.isList ?_
 refine ⟨s1.heap.objs.size, [s1.heap.objs.size], _, _, H1, rfl, I1.kept (t' := s1.toks) fun b o e => Heap.get?_push_of_some _ e, turn_list a _, ⟨_, Heap.get?_push_size _ rfl, rfl, rfl⟩, fun b hb => ?_, q⟩
 have e : b = s1.heap.objs.size := by simpa using hb
 subst e
 exact I1.fpOk (Nat.le_refl _) (I1.hok.fresh (Nat.le_refl _))
theorem pi_tup {l : Expr} {tl : TE} (hl : PE X l tl) : PI X tg l (iTup X.K tl) := by
 intro pins s σ H R I h
 refine thn (hl pins s σ H _ I h) fun v s1 ⟨x, H1, I1, r1, q1⟩ => ?_
 obtain ⟨a, e, ⟨xs, hq⟩, q⟩ := q1
 subst e
 cases r1
 obtain ⟨its, rv, p, hz⟩ := I1.tuple hq
 refine wpAny_pyIter_tuple (show s1.heap.IsTuple a its.toArray from p) ?_
 refine ⟨s1.heap.objs.size, [s1.heap.objs.size], _, _, H1, rfl, I1.kept (t' := s1.toks) fun b o e => Heap.get?_push_of_some _ e, turn_tuple a _, ⟨_, Heap.get?_push_size _ rfl, rfl, rfl⟩, fun b hb => ?_, q⟩
 have e : b = s1.heap.objs.size := by simpa using hb
 subst e
 exact I1.fpOk (Nat.le_refl _) (I1.hok.fresh (Nat.le_refl _))
theorem range_it {pins : List (Addr × Obj)} {σ : St} {H : Hp} {s : Shared} {R : It → Hp → Prop} {E : Value → Shared → Prop} {lo hi : Int} {t u v : Tok} {tk : Nat} (I : Inv X pins σ H s) (h1 : -(2 ^ 62) ≤ lo) (h2 : lo < 2 ^ 62) (h3 : -(2 ^ 62) ≤ hi) (h4 : hi < 2 ^ 62)
  (q : R (Itr lo (hi - lo).toNat) H) : wpAny (model X.prog X.w) X.A (pyIter (.ref s.heap.objs.size)) (PIE X pins σ tg R) E { s with heap := s.heap.push { cls := .type "range", data := .fields #[.int lo t, .int hi u, .int 1 v] }, toks := tk } := by
 refine wpAny_pyIter_range (IsRange.new ..) (small_one h1 h2 h3 h4) ?_
 have I1 : Inv X pins σ H { s with heap := s.heap.push { cls := .type "range", data := .fields #[.int lo t, .int hi u, .int 1 v] }, toks := tk } := I.kept fun b o e => Heap.get?_push_of_some _ e
 refine ⟨(s.heap.push { cls := .type "range", data := .fields #[.int lo t, .int hi u, .int 1 v] }).objs.size, [(s.heap.push { cls := .type "range", data := .fields #[.int lo t, .int hi u, .int 1 v] }).objs.size], _, _, H, rfl,
  I1.kept (t' := tk) fun b o e => Heap.get?_push_of_some _ e, turn_range _ lo (hi - lo).toNat, ?_, fun b hb => ?_, q⟩
 ·have e1 : lo + ((0 : Nat) : Int) * 1 = lo := by simp
  have e2 : (((hi - lo).toNat : Nat) : Int) - ((0 : Nat) : Int) = Builtin.Range.rangeSize lo hi 1 := by rw [rangeSize_one]; split <;> omega
  show IsRangeIter _ _ (lo + ((0 : Nat) : Int) * 1) ((((hi - lo).toNat : Nat) : Int) - ((0 : Nat) : Int)) 1
  rw [e1, e2]
  exact Heap.get?_push_size _ rfl
 ·have e : b = (s.heap.push { cls := .type "range", data := .fields #[.int lo t, .int hi u, .int 1 v] }).objs.size := by simpa using hb
  subst e
  exact I1.fpOk (Nat.le_refl _) (I1.hok.fresh (Nat.le_refl _))
def iRng1 (ta : TA) : TI := fun σ H R => ta σ H fun vs H1 => ∃ j : Int, vs = [.int j] ∧ -(2 ^ 62) ≤ j ∧ j < 2 ^ 62 ∧ R (Itr 0 j.toNat) H1
def iRng2 (ta : TA) : TI := fun σ H R => ta σ H fun vs H1 => ∃ i j : Int, vs = [.int i, .int j] ∧ (-(2 ^ 62) ≤ i ∧ i < 2 ^ 62 ∧ -(2 ^ 62) ≤ j ∧ j < 2 ^ 62) ∧ R (Itr i (j - i).toNat) H1
theorem pi_range1 {a : Expr} {ta : TA} {p pos : Pos} (hg : Gl X "range") (hm : X.mg "range" = none) (ha : PA X [a] ta) (hs : starEach [a] X.env = [(false, eval a X.env)] := by rfl) : PI X tg (.Call (.Name "range" p) [a] [] pos) (iRng1 ta) := by
 intro pins s σ H R I h
 refine Call_ (ld_blt I hg hm boot_range (PyProof.Rows.callWith_type1 (thn (ha pos pins s σ H _ I h) fun us s1 ⟨vs, H1, I1, r1, q1⟩ => ?_) hs rfl))
 obtain ⟨j, e, q1, q2, q⟩ := q1
 subst e
 cases r1 with
 | cons r rr =>
  cases rr
  obtain ⟨t, rfl⟩ := r
  exact call_range_1 (range_it I1 (by omega) (by omega) q1 q2 (by simpa using q))
theorem pi_range2 {a b : Expr} {ta : TA} {p pos : Pos} (hg : Gl X "range") (hm : X.mg "range" = none) (ha : PA X [a, b] ta) (hs : starEach [a, b] X.env = [(false, eval a X.env), (false, eval b X.env)] := by rfl) (hs2 : starEach [b] X.env = [(false, eval b X.env)] := by rfl) :
  PI X tg (.Call (.Name "range" p) [a, b] [] pos) (iRng2 ta) := by
 intro pins s σ H R I h
 refine Call_ (ld_blt I hg hm boot_range (PyProof.Rows.callWith_type1 (thn (ha pos pins s σ H _ I h) fun us s1 ⟨vs, H1, I1, r1, q1⟩ => ?_) (by rw [hs, hs2]) (by rw [hs2]; rfl)))
 obtain ⟨i, j, e, ⟨q1, q2, q3, q4⟩, q⟩ := q1
 subst e
 cases r1 with
 | cons r rr =>
  cases rr with
  | cons r' rr =>
   cases rr
   obtain ⟨t, rfl⟩ := r
   obtain ⟨t', rfl⟩ := r'
   exact call_range_2 (range_it I1 q1 q2 q3 q4 q)
def tFor (wi : TI) (g : TG) (tb : TS) : TS := fun D σ H => wi σ H fun J H1 => ∃ W : Nat → Nat → St → Hp → Prop, (∃ m, W 0 m σ H1) ∧ ∀ i m σ H, W i m σ H →
 (J.stop i H ∧ D.nx σ H) ∨ (J.go i H ∧ ∃ N : St → Hp → Prop, (∀ σ' H', N σ' H' → ∃ m', m' < m ∧ W (i + 1) m' σ' H') ∧ ∀ x H', J.yld i H x H' → g x σ H' fun σ2 H2 => tb { D with nx := N, ct := N, bk := D.nx } σ2 H2)
def pinsAt (fp : List Addr) (h : Heap) : List (Addr × Obj) := fp.filterMap fun b => (h.get? b).map fun o => (b, o)
theorem mem_pinsAt {fp : List Addr} {h : Heap} {b : Addr} {o : Obj} (hb : b ∈ fp) (e : h.get? b = some o) : (b, o) ∈ pinsAt fp h := List.mem_filterMap.mpr ⟨b, hb, by rw [e]; rfl⟩
theorem of_pinsAt {fp : List Addr} {h : Heap} {p : Addr × Obj} (hp : p ∈ pinsAt fp h) : p.1 ∈ fp ∧ h.get? p.1 = some p.2 := by
 obtain ⟨b, hb, e⟩ := List.mem_filterMap.mp hp
 cases q : h.get? b with
 | none => rw [q] at e; cases e
 | some o =>
  rw [q] at e
  have e' : (b, o) = p := Option.some.inj e
  subst e'
  exact ⟨hb, q⟩
theorem Inv.pinned {pins : List (Addr × Obj)} {σ : St} {H : Hp} {s : Shared} {fp : List Addr} (I : Inv X pins σ H s) (hf : ∀ b ∈ fp, FpOk X pins H b) (ho : ∀ b ∈ fp, ∃ o, s.heap.get? b = some o ∧ ∀ v, o.data ≠ .cell v) : Inv X (pins ++ pinsAt fp s.heap) σ H s :=
 I.pins_of fun p hp => (List.mem_append.mp hp).elim (fun z => I.pin p (List.mem_append_right _ z)) fun z => by
  obtain ⟨hb, e⟩ := of_pinsAt z
  obtain ⟨f0, f1, f2, _⟩ := hf p.1 hb
  obtain ⟨o, e', d⟩ := ho p.1 hb
  rw [e] at e'; cases e'
  exact ⟨e, f0, f1, f2, d⟩
theorem Inv.unpinned {pins pl : List (Addr × Obj)} {σ : St} {H : Hp} {s : Shared} (I : Inv X (pins ++ pl) σ H s) : Inv X pins σ H s := I.pins_of fun p hp => I.pin p (List.mem_append_right _ (List.mem_append_left _ hp))
theorem ps_for {iter : Expr} {body : List Stmt} {wi : TI} {g : TG} {tb : TS} {pos : Pos} (hp : PassesOwn (model X.prog X.w) X.A X.env X.xe) (hc : X.calm = true) (hi : PI X tg iter wi) (hg : PG X tg g) (hb : PSs X body tb)
  (hs : ∀ x, foldedSetIterable iter X.env x = pure x := by intro _; rfl) : PS X (.For tg iter body [] pos) (tFor wi g tb) := by
 intro pins s σ H D I h
 refine wpAny_For (thn (hi pins s σ H _ I h) fun v s1 h1 => thn h1 fun itv s2 h2 => ?_) hs
 obtain ⟨it, fp, tn, J, H2, e, I2, T, st2, f2, W, ⟨m0, w0⟩, turn⟩ := h2
 subst e
 have stat : ∀ {H' : Hp}, (∀ b ∈ fp, H' b = none) → ∀ b ∈ fp, FpOk X pins H' b := fun hn b hb => ⟨hn b hb, (f2 b hb).2⟩
 refine codeAny_forLoop_any (fun n s' => ∃ i σ' H', Inv X pins σ' H' s' ∧ tn i s'.heap ∧ (∀ b ∈ fp, H' b = none) ∧ W i n σ' H') ?_ m0 ⟨0, σ, H2, I2, st2, fun b hb => (f2 b hb).1, w0⟩
 rintro n s3 ⟨i, σ3, H3, I3, st3, fr3, w3⟩
 rcases turn i n σ3 H3 w3 with ⟨stop, qn⟩ | ⟨go, N, hN, step⟩
 ·refine wpAny_passesOwn hp (thn (T.done X rfl rfl rfl hc i pins s3 σ3 H3 X.xe I3 (stat fr3) st3 stop) fun r s4 ⟨hr, I4⟩ => ?_)
  subst hr
  exact wpAny_execs_nil ⟨σ3, H3, I4, qn⟩
 ·refine wpAny_passesOwn hp (thn (T.item X rfl rfl rfl hc i pins s3 σ3 H3 X.xe I3 (stat fr3) st3 go) fun r s4 ⟨u, hr, h4⟩ => ?_)
  subst hr
  refine wpAny_passesOwn hp (thn h4 fun _ s5 ⟨x, H5, I5, r5, y5, st5, fr5⟩ => ?_)
  have I5' := I5.pinned (stat fr5) (T.obj _ _ st5)
  refine wpAny_passesOwn hp (thn (hg _ s5 σ3 H5 x u _ I5' r5 (step x H5 y5)) fun _ s6 ⟨σ6, H6, I6, q6⟩ => ?_)
  refine wpAny_passesOwn hp (thn (hb _ s6 σ6 H6 _ I6 q6) fun f s7 q7 => ?_)
  have again : ∀ {σ7 : St} {H7 : Hp}, Inv X (pins ++ pinsAt fp s5.heap) σ7 H7 s7 → N σ7 H7 → ∃ m, m < n ∧ ∃ i σ' H', Inv X pins σ' H' s7 ∧ tn i s7.heap ∧ (∀ b ∈ fp, H' b = none) ∧ W i m σ' H' := fun {σ7 H7} I7 n7 => by
   obtain ⟨m', hm, w7⟩ := hN σ7 H7 n7
   refine ⟨m', hm, i + 1, σ7, H7, I7.unpinned, T.keep _ _ _ st5 fun b hb o e => (I7.pin (b, o) (List.mem_append_right _ (List.mem_append_right _ (mem_pinsAt hb e)))).1, fun b hb => ?_, w7⟩
   obtain ⟨o, e, d⟩ := T.obj _ _ st5 b hb
   exact (I7.pin (b, o) (List.mem_append_right _ (List.mem_append_right _ (mem_pinsAt hb e)))).2.1
  cases f with
  | next => obtain ⟨σ7, H7, I7, n7⟩ := q7; exact again I7 n7
  | cont => obtain ⟨σ7, H7, I7, n7⟩ := q7; exact again I7 n7
  | brk => obtain ⟨σ7, H7, I7, q7⟩ := q7; exact ⟨σ7, H7, I7.unpinned, q7⟩
  | ret v => obtain ⟨x7, σ7, H7, I7, r7, q7⟩ := q7; exact ⟨x7, σ7, H7, I7.unpinned, r7, q7⟩
end
theorem for_list {K : PySem.W.Frag} {a : Addr} {xs : List V} {g : TG} {tb : TS} {D : Ends} {σ : St} {H : Hp} (Pv : Nat → St → Hp → Prop) (h0 : Pv 0 σ H) (hl : ∀ i σ H, i ≤ xs.length → Pv i σ H → SqL K H a xs)
  (hs : ∀ i x σ H, xs[i]? = some x → Pv i σ H → g x σ H fun σ2 H2 => tb { D with nx := Pv (i + 1), ct := Pv (i + 1), bk := D.nx } σ2 H2) (hd : ∀ σ H, Pv xs.length σ H → D.nx σ H) :
  ∃ W : Nat → Nat → St → Hp → Prop, (∃ m, W 0 m σ H) ∧ ∀ i m σ H, W i m σ H →
   ((Itl K a).stop i H ∧ D.nx σ H) ∨ ((Itl K a).go i H ∧ ∃ N : St → Hp → Prop, (∀ σ' H', N σ' H' → ∃ m', m' < m ∧ W (i + 1) m' σ' H') ∧ ∀ x H', (Itl K a).yld i H x H' → g x σ H' fun σ2 H2 => tb { D with nx := N, ct := N, bk := D.nx } σ2 H2) := by
 refine ⟨fun i m σ H => m = xs.length - i ∧ i ≤ xs.length ∧ Pv i σ H, ⟨xs.length, by simp, Nat.zero_le _, h0⟩, ?_⟩
 rintro i m σ H ⟨rfl, hi, p⟩
 have q := hl i σ H hi p
 by_cases hlt : i < xs.length
 ·refine .inr ⟨⟨xs, xs[i], q, by simp [hlt]⟩, Pv (i + 1), fun σ' H' p' => ⟨xs.length - (i + 1), by omega, rfl, hlt, p'⟩, fun x H' y => ?_⟩
  obtain ⟨e, y⟩ := y
  subst e
  exact hs i x σ _ (y xs q) p
 ·have e : i = xs.length := by omega
  subst e
  exact .inl ⟨⟨xs, q, Nat.le_refl _⟩, hd σ H p⟩
theorem for_range {lo : Int} {n : Nat} {g : TG} {tb : TS} {D : Ends} {σ : St} {H : Hp} (Pv : Nat → St → Hp → Prop) (h0 : Pv 0 σ H)
  (hs : ∀ i σ H, i < n → Pv i σ H → g (.int (lo + i)) σ H fun σ2 H2 => tb { D with nx := Pv (i + 1), ct := Pv (i + 1), bk := D.nx } σ2 H2) (hd : ∀ σ H, Pv n σ H → D.nx σ H) :
  ∃ W : Nat → Nat → St → Hp → Prop, (∃ m, W 0 m σ H) ∧ ∀ i m σ H, W i m σ H →
   ((Itr lo n).stop i H ∧ D.nx σ H) ∨ ((Itr lo n).go i H ∧ ∃ N : St → Hp → Prop, (∀ σ' H', N σ' H' → ∃ m', m' < m ∧ W (i + 1) m' σ' H') ∧ ∀ x H', (Itr lo n).yld i H x H' → g x σ H' fun σ2 H2 => tb { D with nx := N, ct := N, bk := D.nx } σ2 H2) := by
 refine ⟨fun i m σ H => m = n - i ∧ i ≤ n ∧ Pv i σ H, ⟨n, by simp, Nat.zero_le _, h0⟩, ?_⟩
 rintro i m σ H ⟨rfl, hi, p⟩
 by_cases hlt : i < n
 ·refine .inr ⟨hlt, Pv (i + 1), fun σ' H' p' => ⟨n - (i + 1), by omega, rfl, hlt, p'⟩, fun x H' y => ?_⟩
  obtain ⟨e, y⟩ := y
  subst e y
  exact hs i σ _ hlt p
 ·have e : i = n := by omega
  subst e
  exact .inl ⟨Nat.le_refl _, hd σ H p⟩
end L2
namespace L2
open PySem PySem.Spec PyProof.Rows
abbrev R2 := V → V → Hp → VK → Prop
def OpR (X : Cx) (f : Value → Value → Sem Value) (r : R2) : Prop :=
 ∀ (pins : List (Addr × Obj)) (s : Shared) (σ : St) (H : Hp) (x y : V) (v u : Value) (Q : VK), Inv X pins σ H s → RelV x v → RelV y u → r x y H Q →
  wpAny (model X.prog X.w) X.A (f v u) (EP X pins σ Q) X.xe s
def UnR (X : Cx) (f : Value → Sem Value) (r : V → Hp → VK → Prop) : Prop :=
 ∀ (pins : List (Addr × Obj)) (s : Shared) (σ : St) (H : Hp) (x : V) (v : Value) (Q : VK), Inv X pins σ H s → RelV x v → r x H Q →
  wpAny (model X.prog X.w) X.A (f v) (EP X pins σ Q) X.xe s
def CallR (X : Cx) (f : Value) (r : List V → Hp → VK → Prop) : Prop :=
 ∀ (pins : List (Addr × Obj)) (s : Shared) (σ : St) (H : Hp) (xs : List V) (us : List Value) (Q : VK), Inv X pins σ H s → Vals xs us → r xs H Q →
  wpAny (model X.prog X.w) X.A (call f us) (EP X pins σ Q) X.xe s
def TruR (X : Cx) (r : V → Hp → (Bool → Hp → Prop) → Prop) : Prop :=
 ∀ (pins : List (Addr × Obj)) (s : Shared) (σ : St) (H : Hp) (x : V) (v : Value) (Q : Bool → Hp → Prop), Inv X pins σ H s → RelV x v → r x H Q →
  wpAny (model X.prog X.w) X.A (truthy v) (TP X pins σ Q) X.xe s
def tOp (r : R2) (ta tb : TE) : TE := fun σ H Q => ta σ H fun x H1 => tb σ H1 fun y H2 => r x y H2 Q
def tUn (r : V → Hp → VK → Prop) (ta : TE) : TE := fun σ H Q => ta σ H fun x H1 => r x H1 Q
def rI (C : Int → Int → Prop) (g : Int → Int → V) : R2 := fun x y H Q => ∃ i j, x = .int i ∧ y = .int j ∧ C i j ∧ Q (g i j) H
def rI0 (g : Int → Int → V) : R2 := fun x y H Q => ∃ i j, x = .int i ∧ y = .int j ∧ Q (g i j) H
def rU (g : Int → V) : V → Hp → VK → Prop := fun x H Q => ∃ i, x = .int i ∧ Q (g i) H
section
variable {X : Cx} {a b c : Expr} {ta tb tc : TE} {pos : Pos}
theorem binT (ha : PE X a ta) (hb : PE X b tb) {pins : List (Addr × Obj)} {s : Shared} {σ : St} {H : Hp} {R : V → V → Hp → Prop} (I : Inv X pins σ H s)
  (h : ta σ H fun x H1 => tb σ H1 fun y H2 => R x y H2) {Q : Value → Shared → Prop} {f : Value → Value → Sem Value}
  (hf : ∀ v u s2 x y H2, Inv X pins σ H2 s2 → RelV x v → RelV y u → R x y H2 → wpAny (model X.prog X.w) X.A (f v u) Q X.xe s2) :
  wpAny (model X.prog X.w) X.A (eval a X.env) (fun v s₁ => wpAny (model X.prog X.w) X.A (eval b X.env) (fun u s₂ => wpAny (model X.prog X.w) X.A (f v u) Q X.xe s₂) X.xe s₁) X.xe s := by
 refine thn (ha pins s σ H _ I h) fun v s1 ⟨x, H1, I1, r1, q1⟩ => ?_
 refine thn (hb pins s1 σ H1 _ I1 q1) fun u s2 ⟨y, H2, I2, r2, q2⟩ => ?_
 exact hf v u s2 x y H2 I2 r1 r2 q2
theorem pe_op {op : Operator} {r : R2} (ho : OpR X (binaryOp op) r) (ha : PE X a ta) (hb : PE X b tb) : PE X (.BinOp a op b pos) (tOp r ta tb) := by
 intro pins s σ H Q I h
 exact wpAny_BinOp (binT ha hb I h fun v u s2 x y H2 I2 rx ry q => ho pins s2 σ H2 x y v u Q I2 rx ry q)
theorem pe_un {op : UnaryOp} {r : V → Hp → VK → Prop} (ho : UnR X (unaryOp op) r) (ha : PE X a ta) : PE X (.UnaryOp op a pos) (tUn r ta) := by
 intro pins s σ H Q I h
 exact UnaryOp_ (thn (ha pins s σ H _ I h) fun v s1 ⟨x, H1, I1, r1, q1⟩ => ho pins s1 σ H1 x v Q I1 r1 q1)
theorem opI {f : Value → Value → Sem Value} {C : Int → Int → Prop} {g : Int → Int → Int}
  (rule : ∀ (i j : Int) (t u : Tok) (s : Shared) (Q : Value → Shared → Prop) (E : Value → Shared → Prop), C i j → Q (.int (g i j) s.toks) { s with toks := s.toks + 1 } → wpAny (model X.prog X.w) X.A (f (.int i t) (.int j u)) Q E s) :
  OpR X f (rI C fun i j => .int (g i j)) := by
 intro pins s σ H x y v u Q I rx ry h
 obtain ⟨i, j, rfl, rfl, hc, q⟩ := h
 obtain ⟨t, rfl⟩ := rx
 obtain ⟨t', rfl⟩ := ry
 exact rule i j t t' s _ _ hc ⟨.int (g i j), H, I.tok _, ⟨_, rfl⟩, q⟩
theorem opI0 {f : Value → Value → Sem Value} {g : Int → Int → Int}
  (rule : ∀ (i j : Int) (t u : Tok) (s : Shared) (Q : Value → Shared → Prop) (E : Value → Shared → Prop), Q (.int (g i j) s.toks) { s with toks := s.toks + 1 } → wpAny (model X.prog X.w) X.A (f (.int i t) (.int j u)) Q E s) :
  OpR X f (rI0 fun i j => .int (g i j)) := by
 intro pins s σ H x y v u Q I rx ry h
 obtain ⟨i, j, rfl, rfl, q⟩ := h
 obtain ⟨t, rfl⟩ := rx
 obtain ⟨t', rfl⟩ := ry
 exact rule i j t t' s _ _ ⟨.int (g i j), H, I.tok _, ⟨_, rfl⟩, q⟩
theorem opB0 {f : Value → Value → Sem Value} {g : Int → Int → Bool}
  (rule : ∀ (i j : Int) (t u : Tok) (s : Shared) (Q : Value → Shared → Prop) (E : Value → Shared → Prop), Q (.bool (g i j)) s → wpAny (model X.prog X.w) X.A (f (.int i t) (.int j u)) Q E s) :
  OpR X f (rI0 fun i j => .bl (g i j)) := by
 intro pins s σ H x y v u Q I rx ry h
 obtain ⟨i, j, rfl, rfl, q⟩ := h
 obtain ⟨t, rfl⟩ := rx
 obtain ⟨t', rfl⟩ := ry
 exact rule i j t t' s _ _ ⟨.bl (g i j), H, I, rfl, q⟩
def CMul (i j : Int) : Prop := (-(2 ^ 64) < i ∧ i < 2 ^ 64) ∨ (-(2 ^ 64) < j ∧ j < 2 ^ 64)
theorem CMul.ok {i j : Int} (h : CMul i j) : IntMulOk i j := by
 rcases h with ⟨h1, h2⟩ | ⟨h1, h2⟩
 ·exact .of_left (intBits_le_64 h1 h2)
 ·exact .of_right (intBits_le_64 h1 h2)
theorem op_add : OpR X (binaryOp .Add) (rI0 fun i j => .int (i + j)) := opI0 fun _ _ _ _ _ _ _ q => add_int q
theorem op_sub : OpR X (binaryOp .Sub) (rI0 fun i j => .int (i - j)) := opI0 fun _ _ _ _ _ _ _ q => sub_int q
theorem op_mul : OpR X (binaryOp .Mult) (rI CMul fun i j => .int (i * j)) := opI fun _ _ _ _ _ _ _ hc q => mul_int q hc.ok
theorem op_mod : OpR X (binaryOp .Mod) (rI (fun _ j => 0 < j) fun i j => .int (i % j)) := opI fun i j _ _ _ _ _ hc q => by
 have h1 : (0 : Int) < j := hc
 exact mod_int' (by omega) (by rw [Int.fmod_eq_emod_of_nonneg i (by omega)]; exact q)
theorem unI {f : Value → Sem Value} {g : Int → Int}
  (rule : ∀ (i : Int) (t : Tok) (s : Shared) (Q : Value → Shared → Prop) (E : Value → Shared → Prop), Q (.int (g i) s.toks) { s with toks := s.toks + 1 } → wpAny (model X.prog X.w) X.A (f (.int i t)) Q E s) :
  UnR X f (rU fun i => .int (g i)) := by
 intro pins s σ H x v Q I rx h
 obtain ⟨i, rfl, q⟩ := h
 obtain ⟨t, rfl⟩ := rx
 exact rule i t s _ _ ⟨.int (g i), H, I.tok _, ⟨_, rfl⟩, q⟩
theorem un_neg : UnR X (unaryOp .USub) (rU fun i => .int (-i)) := unI fun _ _ _ _ _ q => neg_int q
end
def scal : V → V → Bool
 | .non, .non => true | .non, .int _ => true | .int _, .non => true | .non, .bl _ => true | .bl _, .non => true | .non, .str _ => true | .str _, .non => true
 | .int _, .int _ => true | .bl _, .bl _ => true | .str _, .str _ => true | .byt _, .byt _ => true
 | .int _, .str _ => true | .str _, .int _ => true | .bl _, .str _ => true | .str _, .bl _ => true
 | _, _ => false
def rEq : R2 := fun x y H Q => scal x y = true ∧ Q (.bl (decide (x = y))) H
def rNe : R2 := fun x y H Q => scal x y = true ∧ Q (.bl (!decide (x = y))) H
theorem dec_int {i j : Int} : decide (V.int i = V.int j) = (i == j) := by
 rw [Bool.eq_iff_iff]
 simp
theorem dec_bl {i j : Bool} : decide (V.bl i = V.bl j) = (i == j) := by
 rw [Bool.eq_iff_iff]
 simp
theorem dec_str {i j : Str} : decide (V.str i = V.str j) = (i == j) := by
 rw [Bool.eq_iff_iff]
 simp
theorem dec_byt {i j : Array UInt8} : decide (V.byt i = V.byt j) = (i.toList == j.toList) := by
 rw [Bool.eq_iff_iff]
 cases i
 cases j
 simp
section
variable {X : Cx} {a b c : Expr} {ta tb tc : TE} {pos : Pos}
theorem fin_bl {pins : List (Addr × Obj)} {σ : St} {H : Hp} {s : Shared} {Q : VK} {k k' : Bool} (I : Inv X pins σ H s) (q : Q (.bl k) H) (e : k = k') : EP X pins σ Q (.bool k') s := by
 subst e
 exact ⟨.bl k, H, I, rfl, q⟩
theorem op_eq : OpR X (compareOp .Eq) rEq := by
 intro pins s σ H x y v u Q I rx ry h
 obtain ⟨hs, q⟩ := h
 cases x with
 | non =>
  cases rx
  cases y with
  | non => cases ry; exact PySem.EqNone.eq_none_none (fin_bl I q (by simp))
  | bl j => cases ry; exact PySem.EqNone.eq_none_bool (fin_bl I q (by simp))
  | int j => obtain ⟨t', rfl⟩ := ry; exact PySem.EqNone.eq_none_int (fin_bl I q (by simp))
  | str j => obtain ⟨t', rfl⟩ := ry; exact PySem.EqNone.eq_none_str (fin_bl I q (by simp))
  | _ => exact absurd (show false = true from hs) Bool.false_ne_true
 | bl i =>
  cases rx
  cases y with
  | non => cases ry; exact PySem.EqNone.eq_bool_none (fin_bl I q (by simp))
  | bl j => cases ry; exact eq_bool (fin_bl I q dec_bl)
  | str j => obtain ⟨t', rfl⟩ := ry; exact PySem.EqMixed.eq_bool_str (fin_bl I q (by simp))
  | _ => exact absurd (show false = true from hs) Bool.false_ne_true
 | int i =>
  obtain ⟨t, rfl⟩ := rx
  cases y with
  | non => cases ry; exact PySem.EqNone.eq_int_none (fin_bl I q (by simp))
  | int j => obtain ⟨t', rfl⟩ := ry; exact eq_int (fin_bl I q dec_int)
  | str j => obtain ⟨t', rfl⟩ := ry; exact PySem.EqMixed.eq_int_str (fin_bl I q (by simp))
  | _ => exact absurd (show false = true from hs) Bool.false_ne_true
 | str i =>
  obtain ⟨t, rfl⟩ := rx
  cases y with
  | non => cases ry; exact PySem.EqNone.eq_str_none (fin_bl I q (by simp))
  | bl j => cases ry; exact PySem.EqMixed.eq_str_bool (fin_bl I q (by simp))
  | int j => obtain ⟨t', rfl⟩ := ry; exact PySem.EqMixed.eq_str_int (fin_bl I q (by simp))
  | str j => obtain ⟨t', rfl⟩ := ry; exact eq_str (fin_bl I q dec_str)
  | _ => exact absurd (show false = true from hs) Bool.false_ne_true
 | byt i =>
  obtain ⟨t, rfl⟩ := rx
  cases y with
  | byt j => obtain ⟨t', rfl⟩ := ry; exact PySem.W.eq_bytes (fin_bl I q dec_byt)
  | _ => exact absurd (show false = true from hs) Bool.false_ne_true
 | _ => cases y <;> exact absurd (show false = true from hs) Bool.false_ne_true
theorem op_ne : OpR X (compareOp .NotEq) rNe := by
 intro pins s σ H x y v u Q I rx ry h
 obtain ⟨hs, q⟩ := h
 cases x with
 | non =>
  cases rx
  cases y with
  | non => cases ry; exact PySem.EqNone.ne_none_none (fin_bl I q (by simp))
  | bl j => cases ry; exact PySem.EqNone.ne_none_bool (fin_bl I q (by simp))
  | int j => obtain ⟨t', rfl⟩ := ry; exact PySem.EqNone.ne_none_int (fin_bl I q (by simp))
  | str j => obtain ⟨t', rfl⟩ := ry; exact PySem.EqNone.ne_none_str (fin_bl I q (by simp))
  | _ => exact absurd (show false = true from hs) Bool.false_ne_true
 | bl i =>
  cases rx
  cases y with
  | non => cases ry; exact PySem.EqNone.ne_bool_none (fin_bl I q (by simp))
  | bl j => cases ry; exact ne_bool (fin_bl I q (congrArg not dec_bl))
  | str j => obtain ⟨t', rfl⟩ := ry; exact PySem.EqMixed.ne_bool_str (fin_bl I q (by simp))
  | _ => exact absurd (show false = true from hs) Bool.false_ne_true
 | int i =>
  obtain ⟨t, rfl⟩ := rx
  cases y with
  | non => cases ry; exact PySem.EqNone.ne_int_none (fin_bl I q (by simp))
  | int j => obtain ⟨t', rfl⟩ := ry; exact ne_int (fin_bl I q (congrArg not dec_int))
  | str j => obtain ⟨t', rfl⟩ := ry; exact PySem.EqMixed.ne_int_str (fin_bl I q (by simp))
  | _ => exact absurd (show false = true from hs) Bool.false_ne_true
 | str i =>
  obtain ⟨t, rfl⟩ := rx
  cases y with
  | non => cases ry; exact PySem.EqNone.ne_str_none (fin_bl I q (by simp))
  | bl j => cases ry; exact PySem.EqMixed.ne_str_bool (fin_bl I q (by simp))
  | int j => obtain ⟨t', rfl⟩ := ry; exact PySem.EqMixed.ne_str_int (fin_bl I q (by simp))
  | str j => obtain ⟨t', rfl⟩ := ry; exact ne_str (fin_bl I q (congrArg not dec_str))
  | _ => exact absurd (show false = true from hs) Bool.false_ne_true
 | byt i =>
  obtain ⟨t, rfl⟩ := rx
  cases y with
  | byt j => obtain ⟨t', rfl⟩ := ry; exact PySem.W.ne_bytes (fin_bl I q (congrArg not dec_byt))
  | _ => exact absurd (show false = true from hs) Bool.false_ne_true
 | _ => cases y <;> exact absurd (show false = true from hs) Bool.false_ne_true
theorem op_lt : OpR X (compareOp .Lt) (rI0 fun i j => .bl (decide (i < j))) := opB0 fun _ _ _ _ _ _ _ q => lt_int q
theorem op_le : OpR X (compareOp .LtE) (rI0 fun i j => .bl (decide (i ≤ j))) := opB0 fun _ _ _ _ _ _ _ q => le_int q
theorem op_gt : OpR X (compareOp .Gt) (rI0 fun i j => .bl (decide (j < i))) := opB0 fun _ _ _ _ _ _ _ q => gt_int q
theorem op_ge : OpR X (compareOp .GtE) (rI0 fun i j => .bl (decide (j ≤ i))) := opB0 fun _ _ _ _ _ _ _ q => ge_int q
theorem op_isN : OpR X (compareOp .Is) (fun x y H Q => y = .non ∧ Q (.bl (decide (x = .non))) H) := by
  intro pins s σ H x y v u Q I rx ry h
  obtain ⟨rfl, q⟩ := h
  cases ry
  refine is_none_gen (fin_bl I q ?_)
  cases x <;> first
    | (cases rx; rfl)
    | (obtain ⟨t, rfl⟩ := rx; rfl)
theorem op_notN : OpR X (compareOp .IsNot) (fun x y H Q => y = .non ∧ Q (.bl (!decide (x = .non))) H) := by
  intro pins s σ H x y v u Q I rx ry h
  obtain ⟨rfl, q⟩ := h
  cases ry
  refine isnot_none_gen (fin_bl I q ?_)
  cases x <;> first
    | (cases rx; rfl)
    | (obtain ⟨t, rfl⟩ := rx; rfl)
theorem nomark (b : Expr) {op : CmpOp} (h : op ≠ .In := by decide) (h2 : op ≠ .NotIn := by decide) : behindInMarks op b = false := by
 have e1 : (op == CmpOp.In) = false := by cases op <;> first | rfl | exact absurd rfl h
 have e2 : (op == CmpOp.NotIn) = false := by cases op <;> first | rfl | exact absurd rfl h2
 cases b <;> simp [behindInMarks, e1, e2]
theorem pe_cmpR {op : CmpOp} {r : R2} (ho : OpR X (compareOp op) r) (ha : PE X a ta) (hb : PE X b tb) (hm : behindInMarks op b = false) : PE X (.Compare a [op] [b] pos) (tOp r ta tb) := by
 intro pins s σ H Q I h
 exact wpAny_Compare1 (binT ha hb I h fun v u s2 x y H2 I2 rx ry q => ho pins s2 σ H2 x y v u Q I2 rx ry q) hm
def tTest (t : TE) : TT := fun σ H Q => t σ H fun x H' => ∃ k, x = .bl k ∧ Q k H'
theorem pt_cmpR {op : CmpOp} {r : R2} (ho : OpR X (compareOp op) r) (ha : PE X a ta) (hb : PE X b tb) (hm : behindInMarks op b = false) : PT X (.Compare a [op] [b] pos) (tTest (tOp r ta tb)) := by
 intro pins s σ H Q I h
 refine wpAny_isTrue_Compare1 (thn (ha pins s σ H _ I h) fun v s1 ⟨x, H1, I1, r1, q1⟩ => thn (hb pins s1 σ H1 _ I1 q1) fun u s2 ⟨y, H2, I2, r2, q2⟩ =>
  thn (ho pins s2 σ H2 x y v u _ I2 r1 r2 q2) fun c s3 ⟨z, H3, I3, r3, k, e, q3⟩ => ?_) hm
 subst e
 cases r3
 exact wpAny_truthy_bool ⟨H3, I3, q3⟩
def tChain (r r' : R2) (ta tb tc : TE) : TE := fun σ H Q => ta σ H fun x H1 => tb σ H1 fun y H2 => r x y H2 fun z H3 => ∃ k, z = .bl k ∧
 (if k = true then tc σ H3 fun w' H4 => r' y w' H4 Q else Q (.bl false) H3)
theorem pe_chain {op op' : CmpOp} {r r' : R2} (ho : OpR X (compareOp op) r) (ho' : OpR X (compareOp op') r') (ha : PE X a ta) (hb : PE X b tb) (hc : PE X c tc)
  (hm : lastMarks [op, op'] [b, c] = false := by with_unfolding_all rfl) : PE X (.Compare a [op, op'] [b, c] pos) (tChain r r' ta tb tc) := by
 intro pins s σ H Q I h
 refine Compare_chain (thn (ha pins s σ H _ I h) fun v s1 ⟨x, H1, I1, r1, q1⟩ => chain_link (thn (hb pins s1 σ H1 _ I1 q1) fun u s2 ⟨y, H2, I2, r2, q2⟩ =>
  thn (ho pins s2 σ H2 x y v u _ I2 r1 r2 q2) fun d s3 ⟨z, H3, I3, r3, k, e, q3⟩ => ?_)) hm
 subst e
 cases r3
 refine wpAny_truthy_bool ?_
 cases k with
 | false => exact ite_ff ⟨.bl false, H3, I3, rfl, q3⟩
 | true => exact ite_tt (chain_last (thn (hc pins s3 σ H3 _ I3 q3) fun w' s4 ⟨z', H4, I4, r4, q4⟩ => ho' pins s4 σ H4 y z' u w' Q I4 r2 r4 q4))
def TruV (K : PySem.W.Frag) (x : V) (H : Hp) (k : Bool) : Prop :=
 match x with
 | .non => k = false
 | .bl b => k = b
 | .int i => k = (i != 0)
 | .str y => y.length ≤ sizeLine ∧ k = ((y.length : Int) != 0)
 | .byt y => y.size ≤ sizeLine ∧ k = ((y.size : Int) != 0)
 | .ref p => (∃ xs, SqL K H p xs ∧ k = !xs.isEmpty) ∨ (∃ xs, SqT K H p xs ∧ k = !xs.isEmpty) ∨ ∃ kvs, H p = some (.dK kvs) ∧ k = !kvs.isEmpty
 | _ => False
theorem isEmpty_kv {κ : Type} {kvs : List (κ × V)} {vs : List (κ × Value)} (r : KV kvs vs) : (!vs.isEmpty) = !kvs.isEmpty := by
 cases r <;> rfl
theorem isEmpty_of {xs : List V} {its : List Value} (r : Vals xs its) : (!its.toArray.isEmpty) = !xs.isEmpty := by
 cases r <;> simp
theorem line63 : (sizeLine : Nat) < 2 ^ 63 := by rw [sizeLine_eq]; decide
theorem tru_ok : TruR X (fun x H Q => ∃ k, TruV X.K x H k ∧ Q k H) := by
 intro pins s σ H x v Q I rx h
 obtain ⟨k, e, q⟩ := h
 have hl := line63
 have hs : sizeLine = 16777216 := sizeLine_eq
 cases x with
 | non =>
  cases rx
  have e' : k = false := e
  subst e'
  exact truthy_none ⟨H, I, q⟩
 | bl b =>
  cases rx
  have e' : k = b := e
  subst e'
  exact wpAny_truthy_bool ⟨H, I, q⟩
 | int i =>
  obtain ⟨t, rfl⟩ := rx
  have e' : k = (i != 0) := e
  subst e'
  exact PySem.P.truthy_int ⟨H, I, q⟩
 | str y =>
  obtain ⟨t, rfl⟩ := rx
  obtain ⟨hy, e'⟩ : y.length ≤ sizeLine ∧ k = ((y.length : Int) != 0) := e
  subst e'
  exact PySem.P.truthy_str (by omega) ⟨H, I.tok _, q⟩
 | byt y =>
  obtain ⟨t, rfl⟩ := rx
  obtain ⟨hy, e'⟩ : y.size ≤ sizeLine ∧ k = ((y.size : Int) != 0) := e
  subst e'
  exact PySem.W.truthy_bytes (by omega) ⟨H, I.tok _, q⟩
 | ref p =>
  cases rx
  have e' : (∃ xs, SqL X.K H p xs ∧ k = !xs.isEmpty) ∨ (∃ xs, SqT X.K H p xs ∧ k = !xs.isEmpty) ∨ ∃ kvs, H p = some (.dK kvs) ∧ k = !kvs.isEmpty := e
  rcases e' with ⟨xs, hx, e'⟩ | ⟨xs, hx, e'⟩ | ⟨kvs, hx, e'⟩
  ·subst e'
   obtain ⟨its, r, pl, hz⟩ := I.list hx
   have hlen := r.length
   exact wpAny_truthy_list pl.isList (by simp only [List.size_toArray]; omega) ⟨H, I.tok _, by rw [isEmpty_of r]; exact q⟩
  ·subst e'
   obtain ⟨its, r, pl, hz⟩ := I.tuple hx
   have hlen := r.length
   exact truthy_tuple pl (by simp only [List.size_toArray]; omega) ⟨H, I.tok _, by rw [isEmpty_of r]; exact q⟩
  ·subst e'
   obtain ⟨hz, hS, vs, r, m⟩ : kvs.length ≤ sizeLine ∧ (p == sysModules) = false ∧ ∃ vs, KV kvs vs ∧ s.heap.DictOf (mixKind X.prog X.w) p vs := I.hok p _ hx
   have hlen : kvs.length = vs.length := Paired.length r
   exact wpAny_truthy_dict hS m (by omega) ⟨H, I.tok _, by rw [isEmpty_kv r]; exact q⟩
 | _ => exact (show False from e).elim
theorem pt_truth (ha : PE X a ta) (he : ∀ whole, isTrue a X.env whole = (do let v ← whole; standAt a.pos; holding [v] (truthy v))) :
  PT X a (fun σ H Q => ta σ H fun x H' => ∃ k, TruV X.K x H' k ∧ Q k H') := by
 intro pins s σ H Q I h
 exact isTrue_plain (thn (ha pins s σ H _ I h) fun v s1 ⟨x, H1, I1, r1, q1⟩ => tru_ok pins s1 σ H1 x v Q I1 r1 q1) (he _)
theorem vals1 {x : V} {us : List Value} (r : Vals [x] us) : ∃ u, us = [u] ∧ RelV x u := by
 cases r with
 | cons r1 r2 => cases r2; exact ⟨_, rfl, r1⟩
theorem vals2 {x y : V} {us : List Value} (r : Vals [x, y] us) : ∃ u w', us = [u, w'] ∧ RelV x u ∧ RelV y w' := by
 cases r with
 | cons r1 r2 =>
  cases r2 with
  | cons r3 r4 => cases r4; exact ⟨_, _, rfl, r1, r3⟩
theorem call_max2 (hc : X.calm = true) : CallR X (.builtin "max") (fun xs H Q => ∃ i j, xs = [.int i, .int j] ∧ Q (.int (if j > i then j else i)) H) := by
 intro pins s σ H xs us Q I r h
 obtain ⟨i, j, rfl, q⟩ := h
 obtain ⟨u, w', rfl, ⟨t, rfl⟩, ⟨t', rfl⟩⟩ := vals2 r
 refine max_two_ints (I.ok.hd hc) fun h' tk k => ⟨_, H, I.kept k, ?_, q⟩
 by_cases hj : j > i
 ·rw [if_pos hj, if_pos hj]; exact ⟨_, rfl⟩
 ·rw [if_neg hj, if_neg hj]; exact ⟨_, rfl⟩
theorem call_min2 (hc : X.calm = true) : CallR X (.builtin "min") (fun xs H Q => ∃ i j, xs = [.int i, .int j] ∧ Q (.int (if j < i then j else i)) H) := by
 intro pins s σ H xs us Q I r h
 obtain ⟨i, j, rfl, q⟩ := h
 obtain ⟨u, w', rfl, ⟨t, rfl⟩, ⟨t', rfl⟩⟩ := vals2 r
 refine min_two_ints (I.ok.hd hc) fun h' tk k => ⟨_, H, I.kept k, ?_, q⟩
 by_cases hj : j < i
 ·rw [if_pos hj, if_pos hj]; exact ⟨_, rfl⟩
 ·rw [if_neg hj, if_neg hj]; exact ⟨_, rfl⟩
end
end L2
namespace L2
open PySem PySem.Spec PyProof.Rows
structure ObjM (h : Heap) (x dx C : Addr) (mA : Str → Option Value) : Prop where
 obj : h.get? x = some (PySem.W.instObj C dx)
 ns : h.Ns1 dx mA
 ne : dx ≠ x
theorem lookIn_ns {h : Heap} {dx : Addr} {mA : Str → Option Value} (n : h.Ns1 dx mA) : ∃ od, h.get? dx = some od ∧ ∀ name, PySem.W.lookIn name od = some (mA name) := by
 obtain ⟨o, es, ep, ho, hd, hk, _, hm⟩ := n
 refine ⟨o, ho, fun name => ?_⟩
 have e := hm name
 unfold nsFind findBy at e
 rw [← Array.find?_toList] at e
 unfold PySem.W.lookIn
 rw [hd]
 dsimp only
 split
 ·rename_i y q
  rw [q] at e
  exact congrArg some e
 ·rename_i q
  rw [q] at e
  have a : es.toList.any (·.refKey) = false := by
   rw [List.any_eq_false]
   intro y hy
   obtain ⟨z, t, hkey⟩ := hk y (Array.mem_toList_iff.mp hy)
   simp [DictEntry.refKey, hkey]
  have a' : ¬ es.toList.any (·.refKey) = true := by rw [a]; exact Bool.false_ne_true
  rw [if_neg a']
  exact congrArg some e
theorem ObjM.look {h : Heap} {x dx C : Addr} {mA : Str → Option Value} (I : ObjM h x dx C mA) : ∃ od, PySem.W.InstAt h x (PySem.W.instObj C dx) C (some od) ∧ ∀ name, PySem.W.lookIn name od = some (mA name) :=
 let ⟨od, ho, hl⟩ := lookIn_ns I.ns
 ⟨od, ⟨I.obj, rfl, rfl, ho⟩, hl⟩
section
variable {prog : Program} {w : World} {A : Around} {E : Value → Shared → Prop} {s : Shared} {K : PySem.W.Frag} {x dx C f : Addr} {mA : Str → Option Value} {name : Str} {v : Value}
end
theorem RelO.some_of {v : V} {o : Option Value} (r : RelO (some v) o) : ∃ u, o = some u ∧ RelV v u := by
 cases o with
 | none => exact (show False from r).elim
 | some u => exact ⟨u, rfl, r⟩
section
variable {P : Program} {w : World} {H H' : Hp} {h h' : Heap} {a C dx : Addr} {fs fs' : List (Str × V)}
theorem ins_get (hok : HOk P w H h) (e : H a = some (.ins C dx fs)) : ∃ mA, ObjM h a dx C mA ∧ (∀ f, RelO (fs.lookup f) (mA f)) ∧ PySem.Within mA (fs.map (·.1)) ∧ fs.length ≤ 1000 ∧ H dx = some (.own a) := by
 obtain ⟨d, z, ne, ob, mA, n, r, q⟩ := (show ObjOk P w H h a (.ins C dx fs) from hok a _ e)
 exact ⟨mA, ⟨ob, n, ne⟩, r, q, z, d⟩
end
structure Cls (K : PySem.W.Frag) (C : Addr) : Prop where
 pg : PySem.W.plainGet K C Str.empty = true
 hd : PySem.W.hasDictIn K C = true
 po : PySem.W.plainOver K C = true
 sa : PySem.W.findIn K (.ref C) "__setattr__" = some (some (.builtin "object.__setattr__"))
theorem Cls.get {K : PySem.W.Frag} {C : Addr} (c : Cls K C) (f : Str) : PySem.W.plainGet K C f = true := c.pg
section
variable {X : Cx} {pins : List (Addr × Obj)} {σ : St} {H : Hp} {s : Shared} {a C dx : Addr} {fs : List (Str × V)} {f : Str} {v : V} {A : Around} {E : Value → Shared → Prop}
end
section
variable {X : Cx} {o e value : Expr} {f : Str} {pos pos' tpos : Pos} {ta tv : TE}
end
section
variable {X : Cx} {pins : List (Addr × Obj)} {σ : St} {H : Hp} {s : Shared} {A : Around} {E : Value → Shared → Prop} {Q : Value → Shared → Prop} {c : Value} {b : Bool}
inductive TyOf (K : PySem.W.Frag) (H : Hp) : V → Value → Prop where
 | non : TyOf K H .non (.type "NoneType")
 | bl (x : Bool) : TyOf K H (.bl x) (.type "bool")
 | int (i : Int) : TyOf K H (.int i) (.type "int")
 | str (x : Str) : TyOf K H (.str x) (.type "str")
 | flt (x : UInt64) : TyOf K H (.flt x) (.type "float")
 | lst {a : Addr} {xs : List V} (e : H a = some (.lst xs)) : TyOf K H (.ref a) (.type "list")
 | frz {a : Addr} {o : Obj} {xs : List V} (e : H a = some (.frz o (.lst xs))) : TyOf K H (.ref a) (.type "list")
 | tup {a : Addr} {xs : List V} (e : H a = some (.tup xs)) : TyOf K H (.ref a) (.type "tuple")
 | dK {a : Addr} {kvs : List (Key × V)} (e : H a = some (.dK kvs)) : TyOf K H (.ref a) (.type "dict")
 | dT {a : Addr} {kvs : List (List Key × V)} (e : H a = some (.dT kvs)) : TyOf K H (.ref a) (.type "dict")
 | ins {a C dx : Addr} {fs : List (Str × V)} (e : H a = some (.ins C dx fs)) (cl : Cls K C) (ha : PySem.W.findIn K (.ref C) "__class__" = some (some (.builtin "object.__class__")))
   (hn : PySem.W.specialIn K (.builtin "object.__class__") "__get__" = some (some (.builtin "getset_descriptor.__get__"))) (htk : PySem.W.takesIn K (.builtin "object.__class__") = some true)
   (hm : PySem.W.mroIn K C (.type "object") = some true) : TyOf K H (.ref a) (.ref C)
theorem isinst_ok {x : V} {u t : Value} (I : Inv X pins σ H s) (rx : RelV x u) (ty : TyOf X.K H x t) (e : PySem.W.kitOne X.K t c = some b) (h : ∀ tk, Q (.bool b) { s with toks := tk }) :
  wpAny (model X.prog X.w) A (call (.builtin "isinstance") [u, c]) Q E s := by
 cases ty with
 | non => cases (show u = Value.none from rx); exact PySem.W.kia_one PySem.W.kitx_none I.kIn True.intro e (fun z => nomatch z) h
 | bl y => cases (show u = Value.bool y from rx); exact PySem.W.kia_one PySem.W.kitx_bool I.kIn True.intro e (fun z => nomatch z) h
 | int i => obtain ⟨t, q⟩ := (show ∃ t, u = Value.int i t from rx); cases q; exact PySem.W.kia_one PySem.W.kitx_int I.kIn True.intro e (fun z => nomatch z) h
 | str y => obtain ⟨t, q⟩ := (show ∃ t, u = Value.str y t from rx); cases q; exact PySem.W.kia_one PySem.W.kitx_str I.kIn True.intro e (fun z => nomatch z) h
 | flt y => obtain ⟨t, q⟩ := (show ∃ t, u = Value.float y t from rx); cases q; exact PySem.W.kia_one PySem.W.kitx_float I.kIn True.intro e (fun z => nomatch z) h
 | @lst a xs ea =>
  cases (show u = Value.ref a from rx)
  obtain ⟨_, _, n, _, h1⟩ := (show ObjOk X.prog X.w H s.heap a (.lst xs) from I.hok a _ ea)
  exact PySem.W.kia_one PySem.W.kitx_list I.kIn ⟨_, h1, rfl⟩ e (fun z => nomatch z) h
 | @frz a ob xs ea =>
  cases (show u = Value.ref a from rx)
  obtain ⟨_, _, _, n, _, h1⟩ := (show ObjOk X.prog X.w H s.heap a (.frz ob (.lst xs)) from I.hok a _ ea)
  exact PySem.W.kia_one PySem.W.kitx_list I.kIn ⟨_, h1, rfl⟩ e (fun z => nomatch z) h
 | @tup a xs ea =>
  cases (show u = Value.ref a from rx)
  obtain ⟨_, _, _, p⟩ := (show ObjOk X.prog X.w H s.heap a (.tup xs) from I.hok a _ ea)
  obtain ⟨o, h1, h2, _⟩ := p
  exact PySem.W.kia_one PySem.W.kitx_tuple I.kIn ⟨o, h1, h2⟩ e (fun z => nomatch z) h
 | @dK a kvs ea =>
  cases (show u = Value.ref a from rx)
  obtain ⟨_, _, vs, _, p⟩ := (show ObjOk X.prog X.w H s.heap a (.dK kvs) from I.hok a _ ea)
  obtain ⟨o, es, ep, h1, h2, _⟩ := p
  exact PySem.W.kia_one PySem.W.kitx_dict I.kIn ⟨o, h1, h2.1⟩ e (fun z => nomatch z) h
 | @dT a kvs ea =>
  cases (show u = Value.ref a from rx)
  obtain ⟨_, _, xs, _, o, es, ep, h1, h2, _⟩ := (show ObjOk X.prog X.w H s.heap a (.dT kvs) from I.hok a _ ea)
  exact PySem.W.kia_one PySem.W.kitx_dict I.kIn ⟨o, h1, h2.1⟩ e (fun z => nomatch z) h
 | @ins a C dx fs ea cl ha hn htk hm =>
  cases (show u = Value.ref a from rx)
  obtain ⟨mA, O, _⟩ := ins_get I.hok ea
  obtain ⟨od, J, _⟩ := O.look
  exact PySem.W.kia_one (PySem.W.kitx_own (cl.get _) cl.hd ha hn htk hm) I.kIn J e (fun z => nomatch z) h
end
end L2
namespace L2
open PySem PySem.Spec PyProof.Rows
structure Room (k : Nat) (A : Around) : Prop where
 hd : A.handled = none
 dp : A.depth + 3 * k + 5 < recursionLimit
 un : A.units + 16 * k + 200 < cLine
theorem Room.mono {j k : Nat} {A : Around} (r : Room k A) (h : j ≤ k) : Room j A := ⟨r.hd, by have := r.dp; omega, by have := r.un; omega⟩
theorem Room.deeper {k : Nat} {A : Around} (r : Room (k + 1) A) (env : Env) : Room k (A.deeper env) :=
 ⟨r.hd, by have := r.dp; show A.depth + 1 + 3 * k + 5 < _; omega, by have := r.un; show A.units + 3 + 16 * k + 200 < _; omega⟩
theorem Room.depth {k : Nat} {A : Around} (r : Room k A) : A.depth < recursionLimit := by have := r.dp; omega
def tNil : TA := fun _ H Q => Q [] H
def tCons (ta : TE) (tr : TA) : TA := fun σ H Q => ta σ H fun x H1 => tr σ H1 fun xs H2 => Q (x :: xs) H2
section
variable {X : Cx} {e : Expr} {es : List Expr} {te : TE} {t : TA} {pos : Pos}
theorem pa_nil : PA X [] tNil := fun _ _ _ _ H Q I h => Calls.spliced_nil ⟨[], H, I, .nil, h⟩
theorem pa_cons (ha : PE X e te) (hr : PA X es t) (hs : starEach (e :: es) X.env = (false, eval e X.env) :: starEach es X.env := by rfl) : PA X (e :: es) (tCons te t) := by
 intro pos pins s σ H Q I h
 rw [hs]
 show wpAny _ _ (spliced ((false, eval e X.env) :: backTo pos (starEach es X.env))) _ _ s
 refine Calls.spliced_cons (thn (ha pins s σ H _ I h) fun u s1 ⟨x, H1, I1, r1, q1⟩ => ?_)
 exact thn (hr pos pins s1 σ H1 _ I1 q1) fun us s2 ⟨xs, H2, I2, r2, q2⟩ => ⟨x :: xs, H2, I2, .cons r1 r2, q2⟩
end
abbrev Sp := List V → Hp → VK → XK → Prop
abbrev CXT := List Env → Hp → Shared → XK → Value → Shared → Prop
structure Env0 (P : Program) (w : World) (K : PySem.W.Frag) (mg : Str → Option Value) (base : Heap) (A : Around) (outer : List Env) (s : Shared) (H : Hp) : Prop where
 frames : A.frames = some outer
 mod : Mod K mg base
 bs : ∀ b o, base.get? b = some o → s.heap.get? b = some o ∧ H b = none
 bsz : base.objs.size ≤ s.heap.objs.size
 funs : s.heap.FunFrames base outer
 frf : ∀ b ∈ frs outer, H b = none
 hok : HOk P w H s.heap
 bare : AllBare s.gens
def CE (outer : List Env) (P : Program) (w : World) (H : Hp) (s : Shared) (Q : VK) (u : Value) (s' : Shared) : Prop :=
 ∃ v H', s'.os = s.os ∧ AllBare s'.gens ∧ Un (frs outer) [] H H' s.heap s'.heap ∧ HOk P w H' s'.heap ∧ RelV v u ∧ Q v H'
def CR (CX : CXT) (outer : List Env) (P : Program) (w : World) (H : Hp) (s : Shared) (Q : VK) (E : XK) (r : Result) (s' : Shared) : Prop :=
 match r with
 | .ok (.ret u) => CE outer P w H s Q u s'
 | .ok _ => False
 | .error e => CX outer H s E e s'
structure FnOk (P : Program) (w : World) (K : PySem.W.Frag) (mg : Str → Option Value) (base : Heap) (CX : CXT) (k : Nat) (f : Addr) (fd : FuncData) (ps : List Str) (sp : Sp) : Prop where
 len : ∀ vs H Q E, sp vs H Q E → vs.length = ps.length
 run : ∀ (A : Around) (outer : List Env) (s : Shared) (H : Hp) (args : Args) (us : List Value) (vs : List V) (Q : VK) (E : XK), Room k A → Env0 P w K mg base A outer s H → BindsTo s fd args (ps.zip us) → Vals vs us → sp vs H Q E →
  codeAny (model P w) A (.call (.ref f) args) (CR CX outer P w H s Q E) s
theorem FnOk.mono {P : Program} {w : World} {K : PySem.W.Frag} {mg : Str → Option Value} {base : Heap} {CX : CXT} {j k : Nat} {f : Addr} {fd : FuncData} {ps : List Str} {sp : Sp} (F : FnOk P w K mg base CX j f fd ps sp) (h : j ≤ k) :
  FnOk P w K mg base CX k f fd ps sp := ⟨F.len, fun A outer s H args us vs Q E hr => F.run A outer s H args us vs Q E (hr.mono h)⟩
section
variable {X : Cx} {pins : List (Addr × Obj)} {σ : St} {H : Hp} {s s' : Shared}
theorem Inv.env0 (I : Inv X pins σ H s) : Env0 X.prog X.w X.K X.mg X.base X.A X.stack s H :=
 ⟨I.ok.frames, I.ok.mod, I.bs, Nat.le_trans I.ok.bsz I.sz, I.stack, I.stkFree, I.hok, I.bare⟩
theorem Inv.after {Q : VK} {u : Value} (I : Inv X pins σ H s) (h : CE X.stack X.prog X.w H s Q u s') : EP X pins σ Q u s' := by
 obtain ⟨v, H', os, bare, un, hok, r, q⟩ := h
 obtain ⟨hh, g, d, t, os'⟩ := s'
 obtain rfl : os' = s.os := os
 exact ⟨v, H', I.call (h' := hh) (g' := g) (d' := d) (t' := t) (ch := []) un hok bare (fun b z => absurd z (by simp)), r, q⟩
end
def tCall (sp : Sp) (dvs : List V) (E : XK) (t : TA) : TE := fun σ H Q => t σ H fun vs H1 => sp (vs ++ dvs) H1 Q E
def Binds (K : PySem.W.Frag) (fd : FuncData) (ps : List Str) (ds : List Value) : Prop :=
 ∀ (s : Shared) (us : List Value), K.In s.heap → (us ++ ds).length = ps.length → BindsTo s fd ⟨us, []⟩ (ps.zip (us ++ ds))
theorem Binds.all {K : PySem.W.Frag} {fd : FuncData} {ps : List Str} (h : ∀ us : List Value, us.length = ps.length → bindArgs fd ⟨us, []⟩ = pure (ps.zip us)) : Binds K fd ps [] := fun s us _ hl => by
 rw [List.append_nil] at hl ⊢
 exact .of_eq (h us hl)
def Passes (CX : CXT) (X : Cx) (E : XK) : Prop := ∀ (pins : List (Addr × Obj)) (σ : St) (H : Hp) (s : Shared) (e : Value) (s' : Shared), Inv X pins σ H s → CX X.stack H s E e s' → X.xe e s'
section
variable {X : Cx} {CX : CXT} {k : Nat} {f C : Addr} {fd : FuncData} {ps : List Str} {sp : Sp} {dvs : List V} {ds : List Value} {E : XK} {x m : Str} {p pos apos : Pos} {e o : Expr} {es : List Expr} {ta : TE} {t : TA}
theorem run_fn {pins : List (Addr × Obj)} {σ : St} {H : Hp} {s : Shared} {Q : VK} {us : List Value} {vs : List V} (F : FnOk X.prog X.w X.K X.mg X.base CX k f fd ps sp) (hr : Room k X.A) (hb : Binds X.K fd ps ds) (hd : Vals dvs ds) (hx : Passes CX X E)
  (I : Inv X pins σ H s) (r : Vals vs us) (h : sp (vs ++ dvs) H Q E) : wpAny (model X.prog X.w) X.A (call (.ref f) us) (EP X pins σ Q) X.xe s := by
 have r2 : Vals (vs ++ dvs) (us ++ ds) := r.append hd
 have hl : (us ++ ds).length = ps.length := by rw [← r2.length]; exact F.len _ _ _ _ h
 refine wpAny_call (codeAny_mono (F.run X.A X.stack s H ⟨us, []⟩ (us ++ ds) (vs ++ dvs) Q E hr I.env0 (hb s us I.kIn hl) r2 h) fun r s' hq => ?_)
 cases r with
 | error e => exact hx pins σ H s e s' I hq
 | ok fl =>
  cases fl with
  | ret u => exact I.after hq
  | next => exact False.elim hq
  | brk => exact False.elim hq
  | cont => exact False.elim hq
theorem pe_call (F : FnOk X.prog X.w X.K X.mg X.base CX k f fd ps sp) (hr : Room k X.A) (hg : Gl X x) (hm : X.mg x = some (.ref f)) (hk : PySem.W.keepIn X.K (.ref f) = true) (hb : Binds X.K fd ps ds) (hd : Vals dvs ds) (hx : Passes CX X E)
  (ha : PA X (e :: es) t) (hdb : (x == ("__debug__" : Str)) = false := by decide) (he : starEach (e :: es) X.env = (false, eval e X.env) :: starEach es X.env := by rfl) (hpl : (backTo pos (starEach es X.env)).any (·.1) = false := by rfl) :
  PE X (.Call (.Name x p) (e :: es) [] pos) (tCall sp dvs E t) := by
 intro pins s σ H Q I h
 refine wpAny_Call_Name_kw (ld_glob I hg hm ?_ hdb)
 refine PySem.W.callWith_K (h₀ := X.base) I.ok.mod.kin hk (thn (ha pos pins s σ H _ I h) fun us s1 ⟨vs, H1, I1, r, q⟩ => ⟨I1.kIn, ?_⟩) he hpl
 exact run_fn F hr hb hd hx I1 r q
end
section
variable {X : Cx} {CX : CXT} {k : Nat} {f C : Addr} {fd : FuncData} {ps ks : List Str} {sp : Sp} {E : XK} {x m : Str} {p pos apos kpos : Pos} {e o : Expr} {es : List Expr} {kws : List Keyword} {te ta : TE} {t tk : TA} {nm : Option Str}
variable {g : List Value → List Value → List Value} {gV : List V → List V → List V}
end
structure FnScope (N P : List Str) (sc : Scope) : Prop where
 kind : sc.kind = .function
 co : sc.isCoroutine = false
 gen : sc.isGenerator = false
 nd : N.Nodup
 pre : N.take P.length = P
 par : ∀ x ∈ P, sc.names.lookup x = some .local ∨ sc.names.lookup x = some .cell
 nofree : ∀ y ∈ sc.names, y.2 ≠ .free
theorem bindL_out {kindOf : Str → Option NameKind} {x : Str} : ∀ {binds : List (Str × Value)} {m : Str → Option Value}, (∀ v, (x, v) ∉ binds) → bindL kindOf binds m x = m x
 | [], _, _ => rfl
 | (n, v) :: r, m, h => by
  unfold bindL
  rw [bindL_out fun w hw => h w (List.mem_cons_of_mem _ hw)]
  split
  ·have : x ≠ n := by rintro rfl; exact h v List.mem_cons_self
   simp [this]
  ·rfl
theorem bindC_out {kindOf : Str → Option NameKind} {x : Str} : ∀ {binds : List (Str × Value)} {m : Str → Option Value}, (∀ v, (x, v) ∉ binds) → bindC kindOf binds m x = m x
 | [], _, _ => rfl
 | (n, v) :: r, m, h => by
  unfold bindC
  rw [bindC_out fun w hw => h w (List.mem_cons_of_mem _ hw)]
  split
  ·rfl
  ·have : x ≠ n := by rintro rfl; exact h v List.mem_cons_self
   simp [this]
theorem bindL_get {kindOf : Str → Option NameKind} {x : Str} {v : Value} : ∀ {P : List Str} {vs : List Value} {i : Nat} {m : Str → Option Value}, P.Nodup → P[i]? = some x → vs[i]? = some v → kindOf x = some .local →
  bindL kindOf (P.zip vs) m x = some v
 | [], _, _, _, _, h, _, _ => by simp at h
 | _ :: _, [], _, _, _, _, h, _ => by simp at h
 | p :: P, w :: vs, 0, m, nd, h1, h2, hk => by
  simp at h1 h2; subst h1; subst h2
  show bindL kindOf ((p, w) :: P.zip vs) m p = _
  unfold bindL
  rw [bindL_out fun v hv => (List.nodup_cons.mp nd).1 (List.of_mem_zip hv).1, if_pos hk]
  simp
 | p :: P, w :: vs, i + 1, m, nd, h1, h2, hk => by
  show bindL kindOf ((p, w) :: P.zip vs) m x = _
  unfold bindL
  exact bindL_get (i := i) (List.nodup_cons.mp nd).2 (by simpa using h1) (by simpa using h2) hk
theorem bindC_get {kindOf : Str → Option NameKind} {x : Str} {v : Value} : ∀ {P : List Str} {vs : List Value} {i : Nat} {m : Str → Option Value}, P.Nodup → P[i]? = some x → vs[i]? = some v → kindOf x ≠ some .local →
  bindC kindOf (P.zip vs) m x = some v
 | [], _, _, _, _, h, _, _ => by simp at h
 | _ :: _, [], _, _, _, _, h, _ => by simp at h
 | p :: P, w :: vs, 0, m, nd, h1, h2, hk => by
  simp at h1 h2; subst h1; subst h2
  show bindC kindOf ((p, w) :: P.zip vs) m p = _
  unfold bindC
  rw [bindC_out fun v hv => (List.nodup_cons.mp nd).1 (List.of_mem_zip hv).1, if_neg hk]
  simp
 | p :: P, w :: vs, i + 1, m, nd, h1, h2, hk => by
  show bindC kindOf ((p, w) :: P.zip vs) m x = _
  unfold bindC
  exact bindC_get (i := i) (List.nodup_cons.mp nd).2 (by simpa using h1) (by simpa using h2) hk
def start (N : List Str) (vs : List V) : St := vs.map some ++ List.replicate (N.length - vs.length) none
def cxOf (CX : CXT) (P : Program) (w : World) (K : PySem.W.Frag) (mg : Str → Option Value) (base : Heap) (N : List Str) (qual : Str) (scope : Scope) (f : Addr) (cd : Value) (A : Around) (outer : List Env) (s : Shared) (H : Hp) (E : XK) : Cx where
 prog := P
 w := w
 K := K
 mg := mg
 base := base
 A := A.deeper (envOfC qual scope s.heap.objs.size f cd)
 N := N
 s₀ := s
 H₀ := H
 env := envOfC qual scope s.heap.objs.size f cd
 outer := outer
 stack := envOfC qual scope s.heap.objs.size f cd :: outer
 ex := []
 calm := true
 fn := fun _ => true
 pn := []
 xe := fun e s' => wpAny (model P w) (A.deeper (envOfC qual scope s.heap.objs.size f cd)) (leaving (envOfC qual scope s.heap.objs.size f cd) e) (fun _ s'' => CX outer H s E e s'') (fun e' s'' => CX outer H s E e' s'') s'
theorem cell_has {sc : Scope} {n : Nat} {x : Str} (h : sc.names.lookup x = some .cell) : ∃ c, (cellsFrom n sc.names []).lookup x = some c := by
 have q := PySem.W.cellsFrom_some sc.names n [] (.inl h)
 exact Option.isSome_iff_exists.mp q
theorem inv_start {CX : CXT} {P : Program} {w : World} {K : PySem.W.Frag} {mg : Str → Option Value} {base : Heap} {N ps : List Str} {qual : Str} {scope : Scope} {f : Addr} {cd : Value} {A : Around} {outer : List Env} {s s1 : Shared} {H : Hp} {E : XK} {us : List Value} {vs : List V}
  (S : FnScope N ps scope) (hd : A.handled = none) (e0 : Env0 P w K mg base A outer s H) (hl : vs.length = ps.length) (r : Vals vs us)
  (x : InCallC s s.heap.objs.size (bindL (envOfC qual scope s.heap.objs.size f cd).kindOf (ps.zip us) fun _ => none) (cellsFrom (s.heap.objs.size + 1) scope.names []) (bindC (envOfC qual scope s.heap.objs.size f cd).kindOf (ps.zip us) fun _ => none) s1) :
  Inv (cxOf CX P w K mg base N qual scope f cd A outer s H E) [] (start N vs) H s1 := by
 have hpl : ps.length ≤ N.length := by have := congrArg List.length S.pre; rw [List.length_take] at this; omega
 obtain ⟨h1, tk, rfl, hk⟩ := x.done
 have noA : ∀ b : Addr, b ∉ (cxOf CX P w K mg base N qual scope f cd A outer s H E).ex := fun b z => absurd (show b ∈ ([] : List Addr) from z) (by simp)
 refine ⟨⟨e0.mod, S.kind, rfl, rfl, Nat.le_refl _, fun y z c h1 h2 => ?_, fun y hy => ?_, fun y c _ h => ?_, fun _ => hd, Around.frames_deeper e0.frames, .inr ⟨rfl, rfl⟩, fun b z => absurd z (noA b), e0.bs, e0.bsz, fun b _ _ => noA b, fun b z => absurd z (noA b), e0.funs, e0.frf⟩,
  rfl, e0.bare, Un.kept hk, ⟨_, x.toInCall.ns, fun i y v h1 h2 h3 => ?_⟩, fun y c h => ⟨_, x.cell y c h⟩, e0.hok.fresh (Nat.le_refl _), fun y c h => ?_, fun p hp => absurd (show p ∈ ([] : List (Addr × Obj)) from hp) (by simp), e0.hok.kept hk, ?_⟩
 ·exact name_of_addr x.apart (PySem.mem_of_lookup h1) (PySem.mem_of_lookup h2)
 ·have hy : scope.names.lookup y = some .cell ∨ scope.names.lookup y = some .free := hy
  rcases hy with hy | hy
  ·exact cell_has hy
  ·exact absurd rfl (S.nofree _ (PySem.mem_of_lookup hy))
 ·exact Nat.le_of_lt (x.above y c (PySem.mem_of_lookup h))
 ·have hi : i < vs.length := by
   unfold start at h2
   by_cases hi : i < vs.length
   ·exact hi
   ·rw [List.getElem?_append_right (by simpa using hi)] at h2
    rw [List.getElem?_replicate] at h2
    split at h2 <;> cases h2
  have ha : vs[i]? = some v := by
   unfold start at h2
   rw [List.getElem?_append_left (by simpa using hi), List.getElem?_map] at h2
   cases e : vs[i]? with
   | none => rw [e] at h2; cases h2
   | some a => rw [e] at h2; cases h2; rfl
  obtain ⟨u, hu, rv⟩ := r.get ha
  have hp : ps[i]? = some y := by
   rw [← S.pre, List.getElem?_take_of_lt (by omega)]; exact h1
  have ndP : ps.Nodup := by rw [← S.pre]; exact S.nd.sublist (List.take_sublist _ _)
  refine ⟨u, rv, ?_⟩
  rcases S.par y (List.mem_of_getElem? hp) with k | k
  ·exact .inl ⟨k, bindL_get ndP hp hu k⟩
  ·obtain ⟨c, e⟩ := cell_has (n := s.heap.objs.size + 1) k
   refine .inr ⟨.inl k, c, e, ?_⟩
   have q := x.cell y c e
   rw [bindC_get ndP hp hu (by show scope.names.lookup y ≠ _; rw [k]; decide)] at q
   exact q
 ·exact e0.hok.fresh (Nat.le_of_lt (x.above y c (PySem.mem_of_lookup h)))
 ·unfold start
  show _ = N.length
  rw [List.length_append, List.length_map, List.length_replicate]
  omega
theorem fn_of {CX : CXT} {P : Program} {w : World} {K : PySem.W.Frag} {mg : Str → Option Value} {base : Heap} {k : Nat} {f : Addr} {name qual : Str} {params : Arguments} {body : List Stmt} {scope : Scope} {dV kV doc pm cdv ct oc : Value} {an od : Option Addr}
  {osl : Array (Option Value)} {N ps : List Str} {sp : Sp} (lk : K.lookup f = some ⟨oc, od, .func (PySem.W.fnOf name qual params body scope dV kV doc pm an cdv ct), osl⟩) (hcd : PySem.W.codeIn K cdv qual = true) (S : FnScope N ps scope)
  (len : ∀ vs H Q E, sp vs H Q E → vs.length = ps.length)
  (hbody : ∀ (A : Around) (outer : List Env) (s : Shared) (H : Hp) (vs : List V) (Q : VK) (E : XK), Room k (A.deeper (envOfC qual scope s.heap.objs.size f cdv)) → sp vs H Q E →
   ∃ t, PSs (cxOf CX P w K mg base N qual scope f cdv A outer s H E) body t ∧ t { nx := fun _ H' => Q .non H', rt := Q } (start N vs) H) :
  FnOk P w K mg base CX (k + 1) f (PySem.W.fnOf name qual params body scope dV kV doc pm an cdv ct) ps sp := by
 refine ⟨len, fun A outer s H args us vs Q E hr e0 hb r hsp => ?_⟩
 have hl := len _ _ _ _ hsp
 have KX : K.In s.heap := e0.mod.kin.keeps fun b o e => (e0.bs b o e).1
 have lim : s.heap.NoLimit := e0.mod.nolimit.keeps fun b o e => (e0.bs b o e).1
 have hkind : ∀ y ∈ ps.zip us, scope.names.lookup y.1 = some .local ∨ (scope.names.lookup y.1 = some .cell ∧ ((cellsFrom (s.heap.objs.size + 1) scope.names []).lookup y.1).isSome = true) := fun ⟨n, v⟩ hy => by
  rcases S.par n (List.of_mem_zip hy).1 with q | q
  ·exact .inl q
  ·exact .inr ⟨q, PySem.W.cellsFrom_some _ _ _ (.inl q)⟩
 refine codeAny_call_function hr.depth (KX _ _ lk) rfl S.co S.gen rfl (PySem.W.codeRec_of KX hcd) (hb _ _ _ _ ?_)
 refine wpAny_newFunctionEnv_cells S.kind hkind fun env he s1 x => ?_
 subst he
 refine ⟨lim.keeps x.toInCall.keep, codeAny_func ?_⟩
 obtain ⟨t, ht, hq⟩ := hbody A outer s H vs Q E (hr.deeper _) hsp
 have I : Inv (cxOf CX P w K mg base N qual scope f cdv A outer s H E) [] (start N vs) H s1 := inv_start S hr.hd e0 hl r x
 refine wpAny_mono (ht [] s1 (start N vs) H _ I hq) (fun fl s' hs => ?_) fun e s' hs => hs
 have fin : ∀ {σ' : St} {H' : Hp} {v : V} {u : Value}, Inv (cxOf CX P w K mg base N qual scope f cdv A outer s H E) [] σ' H' s' → RelV v u → Q v H' → CE outer P w H s Q u s' :=
  fun {σ' H' v u} J rv q => ⟨v, H', J.os, J.bare, J.base, J.hok, rv, q⟩
 cases fl with
 | ret u =>
  obtain ⟨v, σ', H', J, rv, q⟩ := hs
  exact fin J rv q
 | next =>
  obtain ⟨σ', H', J, q⟩ := hs
  exact fin (v := V.non) (u := Value.none) J rfl q
 | brk =>
  obtain ⟨_, _, _, q⟩ := hs
  exact False.elim q
 | cont =>
  obtain ⟨_, _, _, q⟩ := hs
  exact False.elim q
end L2
namespace L2
open PySem PySem.Spec PyProof.Rows
section
variable {X : Cx} {x : Str} {p pos : Pos} {e : Expr} {es : List Expr} {t : TA} {id T : String} {r : List V → Hp → VK → Prop}
def tCB (r : List V → Hp → VK → Prop) (t : TA) : TE := fun σ H Q => t σ H fun vs H1 => r vs H1 Q
theorem pe_callB (hc : CallR X (.builtin id) r) (hg : Gl X x) (hm : X.mg x = none) (hv : bootBuiltins x = some (.builtin id)) (ha : PA X (e :: es) t) (hn : x ≠ "__name__" := by decide) (hdb : (x == ("__debug__" : Str)) = false := by decide)
  (he : starEach (e :: es) X.env = (false, eval e X.env) :: starEach es X.env := by rfl) (hpl : (backTo pos (starEach es X.env)).any (·.1) = false := by rfl) : PE X (.Call (.Name x p) (e :: es) [] pos) (tCB r t) := by
 intro pins s σ H Q I h
 refine wpAny_Call_Name_kw (ld_blt I hg hm hv ?_ hn hdb)
 exact PyProof.Rows.callWith_builtin1 (thn (ha pos pins s σ H _ I h) fun us s1 ⟨vs, H1, I1, r1, q1⟩ => hc pins s1 σ H1 vs us Q I1 r1 q1) he hpl
theorem pe_callTy (hc : CallR X (.type T) r) (hg : Gl X x) (hm : X.mg x = none) (hv : bootBuiltins x = some (.type T)) (ha : PA X (e :: es) t) (hn : x ≠ "__name__" := by decide) (hdb : (x == ("__debug__" : Str)) = false := by decide)
  (he : starEach (e :: es) X.env = (false, eval e X.env) :: starEach es X.env := by rfl) (hpl : (backTo pos (starEach es X.env)).any (·.1) = false := by rfl) : PE X (.Call (.Name x p) (e :: es) [] pos) (tCB r t) := by
 intro pins s σ H Q I h
 refine wpAny_Call_Name_kw (ld_blt I hg hm hv ?_ hn hdb)
 exact PyProof.Rows.callWith_type1 (thn (ha pos pins s σ H _ I h) fun us s1 ⟨vs, H1, I1, r1, q1⟩ => hc pins s1 σ H1 vs us Q I1 r1 q1) he hpl
end
end L2
namespace HT
open PySem PyProof.Rows
section
open PySem.SeqAt
open PySem.AutoSeq1 (wpAny_loadPart')
open PySem.MeetsSeq PySem.MeetsSeq2 PySem.MeetsSeq3
end
section
variable {prog : Program} {w : World} {A : Around} {E : Value → Shared → Prop} {s : Shared}
def sIx (n d : Nat) : Option Int → Nat
 | none => d
 | some v => if v < 0 then (v + (n : Int)).toNat else min v.toNat n
theorem sIx_nat (n d k : Nat) : sIx n d (some (k : Int)) = min k n := by
 show (if (k : Int) < 0 then ((k : Int) + (n : Int)).toNat else min (k : Int).toNat n) = min k n
 rw [if_neg (by omega), Int.toNat_natCast]
theorem sIx_le (n d : Nat) (hd : d ≤ n) (o : Option Int) : sIx n d o ≤ n := by
 cases o with
 | none => exact hd
 | some v =>
  show (if v < 0 then (v + (n : Int)).toNat else min v.toNat n) ≤ n
  by_cases hv : v < 0
  ·rw [if_pos hv]; omega
  ·rw [if_neg hv]; exact Nat.min_le_right _ _
theorem clip_eq (v : Int) (n d : Nat) : (if v < 0 then max (v + (n : Int)) 0 else min v (n : Int)) = ((sIx n d (some v) : Nat) : Int) := by
 show (if v < 0 then max (v + (n : Int)) 0 else min v (n : Int)) = (((if v < 0 then (v + (n : Int)).toNat else min v.toNat n) : Nat) : Int)
 by_cases hv : v < 0
 ·simp only [if_pos hv]; omega
 ·simp only [if_neg hv]; omega
theorem adjust_gen (lo hi : Option Int) (n : Nat) : Builtin.Slice.sliceAdjust lo hi 1 (n : Int) = (((sIx n 0 lo : Nat) : Int), ((sIx n n hi : Nat) : Int)) := by
 have h1 : ¬ ((1 : Int) < 0) := by omega
 unfold Builtin.Slice.sliceAdjust
 simp only [h1, if_false]
 refine Prod.ext ?_ ?_
 ·cases lo with
  | none => rfl
  | some v => exact clip_eq v n 0
 ·cases hi with
  | none => rfl
  | some v => exact clip_eq v n n
theorem places_gen (i j : Nat) : Builtin.Slice.slicePlaces (i : Int) (j : Int) 1 = j - i := by
 unfold Builtin.Slice.slicePlaces
 have h1 : (1 : Int) > 0 := by omega
 simp only [h1, if_true, Int.ediv_one]
 split <;> omega
theorem slicePart_ {v : Value} {o : Option Int} {Q : Option Int → Shared → Prop} (p : IsPart v o) (h : Q o s) : wpAny (model prog w) A (Builtin.Slice.slicePartIndex v) Q E s := by
 cases p with
 | none => exact slicePart_none h
 | int i t => exact slicePart_int h
theorem sliceApplied_gen {sl : Addr} {vl vu : Value} {lo hi : Option Int} {n : Nat} {Q : Int × Int × Nat → Shared → Prop} (hs : s.heap.IsSliceOf sl vl vu .none) (pl : IsPart vl lo) (pu : IsPart vu hi)
  (h : Q (((sIx n 0 lo : Nat) : Int), 1, sIx n n hi - sIx n 0 lo) s) : wpAny (model prog w) A (Builtin.Slice.sliceApplied (.ref sl) (pure (n : Int))) Q E s := by
 obtain ⟨os, hos, hcs, hds⟩ := id hs
 unfold Builtin.Slice.sliceApplied Builtin.Slice.sliceFields
 refine wpAny_bind (wpAny_bind (wpAny_field hos hds (x := vl) rfl (wpAny_bind (wpAny_field hos hds (x := vu) rfl (wpAny_bind (wpAny_field hos hds (x := .none) rfl (wpAny_pure ?_)))))))
 refine wpAny_bind (slicePart_none ?_)
 show wpAny _ _ (if ((1 : Int) == 0) = true then _ else _) _ _ s
 rw [if_neg (by decide)]
 refine wpAny_bind (slicePart_ pl (wpAny_bind (slicePart_ pu (wpAny_bind (wpAny_pure ?_)))))
 show wpAny _ _ (match Builtin.Slice.sliceAdjust lo hi 1 (n : Int) with | (lo, hi) => pure (lo, (1 : Int), Builtin.Slice.slicePlaces lo hi 1)) _ _ s
 rw [adjust_gen lo hi n]
 show wpAny _ _ (pure (((sIx n 0 lo : Nat) : Int), (1 : Int), Builtin.Slice.slicePlaces ((sIx n 0 lo : Nat) : Int) ((sIx n n hi : Nat) : Int) 1)) _ _ s
 rw [places_gen]
 exact wpAny_pure h
theorem pick_gen (xs : Array Value) (i k : Nat) : ((List.range k).filterMap fun (m : Nat) => xs[((i : Int) + (m : Int) * 1).toNat]?).toArray = ((xs.toList.drop i).take k).toArray := by
 have e : (fun (m : Nat) => xs[((i : Int) + (m : Int) * 1).toNat]?) = fun m => xs[i + m]? := by
  funext m
  have : ((i : Int) + (m : Int) * 1).toNat = i + m := by omega
  rw [this]
 rw [e]
 have := pick_run xs i k
 rw [List.filterMap_map] at this
 have e2 : ((fun x => xs[x]?) ∘ fun x => i + x) = fun m => xs[i + m]? := rfl
 rw [e2] at this
 rw [this]
theorem getItem_tuple_cut {t sl : Addr} {items : Array Value} {vl vu : Value} {lo hi : Option Int} {Q : Value → Shared → Prop} (ht : IsTup s.heap t items) (hs : s.heap.IsSliceOf sl vl vu .none) (pl : IsPart vl lo) (pu : IsPart vu hi)
  (hw : ¬ (sIx items.size 0 lo = 0 ∧ sIx items.size items.size hi = items.size))
  (h : Q (.ref s.heap.objs.size) { s with heap := s.heap.push { cls := .type "tuple", data := .seq ((items.toList.drop (sIx items.size 0 lo)).take (sIx items.size items.size hi - sIx items.size 0 lo)).toArray } })
  (hsz : items.size ≤ sizeLine) : wpAny (model prog w) A (getItem (.ref t) (.ref sl)) Q E s := by
 have htake : sizeOk (.seq ((items.toList.drop (sIx items.size 0 lo)).take (sIx items.size items.size hi - sIx items.size 0 lo)).toArray) := by
  show ((items.toList.drop (sIx items.size 0 lo)).take (sIx items.size items.size hi - sIx items.size 0 lo)).toArray.size ≤ sizeLine
  rw [List.size_toArray, List.length_take, List.length_drop, Array.length_toList]
  omega
 have hj : sIx items.size items.size hi ≤ items.size := sIx_le _ _ (Nat.le_refl _) hi
 obtain ⟨os, hos, hcs, hds⟩ := id hs
 have hTs : s.TypeIs (.ref sl) "slice" := ⟨os, hos, hcs⟩
 unfold getItem
 try with_reducible refine wpAny_holding ?_
 first | refine wpAny_bind (wpAny_pure ?_) | skip
 refine wpAny_bind (wpAny_sequenceKey ht.typeIs (by decide) ?_)
 refine wpAny_bind (wpAny_callSpecial?_slot (name := Str.ofString "__getitem__") ht.typeIs PyProof.Rows.slot_tuple_getitem
  (wpAny_call_entry PyProof.Rows.slot_tuple_getitem ht.typeIs entry_tuple_getitem ?_ (args_tuple_getitem _ _)))
 show wpAny _ _ (Builtin.Tuple.tupleItemsOf (.ref t) >>= _) _ _ s
 refine wpAny_bind (tupleItemsOf_ ht ?_)
 refine wpAny_bind (wpAny_typeOf hTs ?_)
 rw [if_pos (by decide)]
 refine wpAny_bind (sliceApplied_gen hs pl pu ?_)
 have hno : ¬ ((((sIx items.size 0 lo : Nat) : Int) == 0 && (1 : Int) == 1 && (sIx items.size items.size hi - sIx items.size 0 lo) == items.size) = true) := by
  intro q
  rw [Bool.and_eq_true, Bool.and_eq_true] at q
  have q1 : ((sIx items.size 0 lo : Nat) : Int) = 0 := eq_of_beq q.1.1
  have q2 : sIx items.size items.size hi - sIx items.size 0 lo = items.size := eq_of_beq q.2
  exact hw ⟨by omega, by omega⟩
 show wpAny _ _ (if (((sIx items.size 0 lo : Nat) : Int) == 0 && (1 : Int) == 1 && (sIx items.size items.size hi - sIx items.size 0 lo) == items.size) = true then _ else _) _ _ s
 rw [if_neg hno, pick_gen]
 first
  | exact wpAny_bind (m := Builtin.Tuple.tupleExact _) (wpAny_newObj_type (wpAny_pure ⟨_, rfl, wpAny_pure h⟩) htake)
  | exact wpAny_bind (m := Builtin.Tuple.tupleExact _) (wpAny_newObj_type (wpAny_bind (wpAny_pure (wpAny_pure ⟨_, rfl, wpAny_pure h⟩))) htake)
  | exact wpAny_bind (wpAny_bind (m := Builtin.Tuple.tupleExact _) (wpAny_newObj_type (wpAny_pure (wpAny_pure ⟨_, rfl, wpAny_pure h⟩)) htake))
  | exact wpAny_bind (wpAny_bind (m := Builtin.Tuple.tupleExact _) (wpAny_newObj_type (wpAny_pure ⟨_, rfl, wpAny_pure h⟩) htake))
end
end HT
namespace L2
open PySem PySem.Spec PyProof.Rows
abbrev TO := St → Hp → (Option Int → Hp → Prop) → Prop
def PO (X : Cx) (e : Option Expr) (t : TO) : Prop :=
 ∀ (pins : List (Addr × Obj)) (s : Shared) (σ : St) (H : Hp) (Q : Option Int → Hp → Prop), Inv X pins σ H s → t σ H Q →
  wpAny (model X.prog X.w) X.A (evalPart e X.env) (fun u s' => ∃ o H', Inv X pins σ H' s' ∧ IsPart u o ∧ Q o H') X.xe s
def tNoPart : TO := fun _ H Q => Q none H
def tPart (t : TE) : TO := fun σ H Q => t σ H fun x H1 => ∃ i, x = .int i ∧ Q (some i) H1
section
variable {X : Cx} {e : Expr} {te : TE} {lo hi : Option Expr} {tl th : TO} {pos p2 : Pos}
theorem po_none : PO X none tNoPart := by
 intro pins s σ H Q I h
 rw [evalPart_none]
 exact wpAny_pure ⟨none, H, I, .none, h⟩
theorem po_some (h : PE X e te) : PO X (some e) (tPart te) := by
 intro pins s σ H Q I hw
 rw [evalPart_some]
 refine thn (h pins s σ H _ I hw) fun u s1 ⟨x, H1, I1, r1, q1⟩ => ?_
 obtain ⟨i, rfl, q⟩ := q1
 obtain ⟨t, rfl⟩ := r1
 exact ⟨some i, H1, I1, .int i t, q⟩
def SlR (X : Cx) (r : V → Option Int → Option Int → Hp → VK → Prop) : Prop :=
 ∀ (pins : List (Addr × Obj)) (s : Shared) (σ : St) (H : Hp) (x : V) (v vl vu : Value) (lo hi : Option Int) (sl : Addr) (Q : VK), Inv X pins σ H s → RelV x v → s.heap.IsSliceOf sl vl vu .none → IsPart vl lo → IsPart vu hi → r x lo hi H Q →
  ∃ T id, typeLookup (.type T) "__getitem__" = pure (some (.builtin id)) ∧ s.TypeIs v T ∧ wpAny (model X.prog X.w) X.A (getItem v (.ref sl)) (EP X pins σ Q) X.xe s
def tSl (r : V → Option Int → Option Int → Hp → VK → Prop) (te : TE) (tl th : TO) : TE := fun σ H Q => te σ H fun x H1 => tl σ H1 fun l H2 => th σ H2 fun u H3 => r x l u H3 Q
theorem pe_slice {r : V → Option Int → Option Int → Hp → VK → Prop} (hr : SlR X r) (he : PE X e te) (hl : PO X lo tl) (hu : PO X hi th) : PE X (.Subscript e (.Slice lo hi none p2) pos) (tSl r te tl th) := by
 intro pins s σ H Q I h
 refine Subscript_ (thn (he pins s σ H _ I h) fun v s1 ⟨x, H1, I1, r1, q1⟩ => ?_)
 refine wpAny_Slice (thn (hl pins s1 σ H1 _ I1 q1) fun vl s2 ⟨l, H2, I2, pl, q2⟩ => thn (hu pins s2 σ H2 _ I2 q2) fun vu s3 ⟨u, H3, I3, pu, q3⟩ => ?_)
 rw [evalPart_none]
 refine wpAny_pure ?_
 have I4 : Inv X pins σ H3 { s3 with heap := s3.heap.push { cls := .type "slice", data := .fields #[vl, vu, .none] } } := I3.kept (t' := s3.toks) fun b ob q => Heap.get?_push_of_some _ q
 obtain ⟨T, id, hT, ht, hg⟩ := hr pins { s3 with heap := s3.heap.push { cls := .type "slice", data := .fields #[vl, vu, .none] } } σ H3 x v vl vu l u s3.heap.objs.size Q I4 r1 (Heap.IsSliceOf.new ..) pl pu q3
 show wpAny (model X.prog X.w) X.A (subscriptTail e (.Slice lo hi none p2) v (.ref s3.heap.objs.size)) (EP X pins σ Q) X.xe { s3 with heap := s3.heap.push { cls := .type "slice", data := .fields #[vl, vu, .none] } }
 exact tail_any (ops := [.ref s3.heap.objs.size, v]) ht hT hg (by with_unfolding_all rfl)
def cutV (xs : List V) (lo hi : Option Int) : List V := (xs.drop (HT.sIx xs.length 0 lo)).take (HT.sIx xs.length xs.length hi - HT.sIx xs.length 0 lo)
theorem cutV_length (xs : List V) (lo hi : Option Int) : (cutV xs lo hi).length ≤ xs.length := by
 unfold cutV
 rw [List.length_take, List.length_drop]
 omega
def rSlT (K : PySem.W.Frag) : V → Option Int → Option Int → Hp → VK → Prop := fun x lo hi H Q => ∃ a xs, x = .ref a ∧ SqT K H a xs ∧
 ¬ (HT.sIx xs.length 0 lo = 0 ∧ HT.sIx xs.length xs.length hi = xs.length) ∧ ∀ p, H p = none → Q (.ref p) (upd H p (.tup (cutV xs lo hi)))
theorem sl_tup : SlR X (rSlT X.K) := by
 intro pins s σ H x v vl vu lo hi sl Q I rx hs pl pu h
 obtain ⟨a, xs, rfl, hx, hw, q⟩ := h
 cases rx
 obtain ⟨its, r, ht, hz⟩ := I.tuple hx
 have hlen : its.toArray.size = xs.length := by rw [List.size_toArray]; exact r.length.symm
 refine ⟨"tuple", _, PyProof.Rows.slot_tuple_getitem.lookup, ht.typeIs, ?_⟩
 refine HT.getItem_tuple_cut ht hs pl pu (by rw [hlen]; exact hw) ?_ (by rw [hlen]; exact hz)
 rw [hlen]
 refine ⟨.ref s.heap.objs.size, _, I.laid (t' := s.toks) (o := .tup (cutV xs lo hi)) (fun b ob q => Heap.get?_push_of_some _ q) (Nat.le_refl _) ?_, rfl, q _ (I.hok.fresh (Nat.le_refl _))⟩
 exact ⟨Nat.le_trans (cutV_length xs lo hi) hz, _, (r.drop (HT.sIx xs.length 0 lo)).take (HT.sIx xs.length xs.length hi - HT.sIx xs.length 0 lo), IsTup.new _ _⟩
end
end L2
namespace L2
open PySem PySem.Spec PyProof.Rows
def ixN (n : Nat) (i : Int) : Option Nat := if 0 ≤ i then (if i < n then some i.toNat else none) else if -(n : Int) ≤ i then some (i + n).toNat else none
def atI {α : Type} (xs : List α) (i : Int) : Option α := (ixN xs.length i).bind fun j => xs[j]?
theorem ixN_seq {n : Nat} {i : Int} {j : Nat} (h : ixN n i = some j) : seqIndex? i n = some j ∧ j < n ∧ -(n : Int) ≤ i ∧ i < n := by
 unfold ixN at h
 by_cases h0 : 0 ≤ i
 ·rw [if_pos h0] at h
  by_cases h1 : i < n
  ·rw [if_pos h1] at h
   have e : i.toNat = j := Option.some.inj h
   exact ⟨by rw [seqIndex_of h0 h1, e], by omega, by omega, h1⟩
  ·rw [if_neg h1] at h; cases h
 ·rw [if_neg h0] at h
  by_cases h1 : -(n : Int) ≤ i
  ·rw [if_pos h1] at h
   have e : (i + n).toNat = j := Option.some.inj h
   exact ⟨by rw [seqIndex_neg (by omega) h1, e], by omega, h1, by omega⟩
  ·rw [if_neg h1] at h; cases h
theorem atI_get {α : Type} {xs : List α} {i : Int} {v : α} (h : atI xs i = some v) : ∃ j, seqIndex? i xs.length = some j ∧ xs[j]? = some v ∧ j < xs.length ∧ -(xs.length : Int) ≤ i ∧ i < xs.length := by
 unfold atI at h
 cases e : ixN xs.length i with
 | none => rw [e] at h; cases h
 | some j =>
  rw [e] at h
  obtain ⟨h1, h2, h3, h4⟩ := ixN_seq e
  exact ⟨j, h1, h, h2, h3, h4⟩
theorem atI_nat {α : Type} {xs : List α} {j : Nat} {v : α} (h : xs[j]? = some v) : atI xs (j : Int) = some v := by
 have hj : j < xs.length := (List.getElem?_eq_some_iff.mp h).1
 have e : ixN xs.length (j : Int) = some j := by
  unfold ixN
  rw [if_pos (by omega), if_pos (by omega)]; simp
 unfold atI; rw [e]; exact h
def PlainIx (b : Expr) : Prop := ∀ o i, subscripted b false o i = operate [o, i] (getItem o i)
def IxR (X : Cx) (r : R2) : Prop :=
 ∀ (value slice : Expr) (pins : List (Addr × Obj)) (s : Shared) (σ : St) (H : Hp) (x y : V) (v u : Value) (Q : VK), Inv X pins σ H s → RelV x v → RelV y u → r x y H Q →
  subscripted slice false v u = operate [v, u] (getItem v u) → wpAny (model X.prog X.w) X.A (subscriptTail value slice v u) (EP X pins σ Q) X.xe s
def MtR (X : Cx) (id : String) (r : V → List V → Hp → VK → Prop) : Prop :=
 ∀ (pins : List (Addr × Obj)) (s : Shared) (σ : St) (H : Hp) (x : V) (xs : List V) (v : Value) (us : List Value) (Q : VK), Inv X pins σ H s → RelV x v → Vals xs us → r x xs H Q →
  wpAny (model X.prog X.w) X.A (call (.builtin id) (v :: us)) (EP X pins σ Q) X.xe s
section
variable {X : Cx} {a b : Expr} {ta tb : TE} {pos : Pos}
theorem pe_ix {r : R2} (hr : IxR X r) (ha : PE X a ta) (hb : PE X b tb) (hs : PlainIx b) : PE X (.Subscript a b pos) (tOp r ta tb) := by
 intro pins s σ H Q I h
 exact Subscript_ (binT ha hb I h fun v u s2 x y H2 I2 rx ry q => hr a b pins s2 σ H2 x y v u Q I2 rx ry q (hs _ _))
def rIxL (K : PySem.W.Frag) : R2 := fun x y H Q => ∃ p xs i v, x = .ref p ∧ y = .int i ∧ SqL K H p xs ∧ atI xs i = some v ∧ Q v H
def rIxT (K : PySem.W.Frag) : R2 := fun x y H Q => ∃ p xs i v, x = .ref p ∧ y = .int i ∧ SqT K H p xs ∧ atI xs i = some v ∧ Q v H
theorem ix_list : IxR X (rIxL X.K) := by
 intro value slice pins s σ H x y v u Q I rx ry h hs
 obtain ⟨p, xs, i, z, rfl, rfl, hq, he, q⟩ := h
 cases rx
 obtain ⟨t, rfl⟩ := ry
 obtain ⟨its, r, pl, hz⟩ := I.list hq
 obtain ⟨j, h1, h2, h3, h4, h5⟩ := atI_get he
 obtain ⟨w, ew, rw'⟩ := r.get h2
 have hl := r.length
 have hn := line63
 have fin : EP X pins σ Q w s := ⟨z, H, I, rw', q⟩
 by_cases h0 : 0 ≤ i
 ·have hj : i.toNat = j := by
   rw [seqIndex_of h0 h5] at h1
   exact Option.some.inj h1
  exact item_listR pl.isList h0 (by omega) (by rw [hj]; simpa using ew) fin hs
 ·have hj : (i + (its.toArray.size : Int)).toNat = j := by
   rw [seqIndex_neg (by omega) h4] at h1
   rw [List.size_toArray, ← hl]
   exact Option.some.inj h1
  exact subscriptTail_builtinR (x := w) pl.isList.typeIs slot_list_getitem.lookup
   (wpAny_getItem_list_neg (Q := fun r s' => r = w ∧ EP X pins σ Q r s') pl.isList (by omega) (by rw [List.size_toArray] <;> omega) (by omega) (by rw [hj]; simpa using ew) ⟨rfl, fin⟩) hs
theorem ix_tup : IxR X (rIxT X.K) := by
 intro value slice pins s σ H x y v u Q I rx ry h hs
 obtain ⟨p, xs, i, z, rfl, rfl, hq, he, q⟩ := h
 cases rx
 obtain ⟨t, rfl⟩ := ry
 obtain ⟨its, r, pl, hz⟩ := I.tuple hq
 obtain ⟨j, h1, h2, h3, h4, h5⟩ := atI_get he
 obtain ⟨w, ew, rw'⟩ := r.get h2
 have hl := r.length
 have hn := line63
 have fin : EP X pins σ Q w s := ⟨z, H, I, rw', q⟩
 exact subscriptTail_builtinR (x := w) pl.typeIs slot_tuple_getitem.lookup
  (getItem_tuple (j := j) (Q := fun r s' => r = w ∧ EP X pins σ Q r s') pl (by omega) (by omega) (by rw [List.size_toArray, ← hl]; exact h1) (by simpa using ew) ⟨rfl, fin⟩) hs
theorem mapSeq_set (its : List Value) (n j : Nat) (u : Value) : Obj.mapSeq (·.setIfInBounds j u) { cls := .type "list", data := .seq its.toArray n } = { cls := .type "list", data := .seq (its.set j u).toArray n } := by
 simp [Obj.mapSeq]
theorem Inv.lst {pins : List (Addr × Obj)} {σ : St} {H : Hp} {s : Shared} {p : Addr} {xs : List V} (I : Inv X pins σ H s) (h : H p = some (.lst xs)) :
  ∃ (its : List Value) (n : Nat), Vals xs its ∧ s.heap.get? p = some { cls := .type "list", data := .seq its.toArray n } ∧ xs.length ≤ sizeLine := by
 obtain ⟨z, its, n, r, e⟩ := I.hok p _ h
 exact ⟨its, n, r, e, z⟩
theorem Inv.lstUpd {pins : List (Addr × Obj)} {σ : St} {H : Hp} {s : Shared} {p : Addr} {xs ys : List V} {its its' : List Value} {n n' : Nat} {f : Obj → Obj} (I : Inv X pins σ H s) (h : H p = some (.lst xs))
  (ho : s.heap.get? p = some { cls := .type "list", data := .seq its.toArray n }) (hf : f { cls := .type "list", data := .seq its.toArray n } = { cls := .type "list", data := .seq its'.toArray n' }) (r : Vals ys its') (hz : ys.length ≤ sizeLine) (t : Nat) :
  Inv X pins σ (upd H p (.lst ys)) { s with heap := s.heap.update p f, toks := t } := by
 have e : (s.heap.update p f).get? p = some { cls := .type "list", data := .seq its'.toArray n' } := by
  rw [Heap.get?_update_self f ho (by rw [hf] <;> rfl), hf]
 refine I.write (x := p) (e := p) (by rw [h]; trivial) (.inl rfl) (fun b u hb q => (Heap.get?_update_other _ _ (Ne.symm hb)).trans q) ⟨_, e⟩ ?_
 exact ⟨hz, its', n', r, e⟩
def rSetL : V → V → V → Hp → (Hp → Prop) → Prop := fun o i v H Q => ∃ p xs k j, o = .ref p ∧ i = .int k ∧ H p = some (.lst xs) ∧ ixN xs.length k = some j ∧ Q (upd H p (.lst (xs.set j v)))
theorem set_list : PSet X rSetL := by
 intro pins s σ H o i v ov iv u Q I ro ri rv h
 obtain ⟨p, xs, k, j, rfl, rfl, hp, hj, q⟩ := h
 cases ro
 obtain ⟨t, rfl⟩ := ri
 obtain ⟨its, n, r, ho, hz⟩ := I.lst hp
 obtain ⟨h1, h2, h3, h4⟩ := ixN_seq hj
 have hl := r.length
 have hn := line63
 have I' : Inv X pins σ (upd H p (.lst (xs.set j v))) { s with heap := s.heap.update p (Obj.mapSeq (·.setIfInBounds j u)) } :=
  I.lstUpd hp ho (mapSeq_set its n j u) (r.set rv j) (by rw [List.length_set]; exact hz) s.toks
 by_cases h0 : 0 ≤ k
 ·have hk : k.toNat = j := by
   rw [seqIndex_of h0 h4] at h1
   exact Option.some.inj h1
  exact PySem.W.ki_setAt ho h0 (by omega) (by rw [List.size_toArray, ← hl]; exact h4) (by rw [hk]; exact ⟨_, I', q⟩)
 ·have hk : (k + (its.toArray.size : Int)).toNat = j := by
   rw [seqIndex_neg (by omega) h3] at h1
   rw [List.size_toArray, ← hl]
   exact Option.some.inj h1
  exact PySem.W.ki_setBack ho (by omega) (by rw [List.size_toArray, ← hl]; exact h3) (by omega) (by rw [hk]; exact ⟨_, I', q⟩)
theorem slice_bounds (lo hi : Option Int) (n : Nat) : (sliceBounds lo hi none n).1 = ((HT.sIx n 0 lo : Nat) : Int) ∧ (sliceBounds lo hi none n).2.1 = ((HT.sIx n n hi : Nat) : Int) ∧ (sliceBounds lo hi none n).2.2 = 1 := by
 refine ⟨?_, ?_, rfl⟩
 ·cases lo with
  | none => simp [sliceBounds, HT.sIx]
  | some i =>
   simp only [sliceBounds, HT.sIx, Option.getD_none, show (1 : Int) > 0 by decide, if_true]
   by_cases h : i < 0
   ·simp only [h, if_true] <;> omega
   ·simp only [h, if_false] <;> omega
 ·cases hi with
  | none => simp [sliceBounds, HT.sIx]
  | some i =>
   simp only [sliceBounds, HT.sIx, Option.getD_none, show (1 : Int) > 0 by decide, if_true]
   by_cases h : i < 0
   ·simp only [h, if_true] <;> omega
   ·simp only [h, if_false] <;> omega
theorem slicePick_cut (its : List Value) (lo hi : Option Int) : slicePick its.toArray lo hi none = ((its.drop (HT.sIx its.length 0 lo)).take (HT.sIx its.length its.length hi - HT.sIx its.length 0 lo)).toArray := by
 obtain ⟨h1, h2, h3⟩ := slice_bounds lo hi its.toArray.size
 unfold slicePick
 rw [h1, h2, h3]
 simp only [sliceRange_one, pick_run, List.size_toArray] <;> rfl
def rSlL (K : PySem.W.Frag) : V → Option Int → Option Int → Hp → VK → Prop := fun x lo hi H Q => ∃ a xs, x = .ref a ∧ SqL K H a xs ∧ ∀ p, H p = none → Q (.ref p) (upd H p (.lst (cutV xs lo hi)))
theorem sl_list : SlR X (rSlL X.K) := by
 intro pins s σ H x v vl vu lo hi sl Q I rx hs pl pu h
 obtain ⟨a, xs, rfl, hx, q⟩ := h
 cases rx
 obtain ⟨its, r, ht, hz⟩ := I.list hx
 have hlen := r.length
 refine ⟨"list", _, slot_list_getitem.lookup, ht.isList.typeIs, ?_⟩
 refine wpAny_getItem_list_slice ht.isList hs pl pu .none (by simp) ?_ (by rw [List.size_toArray] <;> omega)
 rw [slicePick_cut, ← hlen]
 refine ⟨.ref s.heap.objs.size, _, I.laid (t' := s.toks) (o := .lst (cutV xs lo hi)) (fun b ob q => Heap.get?_push_of_some _ q) (Nat.le_refl _) ?_, rfl, q _ (I.hok.fresh (Nat.le_refl _))⟩
 exact ⟨Nat.le_trans (cutV_length xs lo hi) hz, _, 0, (r.drop (HT.sIx xs.length 0 lo)).take (HT.sIx xs.length xs.length hi - HT.sIx xs.length 0 lo), Heap.get?_push_size _ rfl⟩
def flatV : V → Bool
 | .non => true
 | .bl _ => true
 | .int _ => true
 | .str _ => true
 | _ => false
def eqV : V → V → Bool
 | .non, .non => true
 | .bl a, .bl b => a == b
 | .bl a, .int b => (if a then 1 else 0) == b
 | .int a, .bl b => a == (if b then 1 else 0)
 | .int a, .int b => a == b
 | .str a, .str b => a == b
 | _, _ => false
theorem eqAt_V {A : Around} {s : Shared} {y x : V} {u v : Value} (ry : RelV y u) (rx : RelV x v) (fy : flatV y = true) (fx : flatV x = true) : SeqAt.EqAt A s u v (eqV y x) := by
 cases y with
 | non =>
  cases ry
  cases x with
  | non => cases rx; exact SeqAt.EqAt.same _
  | bl b => cases rx; exact SeqAt.EqAt.none_bool b
  | int b => obtain ⟨t, rfl⟩ := rx; exact SeqAt.EqAt.none_int b t
  | str b => obtain ⟨t, rfl⟩ := rx; exact SeqAt.EqAt.none_str b t
  | _ => exact absurd (show false = true from fx) Bool.false_ne_true
 | bl a =>
  cases ry
  cases x with
  | non => cases rx; exact SeqAt.EqAt.bool_none a
  | bl b => cases rx; exact SeqAt.EqAt.bool_bool a b
  | int b => obtain ⟨t, rfl⟩ := rx; exact SeqAt.EqAt.bool_int a b t
  | str b => obtain ⟨t, rfl⟩ := rx; exact SeqAt.EqAt.bool_str a b t
  | _ => exact absurd (show false = true from fx) Bool.false_ne_true
 | int a =>
  obtain ⟨t', rfl⟩ := ry
  cases x with
  | non => cases rx; exact SeqAt.EqAt.int_none a t'
  | bl b => cases rx; exact SeqAt.EqAt.int_bool a t' b
  | int b => obtain ⟨t, rfl⟩ := rx; exact SeqAt.EqAt.int_int a t' b t
  | str b => obtain ⟨t, rfl⟩ := rx; exact SeqAt.EqAt.int_str a t' b t
  | _ => exact absurd (show false = true from fx) Bool.false_ne_true
 | str a =>
  obtain ⟨t', rfl⟩ := ry
  cases x with
  | non => cases rx; exact SeqAt.EqAt.str_none a t'
  | bl b => cases rx; exact SeqAt.EqAt.str_bool a t' b
  | int b => obtain ⟨t, rfl⟩ := rx; exact SeqAt.EqAt.str_int a t' b t
  | str b => obtain ⟨t, rfl⟩ := rx; exact SeqAt.EqAt.str_str a t' b t
  | _ => exact absurd (show false = true from fx) Bool.false_ne_true
 | _ => exact absurd (show false = true from fy) Bool.false_ne_true
def eqU (x : V) (u : Value) : Bool := match u with
 | .none => eqV .non x
 | .bool b => eqV (.bl b) x
 | .int i _ => eqV (.int i) x
 | .str z _ => eqV (.str z) x
 | _ => false
theorem eqU_of {x y : V} {u : Value} (r : RelV y u) (f : flatV y = true) : eqU x u = eqV y x := by
 cases y with
 | non => cases r; rfl
 | bl b => cases r; rfl
 | int i => obtain ⟨t, rfl⟩ := r; rfl
 | str z => obtain ⟨t, rfl⟩ := r; rfl
 | _ => exact absurd (show false = true from f) Bool.false_ne_true
theorem any_eqU {x : V} : ∀ {xs : List V} {us : List Value}, Vals xs us → xs.all flatV = true → us.any (eqU x) = xs.any fun y => eqV y x
 | _, _, .nil, _ => rfl
 | y :: xs, u :: us, .cons r t, f => by
  rw [List.all_cons, Bool.and_eq_true] at f
  rw [List.any_cons, List.any_cons, eqU_of r f.1, any_eqU t f.2]
theorem mem_eqAt {A : Around} {s : Shared} {x : V} {v : Value} (rx : RelV x v) (fx : flatV x = true) : ∀ {xs : List V} {us : List Value}, Vals xs us → xs.all flatV = true → ∀ u ∈ us, SeqAt.EqAt A s u v (eqU x u)
 | _, _, .nil, _ => fun u hu => by cases hu
 | y :: xs, u :: us, .cons r t, f => fun u' hu => by
  rw [List.all_cons, Bool.and_eq_true] at f
  rcases List.mem_cons.mp hu with rfl | hu
  ·rw [eqU_of r f.1]; exact eqAt_V r rx f.1 fx
  ·exact mem_eqAt rx fx t f.2 u' hu
def inV (x : V) (xs : List V) : Bool := xs.any fun y => eqV y x
def rIn (K : PySem.W.Frag) (neg : Bool) : R2 := fun x y H Q => ∃ p xs, y = .ref p ∧ (SqL K H p xs ∨ SqT K H p xs) ∧ flatV x = true ∧ xs.all flatV = true ∧ Q (.bl (if neg then !inV x xs else inV x xs)) H
theorem op_notIn_seq : OpR X (compareOp .NotIn) (rIn X.K true) := by
 intro pins s σ H x y v u Q I rx ry h
 obtain ⟨p, xs, rfl, hq, fx, fs, q⟩ := h
 cases ry
 rcases hq with hq | hq
 ·obtain ⟨its, r, pl, hz⟩ := I.list hq
  refine SeqAt.notIn_listAt (eqU x) pl.isList (fun w hw => mem_eqAt rx fx r fs w (by simpa using hw)) ⟨.bl _, H, I, rfl, ?_⟩
  rw [show its.toArray.any (eqU x) = its.any (eqU x) by simp, any_eqU r fs]
  exact q
 ·obtain ⟨its, r, pl, hz⟩ := I.tuple hq
  refine SeqAt.notIn_tupleAt (eqU x) pl (fun w hw => mem_eqAt rx fx r fs w (by simpa using hw)) ⟨.bl _, H, I, rfl, ?_⟩
  rw [show its.toArray.any (eqU x) = its.any (eqU x) by simp, any_eqU r fs]
  exact q
theorem call_len_seq : CallR X (.builtin "len") (fun xs H Q => ∃ p ys, xs = [.ref p] ∧ (SqL X.K H p ys ∨ SqT X.K H p ys) ∧ Q (.int ys.length) H) := by
 intro pins s σ H xs us Q I r h
 obtain ⟨p, ys, rfl, hq, q⟩ := h
 obtain ⟨u, rfl, rx⟩ := vals1 r
 cases rx
 have hn := line63
 rcases hq with hq | hq
 ·obtain ⟨its, r', pl, hz⟩ := I.list hq
  have hlen := r'.length
  exact Calls.call_len_list pl.isList (by simp only [List.size_toArray] <;> omega) ⟨.int ys.length, H, I.tok _, ⟨s.toks + 1, by rw [List.size_toArray, hlen]⟩, q⟩
 ·obtain ⟨its, r', pl, hz⟩ := I.tuple hq
  have hlen := r'.length
  exact len_tuple pl (by simp only [List.size_toArray] <;> omega) ⟨.int ys.length, H, I.tok _, ⟨s.toks + 1, by rw [List.size_toArray, hlen]⟩, q⟩
theorem call_list_of : CallR X (.type "list") (fun xs H Q => ∃ p ys, xs = [.ref p] ∧ (SqL X.K H p ys ∨ SqT X.K H p ys) ∧ ∀ l, H l = none → Q (.ref l) (upd H l (.lst ys))) := by
 intro pins s σ H xs us Q I r h
 obtain ⟨p, ys, rfl, hq, q⟩ := h
 obtain ⟨u, rfl, rx⟩ := vals1 r
 cases rx
 have fin : ∀ (its : List Value), Vals ys its → ys.length ≤ sizeLine → ∀ (h' : Heap) (c' : Nat), (∀ b o', s.heap.get? b = some o' → h'.get? b = some o') →
   h'.get? s.heap.objs.size = some { cls := .type "list", dict := none, data := .seq its.toArray c', slots := #[] } → EP X pins σ Q (.ref s.heap.objs.size) { s with heap := h' } := fun its r' hz h' c' kp e =>
  ⟨.ref s.heap.objs.size, _, I.laid (t' := s.toks) kp (Nat.le_refl _) (show ObjOk X.prog X.w _ h' _ (.lst ys) from ⟨hz, its, c', r', e⟩), rfl, q _ (I.hok.fresh (Nat.le_refl _))⟩
 rcases hq with hq | hq
 ·obtain ⟨its, r', pl, hz⟩ := I.list hq
  have hlen := r'.length
  obtain ⟨o, ho, hc, n, hd⟩ := pl.isList
  exact call_list_seq p (.inl rfl) ho hc hd (fun h' c' kp e => fin its r' hz h' c' kp e) (by simp only [List.size_toArray] <;> omega)
 ·obtain ⟨its, r', pl, hz⟩ := I.tuple hq
  have hlen := r'.length
  obtain ⟨o, ho, hc, n, hd⟩ := pl
  exact call_list_seq p (.inr rfl) ho hc hd (fun h' c' kp e => fin its r' hz h' c' kp e) (by simp only [List.size_toArray] <;> omega)
def tyV (K : PySem.W.Frag) (T : String) (x : V) (H : Hp) : Prop := match x with
 | .str _ => T = "str"
 | .int _ => T = "int"
 | .ref p => (T = "list" ∧ ∃ xs, SqL K H p xs) ∨ (T = "tuple" ∧ ∃ o, K.lookup p = some o ∧ o.cls = .type "tuple" ∧ o.dict = none) ∨
   (T = "dict" ∧ ((∃ kvs, H p = some (.dK kvs)) ∨ ∃ kvs, H p = some (.dT kvs))) ∨ (T = "set" ∧ ∃ S n, H p = some (.set S n))
 | _ => False
theorem tyV_is {pins : List (Addr × Obj)} {σ : St} {H : Hp} {s : Shared} {T : String} {x : V} {v : Value} (I : Inv X pins σ H s) (r : RelV x v) (ty : tyV X.K T x H) :
  s.TypeIs v T ∧ ∀ a, v = .ref a → ∃ ob, s.heap.get? a = some ob ∧ ob.dict = none := by
 cases x with
 | str z =>
  obtain ⟨t, rfl⟩ := r
  cases (show T = "str" from ty)
  exact ⟨typeIs_str s z t, fun _ e => nomatch e⟩
 | int i =>
  obtain ⟨t, rfl⟩ := r
  cases (show T = "int" from ty)
  exact ⟨typeIs_int s i t, fun _ e => nomatch e⟩
 | ref p =>
  cases r
  rcases ty with ⟨rfl, xs, hq⟩ | ⟨rfl, o, hk, hc, hd⟩ | ⟨rfl, hk⟩ | ⟨rfl, S, n, hk⟩
  ·obtain ⟨its, _, pl, _⟩ := I.list hq
   refine ⟨pl.isList.typeIs, fun a e => ?_⟩
   cases e
   obtain ⟨o, n, e, c, hd, _⟩ := pl
   exact ⟨o, e, hd⟩
  ·refine ⟨⟨o, I.kIn p o hk, hc⟩, fun a e => ?_⟩
   cases e
   exact ⟨o, I.kIn _ o hk, hd⟩
  ·have z : ∃ o, s.heap.get? p = some o ∧ o.ExactDict := by
    rcases hk with ⟨kvs, hk⟩ | ⟨kvs, hk⟩
    ·obtain ⟨_, _, _, _, o, _, _, e, ex, _⟩ := I.hok p _ hk
     exact ⟨o, e, ex⟩
    ·obtain ⟨_, _, _, _, o, _, _, e, ex, _⟩ := I.hok p _ hk
     exact ⟨o, e, ex⟩
   obtain ⟨o, e, ex⟩ := z
   refine ⟨⟨o, e, ex.1⟩, fun a e2 => ?_⟩
   cases e2
   exact ⟨o, e, ex.2.1⟩
  ·obtain ⟨o, _, _, _, e, ex, _⟩ := I.hok p _ hk
   refine ⟨⟨o, e, ex.1⟩, fun a e2 => ?_⟩
   cases e2
   exact ⟨o, e, ex.2.1⟩
 | _ => exact False.elim ty
def tBM0 (K : PySem.W.Frag) (T : String) (r : V → List V → Hp → VK → Prop) (to : TE) : TE := fun σ H Q => to σ H fun x H1 => tyV K T x H1 ∧ r x [] H1 Q
def tBM (K : PySem.W.Frag) (T : String) (r : V → List V → Hp → VK → Prop) (to : TE) (t : TA) : TE := fun σ H Q => to σ H fun x H1 => tyV K T x H1 ∧ t σ H1 fun xs H2 => r x xs H2 Q
variable {o e : Expr} {es : List Expr} {to : TE} {t : TA} {name : Str} {apos cpos : Pos} {T id : String} {r : V → List V → Hp → VK → Prop}
theorem pe_bm0 (pa : PlainAttrs T) (slot : Slot T name id) (hty : typeOf (.builtin id) = pure (.type "method_descriptor")) (hm : MtR X id r) (ho : PE X o to)
  (hbase : attributeBase o name X.env (eval o X.env) = eval o X.env := by rfl) (hline : (apos.endLine == cpos.line) = true := by rfl) : PE X (.Call (.Attribute o name apos) [] [] cpos) (tBM0 X.K T r to) := by
 intro pins s σ H Q I h
 refine wpAny_Call_method0_late hbase hline (thn (ho pins s σ H _ I h) fun v s1 ⟨x, H1, I1, r1, ty, q1⟩ => ?_)
 obtain ⟨h1, h2⟩ := tyV_is I1 r1 ty
 exact ⟨T, id, pa, slot, hty, h1, h2, Calls.callWith_builtin rfl (PySem.evalArgs_none (hm pins s1 σ H1 x [] v [] Q I1 r1 .nil q1))⟩
theorem pe_bm (pa : PlainAttrs T) (slot : Slot T name id) (hty : typeOf (.builtin id) = pure (.type "method_descriptor")) (hm : MtR X id r) (ho : PE X o to) (ha : PA X (e :: es) t)
  (hbase : attributeBase o name X.env (eval o X.env) = eval o X.env := by rfl)
  (hfew : ((backTo cpos (starEach (e :: es) X.env)).all (fun x => !x.1) && (backToKw cpos (keywordEach [] X.env)).all (fun x => x.1.isSome)
   && decide ((e :: es).length + ([] : List Keyword).length + (if ([] : List Keyword).isEmpty then 0 else 1) < 30)) = true := by rfl)
  (hline : (apos.endLine == cpos.line) = true := by rfl) (hs : starEach (e :: es) X.env = (false, eval e X.env) :: starEach es X.env := by rfl) (hplain : (backTo cpos (starEach es X.env)).any (·.1) = false := by rfl) :
  PE X (.Call (.Attribute o name apos) (e :: es) [] cpos) (tBM X.K T r to t) := by
 intro pins s σ H Q I h
 refine wpAny_Call_method_late hbase hfew hline rfl (thn (ho pins s σ H _ I h) fun v s1 ⟨x, H1, I1, r1, ty, q1⟩ => ?_)
 obtain ⟨h1, h2⟩ := tyV_is I1 r1 ty
 refine ⟨T, id, pa, slot, hty, h1, h2, ?_⟩
 have hA := ha cpos pins s1 σ H1 _ I1 q1
 rw [hs] at hA ⊢
 refine Calls.callWith_builtin (by show (false || (backTo cpos (starEach es X.env)).any (·.1)) = false; rw [hplain] <;> rfl) (Calls.evalArgs_plain ?_)
 exact thn hA fun us s2 ⟨vs, H2, I2, r2, q2⟩ => hm pins s2 σ H2 x vs v us Q I2 r1 r2 q2
end
end L2
namespace L2
open PySem PySem.Spec PyProof.Rows
def MtM (X : Cx) (id : String) (r : V → List V → Hp → VK → Prop) : Prop :=
 ∀ (pins : List (Addr × Obj)) (s : Shared) (σ : St) (H : Hp) (x : V) (xs : List V) (v : Value) (us : List Value) (Q : VK), Inv X pins σ H s → RelV x v → Vals xs us → r x xs H Q →
  wpAny (model X.prog X.w) X.A (call (.builtin id) (v :: us)) (EP X pins σ Q) X.xe s
theorem Vals.one : ∀ {x : V} {us : List Value}, Vals [x] us → ∃ u, us = [u] ∧ RelV x u
 | _, _, .cons r .nil => ⟨_, rfl, r⟩
theorem Vals.zero : ∀ {us : List Value}, Vals [] us → us = []
 | _, .nil => rfl
theorem Vals.dropLast {xs : List V} {us : List Value} (h : Vals xs us) : Vals xs.dropLast us.dropLast := by
 induction h with
 | nil => exact .nil
 | cons r t ih =>
  cases t with
  | nil => exact .nil
  | cons q t' => exact .cons r ih
theorem erase_last {α : Type} (l : List α) : l.eraseIdx (l.length - 1) = l.dropLast := by
 induction l with
 | nil => rfl
 | cons a r ih =>
  cases r with
  | nil => rfl
  | cons b r =>
   have e : (a :: b :: r).length - 1 = ((b :: r).length - 1) + 1 := by
    have h1 : (a :: b :: r).length = r.length + 2 := rfl
    have h2 : (b :: r).length = r.length + 1 := rfl
    omega
   rw [e, List.eraseIdx_cons_succ, ih]
   all_goals rfl
section
variable {X : Cx} {pins : List (Addr × Obj)} {σ : St} {H : Hp} {s : Shared} {l b : Addr} {xs ys zs : List V}
theorem Inv.lset {its its' : List Value} {n : Nat} {f : Array Value → Array Value} {t' : Nat} (I : Inv X pins σ H s) (hH : H l = some (.lst xs))
  (e : s.heap.get? l = some { cls := .type "list", data := .seq its.toArray n }) (hf : f its.toArray = its'.toArray) (hv : Vals ys its') (hz : ys.length ≤ sizeLine) :
  Inv X pins σ (upd H l (.lst ys)) { s with heap := s.heap.update l (Obj.mapSeq f), toks := t' } := by
 have q := PySem.IsL.update e f
 rw [hf] at q
 refine I.write (x := l) (e := l) (by rw [hH]; exact trivial) (.inl rfl) (fun b' u hb hu => (Heap.get?_update_other s.heap (Obj.mapSeq f) (Ne.symm hb)).trans hu) ⟨_, q⟩ ?_
 exact ⟨hz, its', _, hv, q⟩
theorem Inv.lnew {its : List Value} {t' : Nat} (I : Inv X pins σ H s) (hv : Vals ys its) (hz : ys.length ≤ sizeLine) :
  Inv X pins σ (upd H s.heap.objs.size (.lst ys)) { s with heap := s.heap.push { cls := .type "list", data := .seq its.toArray }, toks := t' } :=
 I.laid (fun _ _ q => Heap.get?_push_of_some _ q) (Nat.le_refl _) ⟨hz, its, 0, hv, Heap.get?_push_size _ rfl⟩
theorem Inv.fresh (I : Inv X pins σ H s) : H s.heap.objs.size = none := I.hok.fresh (Nat.le_refl _)
theorem Inv.lstM (I : Inv X pins σ H s) (hH : H l = some (.lst xs)) : xs.length ≤ sizeLine ∧ ∃ (its : List Value) (n : Nat), Vals xs its ∧ xs.length = its.length ∧ s.heap.get? l = some { cls := .type "list", data := .seq its.toArray n } := by
 obtain ⟨z, its, n, r, e⟩ := I.hok l _ hH
 exact ⟨z, its, n, r, r.length, e⟩
end
section
variable {X : Cx}
def rAppend : V → List V → Hp → VK → Prop := fun x vs H Q => ∃ l xs y, x = .ref l ∧ vs = [y] ∧ H l = some (.lst xs) ∧ xs.length < sizeLine ∧ Q .non (upd H l (.lst (xs ++ [y])))
theorem mt_append : MtM X "list.append" rAppend := by
 intro pins s σ H x vs v us Q I rx rv h
 obtain ⟨l, xs, y, rfl, rfl, hH, hz, q⟩ := h
 cases rx
 obtain ⟨u, rfl, ru⟩ := rv.one
 obtain ⟨z, its, n, r, hl, e⟩ := I.lstM hH
 refine call_meets F.slot_list_append ⟨_, e, rfl⟩ F.entry_list_append (F.args_list_append_2 _ _) (PySem.list_append l its.toArray n u (by rw [List.size_toArray]; omega)) ⟨e, ?_⟩
 refine ⟨.non, _, I.lset (its' := its ++ [u]) hH e (by simp) (r.append (.cons ru .nil)) ?_, rfl, q⟩
 rw [List.length_append, List.length_singleton]
 omega
def rPop : V → List V → Hp → VK → Prop := fun x vs H Q => ∃ l xs y, x = .ref l ∧ vs = [] ∧ H l = some (.lst xs) ∧ xs[xs.length - 1]? = some y ∧ Q y (upd H l (.lst xs.dropLast))
theorem mt_pop : MtM X "list.pop" rPop := by
 intro pins s σ H x vs v us Q I rx rv h
 obtain ⟨l, xs, y, rfl, rfl, hH, hy, q⟩ := h
 cases rx
 have hus := rv.zero
 subst hus
 obtain ⟨z, its, n, r, hl, e⟩ := I.lstM hH
 obtain ⟨u, hu, ru⟩ := r.get hy
 have hy' : its.toArray[its.toArray.size - 1]? = some u := by
  show its.toArray[its.length - 1]? = some u
  rw [← Array.getElem?_toList, ← hl]
  exact hu
 refine call_meets F.slot_list_pop ⟨_, e, rfl⟩ F.entry_list_pop (F.args_list_pop_1 _) (MeetsSeq.list_pop_last l its.toArray n u hy' (by rw [List.size_toArray]; omega)) ⟨e, ?_⟩
 refine ⟨y, _, I.lset (its' := its.dropLast) hH e ?_ r.dropLast ?_, ru, q⟩
 ·show its.toArray.eraseIdxIfInBounds (its.toArray.size - 1) = its.dropLast.toArray
  rw [List.size_toArray, List.eraseIdxIfInBounds_toArray, erase_last]
 ·rw [List.length_dropLast]
  omega
def rCat : R2 := fun x y H Q => ∃ l b xs zs, x = .ref l ∧ y = .ref b ∧ H l = some (.lst xs) ∧ H b = some (.lst zs) ∧ xs.length + zs.length ≤ sizeLine ∧ ∀ p, H p = none → Q (.ref p) (upd H p (.lst (xs ++ zs)))
theorem op_cat : OpR X (binaryOp .Add) rCat := by
 intro pins s σ H x y v u Q I rx ry h
 obtain ⟨l, b, xs, zs, rfl, rfl, hH, hB, hz, q⟩ := h
 cases rx
 cases ry
 obtain ⟨z, its, n, r, hl, e⟩ := I.lstM hH
 obtain ⟨z2, its2, n2, r2, hl2, e2⟩ := I.lstM hB
 refine PySem.P.add_list e e2 ?_ (by rw [List.size_toArray, List.size_toArray]; omega)
 have ea : its.toArray ++ its2.toArray = (its ++ its2).toArray := by simp
 rw [ea]
 exact ⟨.ref _, _, I.lnew (t' := s.toks) (r.append r2) (by rw [List.length_append]; omega), rfl, q _ I.fresh⟩
end
section
variable {prog : Program} {w : World} {A : Around} {E : Value → Shared → Prop} {s : Shared}
end
section
variable {X : Cx}
end
end L2
namespace Att
open PySem PySem.W PySem.Calls PyProof.Rows
theorem ints_of_wellAll {P : Params} {h : Heap} : ∀ (ns : List Int) (vs : List Value), WellAll P h vs (ns.map WData.int) → IntsAre vs ns := by
 intro ns
 induction ns with
 | nil =>
  intro vs w
  rw [List.map_nil] at w
  cases w
  exact .nil
 | cons n ns ih =>
  intro vs w
  rw [List.map_cons] at w
  cases w with
  | cons a b =>
   cases a
   exact .cons _ _ (ih _ b)
theorem script_of {l : OpenLaw} {n : Nat} (hn : l.most = some n) {P : Params} {h : Heap} {args : List WData} {vals : List Value}
    (hpre : l.row.toRowW.claim.pre args = true) (hwl : WellAll P h vals args) :
    ∃ a vs ns, vals = [Value.ref a] ∧ args = [WData.list (ns.map WData.int)] ∧ h.get? a = some { cls := .type "list", data := .seq vs.toArray } ∧ IntsAre vs ns ∧ ns.length ≤ n := by
  have hsh : WShape.hasAll [] args [.list .int] = true := (pre_splitW hpre).1
  have hc : l.pre.holds [] { args := args } = true := (pre_splitW hpre).2
  obtain ⟨d, r, rfl, h1, h2⟩ := hasAllW_cons hsh
  obtain rfl := hasAllW_nil h2
  obtain ⟨xs, rfl, h3⟩ := hasW_list h1
  obtain ⟨ns, rfl⟩ := items_int h3
  have hlen : ns.length ≤ n := by
    unfold OpenLaw.pre at hc
    have h4 : (WTm.not (.lt (.lit (.int (n : Int))) (.len (.arg 0)))).holds [] { args := [.list (ns.map .int)] } = true := by
      have h4 := (holds_andW hc).1
      rw [hn] at h4
      exact h4
    have h5 := condW_of h4 (w_not (w_lt w_lit (w_len_list (w_arg rfl))))
    rw [List.length_map] at h5
    refine Nat.le_of_not_lt fun q => ?_
    have q' : (n : Int) < ((ns.length : Nat) : Int) := by omega
    first
      | (rw [decide_eq_true q'] at h5; exact absurd h5 (by decide))
      | (simp at h5; omega)
  cases hwl with
  | cons w1 w2 =>
    cases w2
    cases w1 with
    | list ho hall => exact ⟨_, _, ns, rfl, rfl, ho, ints_of_wellAll ns _ hall, hlen⟩
theorem post_true (l : OpenLaw) (args : List WData) : l.row.toRowW.claim.post args (.bool true) args = true :=
  postW_of (r := l.row.toRowW) (X := (true == true))
    (show WShape.has [] (.bool true) .bool = true by first | rfl | decide | simp [WShape.has, WShape.arms, WShape.armsAll])
    (show (WTm.eq .res (.lit (.bool true))).value [] { args := args, res := some (.bool true), after := args } = some (.bool (true == true)) from w_eq_bool (w_res rfl) w_lit) rfl
theorem attach_call {l : OpenLaw} {n : Nat} {q : Program} {loose : List Str} {XP : (Str → Option Value) → Heap → Prop} {YP : World → Heap → Prop} {d : DefRec}
  (hn : l.most = some n) (hdf : d.params.defaults = [])
  (call : ∀ (w : World) (s₀ s₁ : Shared) (mg mb : Str → Option Value) (fa : Addr) (o : Obj) (pm cd doc : Value) (a : Addr) (vs : List Value) (ns : List Int),
   Ground q loose [] XP w s₀ mg mb s₁.heap → YP w s₁.heap →
   s₁.heap.get? fa = some o → o.data = .func (docDef d.name d.params d.body d.scope pm cd doc) → s₁.heap.CodeRec cd d.name → mg d.name = some (.ref fa) →
   s₁.heap.get? a = some { cls := .type "list", data := .seq vs.toArray } → IntsAre vs ns → ns.length ≤ n → s₁.gens = #[] →
   codeAny (model l.prog w) callerA (.call (.ref fa) ⟨[.ref a], []⟩) (fun r s' => r = .ok (.ret (.bool true)) ∧ OldK s₁.heap s'.heap ∧ s'.os = s₁.os ∧ AllBare s'.gens) s₁) :
  WalkO q loose XP YP l.row.toRowW d [] (fun f vs => PySem.call f vs) := by
 intro w s₀ s₁ mg mb G Y fa o pm cd doc dV kV ho hd hcd hD hmg hg args vals as hpre hlay hrd hwl hlo
 obtain rfl : dV = .none := Dflts.none hD hdf
 obtain rfl : kV = .none := Dflts.noKw hD
 obtain ⟨a, vs, ns, rfl, rfl, hobj, hints, hlen⟩ := script_of hn hpre hwl
 refine enter_call (codeAny_mono (call w s₀ s₁ mg mb fa o pm cd doc a vs ns G Y ho (fd_plain hd) hcd hmg hobj hints hlen hg) fun r s' hq => ?_)
 obtain ⟨rfl, h2, h3, h4⟩ := hq
 exact ⟨.inl ⟨.bool true, .bool true, [], rfl, fun _ => rfl, .bool true, post_true l _, fun _ => ⟨List.Pairwise.nil, fun _ hm => (nomatch hm)⟩⟩, h2, h3, h4⟩
section
variable {prog : Program} {w : World} {A : Around} {E : Value → Shared → Prop} {s : Shared} {K : Frag}
end
end Att
namespace L2
open PySem PySem.Spec PyProof.Rows
theorem vals_ints : ∀ {vs : List Value} {ns : List Int}, IntsAre vs ns → Vals (ns.map V.int) vs
 | _, _, .nil => .nil
 | _, _, .cons n t h => .cons ⟨t, rfl⟩ (vals_ints h)
def Only (H : Hp) : Prop := ∀ b, H b = none ∨ ∃ o xs, H b = some (.frz o (.lst xs))
theorem law_call {P : Program} {w : World} {K : PySem.W.Frag} {mg mb : Str → Option Value} {CX : CXT} {k : Nat} {fa a : Addr} {fd : FuncData} {x : Str} {sp : Sp} {s₁ : Shared} {vs : List Value} {ns : List Int}
  (KX : K.In s₁.heap) (hns : s₁.heap.Ns mainGlobals mg) (hb : s₁.heap.Ns builtinsNs mb) (hbb : ∀ x : Str, x ≠ "__name__" → mb x = bootBuiltins x) (hlim : s₁.heap.NoLimit) (hg : s₁.gens = #[])
  (ha : s₁.heap.get? a = some { cls := .type "list", data := .seq vs.toArray }) (hi : IntsAre vs ns) (hl : ns.length ≤ sizeLine) (hr : Room k callerA)
  (F : ∀ base : Heap, K.In base → base.Ns mainGlobals mg → FnOk P w K mg base CX k fa fd [x] sp) (hbind : ∀ (s : Shared) (u : Value), BindsTo s fd ⟨[u], []⟩ [(x, u)])
  (hsp : ∀ H : Hp, Only H → SqL K H a (ns.map V.int) → sp [.ref a] H (fun v _ => v = .bl true) fun _ _ _ => False)
  (hCX : ∀ H e s', CX [] H s₁ (fun _ _ _ => False) e s' → False) :
  codeAny (model P w) callerA (.call (.ref fa) ⟨[.ref a], []⟩) (fun r s' => r = .ok (.ret (.bool true)) ∧ OldK s₁.heap s'.heap ∧ s'.os = s₁.os ∧ AllBare s'.gens) s₁ := by
 have rv := vals_ints hi
 have lenV := hi.length
 have core : ∀ H : Hp, Only H → SqL K H a (ns.map V.int) → HOk P w H s₁.heap → (∀ b, H b ≠ none → b = a) → (H a ≠ none → K.lookup a = none) →
   codeAny (model P w) callerA (.call (.ref fa) ⟨[.ref a], []⟩) (fun r s' => r = .ok (.ret (.bool true)) ∧ OldK s₁.heap s'.heap ∧ s'.os = s₁.os ∧ AllBare s'.gens) s₁ := by
  intro H hO hS hok hA hK
  have base_of : ∀ {b : Addr} {o : Obj}, s₁.heap.get? b = some o → H b = none → (hidT s₁.heap H).get? b = some o := fun e n => hidT_get e n
  have noA : ∀ {b : Addr} {o : Obj} {es : Array DictEntry} {ep : Nat}, s₁.heap.get? b = some o → o.data = .dict es ep → H b = none := fun {b o es ep} e d => by
   cases q : H b with
   | none => rfl
   | some u =>
    have e' : b = a := hA b (by rw [q]; simp)
    subst e'
    rw [ha] at e; cases e
    have d' : Data.seq vs.toArray _ = Data.dict es ep := d
    cases d'
  have nsK : ∀ {b : Addr} {m : Str → Option Value}, s₁.heap.Ns b m → (hidT s₁.heap H).Ns b m := fun {b m} ⟨o, es, ep, e, d, r⟩ => ⟨o, es, ep, base_of e (noA e d), d, r⟩
  have hKb : K.In (hidT s₁.heap H) := fun b o e => base_of (KX b o e) (by
   cases q : H b with
   | none => rfl
   | some u =>
    have e' : b = a := hA b (by rw [q]; simp)
    subst e'
    rw [hK (by rw [q]; simp)] at e; cases e)
  have hM : Mod K mg (hidT s₁.heap H) := ⟨hKb, nsK hns, ⟨mb, nsK hb, hbb⟩, let ⟨mc, h1, h2⟩ := hlim; ⟨mc, nsK h1, h2⟩⟩
  have e0 : Env0 P w K mg (hidT s₁.heap H) callerA [] s₁ H := ⟨rfl, hM, fun b o e => of_hidT e, Nat.le_of_eq (hidT_size _ _), trivial, fun b hb => absurd (show b ∈ ([] : List Addr) from hb) (by simp), hok, .of_eq hg⟩
  refine codeAny_mono ((F _ hKb (nsK hns)).run callerA [] s₁ H ⟨[.ref a], []⟩ [.ref a] [.ref a] _ _ hr e0 (hbind s₁ (.ref a)) (.cons rfl .nil) (hsp H hO hS)) fun r s' h => ?_
  cases r with
  | error e => exact (hCX H e s' h).elim
  | ok fl =>
   cases fl with
   | next => exact False.elim h
   | brk => exact False.elim h
   | cont => exact False.elim h
   | ret u =>
    obtain ⟨v, H', os, bare, un, hok', r', q⟩ := h
    have q' : v = .bl true := q
    subst q'
    obtain rfl : u = Value.bool true := r'
    refine ⟨rfl, OldK.of_keep fun b o e => ?_, os, bare⟩
    cases q : H b with
    | none => exact un.keep b o e q (by intro z; exact absurd (show b ∈ ([] : List Addr) from z) (by simp)) (by simp)
    | some u =>
     rcases hO b with z | ⟨ob, xs, z⟩
     ·rw [q] at z; cases z
     ·have z2 := un.frzs b ob _ z
      obtain ⟨e1, _⟩ := hok b _ z
      obtain ⟨e2, _⟩ := hok' b _ z2
      rw [e] at e1; cases e1
      exact e2
 cases hk : K.lookup a with
 | some o =>
  have e := KX a o hk
  rw [ha] at e
  cases e
  refine core (fun _ => none) (fun _ => .inl rfl) (.inr ⟨_, vs.toArray, _, hk, rfl, rfl, rfl, by rw [List.size_toArray, lenV]; exact hl, by simpa using rv⟩) (fun b u z => by have z' : (none : Option HO) = some u := z; cases z') (fun b z => absurd rfl z) fun z => absurd rfl z
 | none =>
  refine core (fun b => if b = a then some (.frz { cls := .type "list", data := .seq vs.toArray } (.lst (ns.map V.int))) else none) (fun b => ?_) (.inl (.inr ⟨{ cls := .type "list", data := .seq vs.toArray }, if_pos rfl⟩)) (fun b u z => ?_) (fun b z => ?_) fun _ => hk
  ·by_cases hb : b = a
   ·exact .inr ⟨_, _, if_pos hb⟩
   ·exact .inl (if_neg hb)
  ·by_cases hb : b = a
   ·have z' := (if_pos hb).symm.trans z
    cases z'
    subst hb
    exact ⟨ha, by rw [List.length_map]; exact hl, vs, _, rv, ha⟩
   ·have z' := (if_neg hb).symm.trans z
    cases z'
  ·by_cases hb : b = a
   ·exact hb
   ·exact absurd (if_neg hb) z
end L2
namespace L2
open PySem PySem.Spec PyProof.Rows
abbrev KOf {K : PySem.W.Frag} {h : Heap} (_ : K.In h) : PySem.W.Frag := K
theorem walk_of {l : PySem.W.OpenLaw} {n k : Nat} {q : Program} {loose : List Str} {XP : (Str → Option Value) → Heap → Prop} {YP : World → Heap → Prop} {d : DefRec} {K : Params → PySem.W.Frag} {CX : World → CXT} {sp : World → Sp} {x : Str}
  (hn : l.most = some n) (hn2 : n ≤ sizeLine) (hdf : d.params.defaults = []) (hr : Room k callerA)
  (hY : ∀ (w : World) (h : Heap), YP w h → (K w.params).In h)
  (F : ∀ (w : World) (mg : Str → Option Value) (fa : Addr) (h : Heap), (K w.params).In h → h.Ns mainGlobals mg → mg d.name = some (.ref fa) →
   ∃ fd : FuncData, (∀ (s : Shared) (u : Value), BindsTo s fd ⟨[u], []⟩ [(x, u)]) ∧
    ∀ base : Heap, (K w.params).In base → base.Ns mainGlobals mg → FnOk l.prog w (K w.params) mg base (CX w) k fa fd [x] (sp w))
  (hsp : ∀ (w : World) (H : Hp) (a : Addr) (ns : List Int), ns.length ≤ n → Only H → SqL (K w.params) H a (ns.map V.int) → sp w [.ref a] H (fun v _ => v = .bl true) fun _ _ _ => False)
  (hCX : ∀ (w : World) (H : Hp) (s : Shared) (e : Value) (s' : Shared), CX w [] H s (fun _ _ _ => False) e s' → False) :
  PySem.W.WalkO q loose XP YP l.row.toRowW d [] (fun f vs => PySem.call f vs) := by
 refine Att.attach_call hn hdf fun w s₀ s₁ mg mb fa o pm cd doc a vs ns G Y ho hd hcd hmg hobj hints hlen hg => ?_
 have KX := hY w _ Y
 obtain ⟨fd, hb, hF⟩ := F w mg fa _ KX G.T.g hmg
 exact law_call KX G.T.g G.T.b G.T.builtins G.T.nolimit hg hobj hints (Nat.le_trans hlen hn2) hr hF hb (fun H hO hS => hsp w H a ns hlen hO hS) fun H e s' => hCX w H s₁ e s'
theorem walk_ofK {l : PySem.W.OpenLaw} {n k : Nat} {q : Program} {loose : List Str} {XP : (Str → Option Value) → Heap → Prop} {YP : World → Heap → Prop} {d : DefRec} {K : Params → PySem.W.Frag} {CX : CXT} {sp : PySem.W.Frag → Sp} {x : Str}
  (hn : l.most = some n) (hn2 : n ≤ sizeLine) (hdf : d.params.defaults = []) (hr : Room k callerA)
  (hY : ∀ (w : World) (h : Heap), YP w h → (K w.params).In h)
  (F : ∀ (w : World) (mg : Str → Option Value) (fa : Addr) (h : Heap), (K w.params).In h → h.Ns mainGlobals mg → mg d.name = some (.ref fa) →
   ∃ fd : FuncData, (∀ (s : Shared) (u : Value), BindsTo s fd ⟨[u], []⟩ [(x, u)]) ∧
    ∀ base : Heap, (K w.params).In base → base.Ns mainGlobals mg → FnOk l.prog w (K w.params) mg base CX k fa fd [x] (sp (K w.params)))
  (hsp : ∀ (K : PySem.W.Frag) (H : Hp) (a : Addr) (ns : List Int), ns.length ≤ n → Only H → SqL K H a (ns.map V.int) → sp K [.ref a] H (fun v _ => v = .bl true) fun _ _ _ => False)
  (hCX : ∀ (H : Hp) (s : Shared) (e : Value) (s' : Shared), CX [] H s (fun _ _ _ => False) e s' → False) :
  PySem.W.WalkO q loose XP YP l.row.toRowW d [] (fun f vs => PySem.call f vs) :=
 walk_of (K := K) (CX := fun _ => CX) (sp := fun w => sp (K w.params)) hn hn2 hdf hr hY F (fun w H a ns h1 h2 h3 => hsp (K w.params) H a ns h1 h2 h3) fun _ H s e s' => hCX H s e s'
end L2
namespace L2
open PySem PySem.Spec PyProof.Rows
def defArgs (s : Stmt) : Arguments := match s with
 | .FunctionDef _ a _ _ _ _ _ _ _ _ => a
 | _ => { posonlyargs := [], args := [], vararg := none, kwonlyargs := [], kw_defaults := [], kwarg := none, defaults := [] }
def defBody (s : Stmt) : List Stmt := match s with
 | .FunctionDef _ _ b _ _ _ _ _ _ _ => b
 | _ => []
def defScope (s : Stmt) : Scope := match s with
 | .FunctionDef _ _ _ _ _ _ sc _ _ _ => sc
 | _ => { kind := .function, names := [], isGenerator := false, isCoroutine := false }
abbrev CX0 : CXT := fun _ _ _ _ _ _ => False
abbrev E0 : XK := fun _ _ _ => False
theorem pass0 {X : Cx} : Passes CX0 X E0 := fun _ _ _ _ _ _ _ h => h.elim
structure Fun (K : PySem.W.Frag) (x qual : Str) (st : Stmt) (f : Addr) (fd : FuncData) : Prop where
 ex : ∃ (oc : Value) (od : Option Addr) (kV doc pm : Value) (an : Option Addr) (cdv ct : Value) (osl : Array (Option Value)),
  fd = PySem.W.fnOf x qual (defArgs st) (defBody st) (defScope st) .none kV doc pm an cdv ct ∧ K.lookup f = some ⟨oc, od, .func fd, osl⟩ ∧ PySem.W.codeIn K cdv qual = true
 kp : PySem.W.keepIn K (.ref f) = true
section
variable {P : Program} {w : World} {K : PySem.W.Frag} {mg : Str → Option Value} {base : Heap}
theorem Fun.ok {x qual : Str} {st : Stmt} {f : Addr} {fd : FuncData} {N ps : List Str} {k : Nat} {sp : Sp} (F : Fun K x qual st f fd) (S : FnScope N ps (defScope st)) (len : ∀ vs H Q E, sp vs H Q E → vs.length = ps.length)
  (hbody : ∀ (cdv : Value) (A : Around) (outer : List Env) (s : Shared) (H : Hp) (vs : List V) (Q : VK) (E : XK), Room k (A.deeper (envOfC qual (defScope st) s.heap.objs.size f cdv)) → sp vs H Q E →
   ∃ t, PSs (cxOf CX0 P w K mg base N qual (defScope st) f cdv A outer s H E).nox (defBody st) t ∧ t { nx := fun _ H' => Q .non H', rt := Q } (start N vs) H) : FnOk P w K mg base CX0 (k + 1) f fd ps sp := by
 obtain ⟨oc, od, kV, doc, pm, an, cdv, ct, osl, rfl, lk, hcd⟩ := F.ex
 refine fn_of lk hcd S len fun A outer s H vs Q E hr hsp => ?_
 obtain ⟨t, h, q⟩ := hbody cdv A outer s H vs Q E hr hsp
 exact ⟨t, h.nox, q⟩
theorem Fun.binds {x qual : Str} {st : Stmt} {f : Addr} {fd : FuncData} {ps : List Str} (F : Fun K x qual st f fd)
  (h : ∀ (kV doc pm : Value) (an : Option Addr) (cdv ct : Value) (us : List Value), us.length = ps.length → bindArgs (PySem.W.fnOf x qual (defArgs st) (defBody st) (defScope st) .none kV doc pm an cdv ct) ⟨us, []⟩ = pure (ps.zip us)) : Binds K fd ps [] := by
 obtain ⟨oc, od, kV, doc, pm, an, cdv, ct, osl, rfl, lk, hcd⟩ := F.ex
 exact .all (h kV doc pm an cdv ct)
theorem fun_mk {x qual : Str} {st : Stmt} {f : Addr} {oc : Value} {od an : Option Addr} {osl : Array (Option Value)} {kV doc pm cdv ct : Value} (l : K.lookup f = some ⟨oc, od, .func (PySem.W.fnOf x qual (defArgs st) (defBody st) (defScope st) .none kV doc pm an cdv ct), osl⟩)
  (c : PySem.W.codeIn K cdv qual = true) (k : PySem.W.keepIn K (.ref f) = true) : Fun K x qual st f (PySem.W.fnOf x qual (defArgs st) (defBody st) (defScope st) .none kV doc pm an cdv ct) := ⟨⟨oc, od, kV, doc, pm, an, cdv, ct, osl, rfl, l, c⟩, k⟩
end
theorem small1000 {n : Nat} (h : n ≤ 1000) : n < sizeLine := Nat.lt_of_le_of_lt h (by decide)
section
variable {X : Cx}
theorem pv (i : Nat) {x : Str} {pos : Pos} (hN : X.N[i]? = some x := by rfl) (hv : Vis X.env.scope x := by first | exact Or.inl rfl | exact Or.inr (Or.inl rfl) | exact Or.inr (Or.inr rfl)) (hd : (x == ("__debug__" : Str)) = false := by decide)
  (hcd : (x == ("__classdict__" : Str)) = false := by decide) : PE X (.Name x pos) (tVar i) := pe_var hN hv hd hcd
end
theorem iteF {A B : Prop} (h : B) : if false = true then A else B := by
 rw [if_neg Bool.false_ne_true]
 exact h
theorem iteT {A B : Prop} (h : A) : if true = true then A else B := by
 rw [if_pos rfl]
 exact h
theorem ite2 {c A B : Prop} [Decidable c] (h1 : c → A) (h2 : ¬ c → B) : if c then A else B := by
 by_cases h : c
 ·rw [if_pos h]
  exact h1 h
 ·rw [if_neg h]
  exact h2 h
def Same (H H' : Hp) : Prop := ∀ b o, H b = some o → H' b = some o
theorem Same.refl (H : Hp) : Same H H := fun _ _ h => h
theorem Same.trans {H H1 H2 : Hp} (a : Same H H1) (b : Same H1 H2) : Same H H2 := fun c o h => b c o (a c o h)
theorem Same.free {H H' : Hp} (e : Same H H') {l : Addr} (h : H' l = Option.none) : H l = Option.none := by
 cases q : H l with
 | none => rfl
 | some o =>
  rw [e l o q] at h
  cases h
theorem Same.seq {K : PySem.W.Frag} {H H' : Hp} {a : Addr} {xs : List V} (e : Same H H') (h : SqL K H a xs) : SqL K H' a xs := by
 rcases h with (h | ⟨o, h⟩) | h
 ·exact .inl (.inl (e _ _ h))
 ·exact .inl (.inr ⟨o, e _ _ h⟩)
 ·exact .inr h
end L2
namespace L2
open PySem PySem.Spec PyProof.Rows
def clOf (cells : List (Str × Addr)) : List (Str × NameKind) → List (Str × Addr) → List (Str × Addr)
 | [], acc => acc
 | (n, k) :: r, acc => clOf cells r (if k == .free then (match cells.lookup n with | some c => (n, c) :: acc | none => acc) else acc)
theorem clo_go {env : Env} : ∀ (ns : List (Str × NameKind)) (acc : List (Str × Addr)), (∀ x ∈ ns, x.2 = .free → ∃ c, env.cells.lookup x.1 = some c) →
  (forIn ns acc fun (x : Str × NameKind) (cs : List (Str × Addr)) => (if x.2 == NameKind.free then do let a ← cellOf env x.1; pure (ForInStep.yield ((x.1, a) :: cs)) else pure (ForInStep.yield cs) : Sem (ForInStep (List (Str × Addr))))) = pure (clOf env.cells ns acc)
 | [], acc, _ => by simp [clOf]
 | (n, k) :: r, acc, h => by
  rw [List.forIn_cons]
  have ih := fun a => clo_go (env := env) r a fun x hx => h x (List.mem_cons_of_mem _ hx)
  unfold clOf
  by_cases hk : (k == NameKind.free) = true
  ·obtain ⟨c, hc⟩ := h (n, k) List.mem_cons_self (by simpa using hk)
   have hc' : env.cells.lookup n = some c := hc
   have hce : cellOf env n = pure c := by simp only [cellOf, hc']
   simp only [hk, if_true, hce, pure_bind, hc']
   exact ih _
  ·simp only [hk, if_false, pure_bind, ih]
   simp
theorem closure_is {scope : Scope} {env : Env} (h : ∀ x ∈ scope.names, x.2 = .free → ∃ c, env.cells.lookup x.1 = some c) : closureFor scope env = pure (clOf env.cells scope.names []) := by
 have q := clo_go (env := env) scope.names [] h
 unfold closureFor
 rw [← q]
 first
  | rfl
  | simp
theorem clOf_has {cells : List (Str × Addr)} : ∀ (ns : List (Str × NameKind)) (acc : List (Str × Addr)) {x : Str} {c : Addr}, (∀ y d, acc.lookup y = some d → cells.lookup y = some d) → (clOf cells ns acc).lookup x = some c → cells.lookup x = some c
 | [], acc, x, c, ha, h => ha x c h
 | (n, k) :: r, acc, x, c, ha, h => by
  unfold clOf at h
  refine clOf_has r _ (fun y d hy => ?_) h
  split at hy
  ·split at hy
   ·rename_i c' hc'
    rw [List.lookup_cons] at hy
    split at hy
    ·rename_i e
     have e' : y = n := by simpa using e
     subst e'
     rw [hc']; exact hy
    ·exact ha y d hy
   ·exact ha y d hy
  ·exact ha y d hy
theorem clOf_keep {cells : List (Str × Addr)} : ∀ (ns : List (Str × NameKind)) (acc : List (Str × Addr)) {x : Str}, (∃ c, acc.lookup x = some c) → ∃ c, (clOf cells ns acc).lookup x = some c
 | [], acc, x, h => h
 | (n, k) :: r, acc, x, h => by
  unfold clOf
  refine clOf_keep r _ ?_
  split
  ·split
   ·rw [List.lookup_cons]
    split
    ·exact ⟨_, rfl⟩
    ·exact h
   ·exact h
  ·exact h
theorem clOf_get {cells : List (Str × Addr)} : ∀ (ns : List (Str × NameKind)) (acc : List (Str × Addr)) {x : Str}, (x, NameKind.free) ∈ ns → (∃ c, cells.lookup x = some c) → ∃ c, (clOf cells ns acc).lookup x = some c
 | [], acc, x, h, _ => nomatch h
 | (n, k) :: r, acc, x, h, hc => by
  unfold clOf
  rcases List.mem_cons.mp h with e | h
  ·cases e
   obtain ⟨c, hc⟩ := hc
   refine clOf_keep r _ ?_
   simp [hc]
  ·exact clOf_get r _ h hc
end L2
namespace L2
open PySem PySem.Spec PyProof.Rows
theorem Inv.track {X : Cx} {pins : List (Addr × Obj)} {σ : St} {H : Hp} {s : Shared} {a : Addr} {o : HO} (I : Inv X pins σ H s) (hn : H a = none) (h0 : X.s₀.heap.objs.size ≤ a) (hL : a ≠ X.env.locals)
  (hc : ∀ x c, X.env.cells.lookup x = some c → c ≠ a) (hp : ∀ p ∈ X.pn ++ pins, p.1 ≠ a) (new : ObjOk X.prog X.w (upd H a o) s.heap a o) : Inv X pins σ (upd H a o) s := by
 have ne : ∀ b u, H b = some u → b ≠ a := fun b u e => ne_of_none e hn
 have q := I.step (g' := s.gens) (d' := s.drawn) (t' := s.toks) (h' := s.heap) (H' := upd H a o) (ch := [a]) (fun b hb => ?_) (fun b ob _ _ _ e _ => e) (fun b ob _ _ _ e _ => ⟨ob.slots, e⟩) (fun b ob hb _ n => ?_)
  (fun b ob _ e => ⟨ob, e⟩) (fun b xs e => by rw [upd_ne (ne b _ e)]; exact e) (fun b ob u e => by rw [upd_ne (ne b _ e)]; exact e) (fun b ps e => ⟨#[], by rw [upd_ne (ne b _ e), e]; simp⟩) (fun m hm => hm) (fun b u e => ?_) I.bare
 ·exact q
 ·have e : b = a := by simpa using hb
  subst e
  exact ⟨.inr h0, hL, hc, hp⟩
 ·rw [upd_ne (fun z => hb (by simp [z]))]; exact n
 ·by_cases hb : b = a
  ·subst hb; rw [upd_same] at e; cases e; exact new
  ·rw [upd_ne hb] at e
   exact (I.hok b u e).stay (fun c v _ q => q) (fun c q => by rw [upd_ne (ne_of_none q hn)]; exact q) fun c xs q => by rw [upd_ne (ne_of_none q hn)]; exact q
def cxComp (X : Cx) (N' : List Str) (scope : Scope) (C : Addr) (s : Shared) (H : Hp) (fp : List Addr) (xe : Value → Shared → Prop) : Cx :=
 { X with N := N', s₀ := s, H₀ := H, env := compEnvC scope (clOf X.env.cells scope.names []) C X.env, outer := X.stack, ex := fp, fn := fun _ => false, xe := xe }
structure BlkOk (X : Cx) (N' : List Str) (ix : List (Option Nat)) (scope : Scope) : Prop where
 kind : scope.kind = .function
 nocell : ∀ y ∈ scope.names, y.2 ≠ .cell
 locs : ∀ y ∈ scope.names, y.2 = .local → scope.names.lookup y.1 = some .local
 free : ∀ y ∈ scope.names, y.2 = .free → X.env.kindOf y.1 = some .cell ∨ X.env.kindOf y.1 = some .free
 len : ix.length = N'.length
 cap : ∀ (i j : Nat), ix[i]? = some (some j) → ∃ x, N'[i]? = some x ∧ X.N[j]? = some x ∧ scope.names.lookup x = some .free
def capt (ix : List (Option Nat)) (σ : St) : St := ix.map fun o => o.bind fun j => (σ[j]?).join
theorem relabel_free {env : Env} {x : Str} : ∀ {names : List (Str × NameKind)}, names.lookup x = some .free → (names.map fun (n, k) => if (k == NameKind.free && env.scope.kind == .function && env.kindOf n == some .cell) then (n, NameKind.cell) else (n, k)).lookup x = some .cell ∨ (names.map fun (n, k) => if (k == NameKind.free && env.scope.kind == .function && env.kindOf n == some .cell) then (n, NameKind.cell) else (n, k)).lookup x = some .free
 | [], h => by simp at h
 | (n, k) :: r, h => by
  have ih := @relabel_free env x r
  simp only [List.map_cons]
  cases hx : x == n with
  | true =>
   simp only [List.lookup_cons, hx] at h
   cases h
   by_cases hc : (NameKind.free == NameKind.free && env.scope.kind == .function && env.kindOf n == some .cell) = true
   ·rw [if_pos hc]; left; simp [List.lookup_cons, hx]
   ·rw [if_neg hc]; right; simp [List.lookup_cons, hx]
  | false =>
   simp only [List.lookup_cons, hx] at h
   by_cases hc : (k == NameKind.free && env.scope.kind == .function && env.kindOf n == some .cell) = true
   ·rw [if_pos hc]; simp only [List.lookup_cons, hx]; exact ih h
   ·rw [if_neg hc]; simp only [List.lookup_cons, hx]; exact ih h
theorem relabel_back {env : Env} {x : Str} : ∀ {names : List (Str × NameKind)}, (∀ y ∈ names, y.2 ≠ .cell) → ((names.map fun (n, k) => if (k == NameKind.free && env.scope.kind == .function && env.kindOf n == some .cell) then (n, NameKind.cell) else (n, k)).lookup x = some .cell ∨ (names.map fun (n, k) => if (k == NameKind.free && env.scope.kind == .function && env.kindOf n == some .cell) then (n, NameKind.cell) else (n, k)).lookup x = some .free) → (x, NameKind.free) ∈ names
 | [], _, h => by simp at h
 | (n, k) :: r, hn, h => by
  have ih := @relabel_back env x r fun y hy => hn y (List.mem_cons_of_mem _ hy)
  simp only [List.map_cons] at h
  cases hx : x == n with
  | true =>
   have e : x = n := by simpa using hx
   subst e
   have hk := hn (x, k) List.mem_cons_self
   by_cases hc : (k == NameKind.free && env.scope.kind == .function && env.kindOf x == some .cell) = true
   ·have hf : k = .free := by
     simp only [Bool.and_eq_true, beq_iff_eq] at hc
     exact hc.1.1
    subst hf
    exact List.mem_cons_self
   ·rw [if_neg hc] at h
    simp only [List.lookup_cons, hx] at h
    rcases h with h | h
    ·exact absurd (Option.some.inj h) hk
    ·have hf : k = .free := Option.some.inj h
     subst hf
     exact List.mem_cons_self
  | false =>
   refine List.mem_cons_of_mem _ (ih ?_)
   by_cases hc : (k == NameKind.free && env.scope.kind == .function && env.kindOf n == some .cell) = true
   ·rw [if_pos hc] at h; simpa only [List.lookup_cons, hx] using h
   ·rw [if_neg hc] at h; simpa only [List.lookup_cons, hx] using h
theorem capt_cell {X : Cx} {pins : List (Addr × Obj)} {σ : St} {H : Hp} {s : Shared} {N' : List Str} {ix : List (Option Nat)} {scope : Scope} {i : Nat} {x : Str} {v : V} (B : BlkOk X N' ix scope) (I : Inv X pins σ H s)
  (h1 : N'[i]? = some x) (h2 : (capt ix σ)[i]? = some (some v)) : ∃ u c, RelV v u ∧ (clOf X.env.cells scope.names []).lookup x = some c ∧ X.env.cells.lookup x = some c ∧ s.heap.IsCell c (some u) ∧
   ((relabel scope X.env).names.lookup x = some .cell ∨ (relabel scope X.env).names.lookup x = some .free) := by
 have clB : ∀ x c, (clOf X.env.cells scope.names []).lookup x = some c → X.env.cells.lookup x = some c := fun x c h => clOf_has scope.names [] (fun _ _ z => by simp at z) h
 obtain ⟨j, hj, hv⟩ : ∃ j, ix[i]? = some (some j) ∧ σ[j]? = some (some v) := by
  unfold capt at h2
  rw [List.getElem?_map] at h2
  cases e : ix[i]? with
  | none => rw [e] at h2; cases h2
  | some o =>
   rw [e] at h2
   cases o with
   | none => cases h2
   | some j =>
    refine ⟨j, rfl, ?_⟩
    have h2' : (σ[j]?).join = some v := Option.some.inj h2
    cases e2 : σ[j]? with
    | none => rw [e2] at h2'; cases h2'
    | some o2 => rw [e2] at h2'; have : o2 = some v := h2'; rw [this]
 obtain ⟨x', hx1, hx2, hx3⟩ := B.cap i j hj
 have exx : x' = x := by
  have h1' : N'[i]? = some x := h1
  rw [hx1] at h1'; exact Option.some.inj h1'
 subst exx
 have hmem := PySem.mem_of_lookup hx3
 have hout := B.free _ hmem rfl
 obtain ⟨m0, _, hl⟩ := I.loc
 obtain ⟨u, r, l⟩ := hl j x' v hx2 hv (by
  rcases hout with e | e
  ·exact .inr (.inl e)
  ·exact .inr (.inr e))
 rcases l with ⟨k, _⟩ | ⟨k, c, e, z⟩
 ·rcases hout with e | e
  ·rw [e] at k; cases k
  ·rw [e] at k; cases k
 ·obtain ⟨c', hc'⟩ := clOf_get scope.names [] hmem (I.ok.has x' hout)
  have := clB x' c' hc'
  rw [e] at this; cases this
  exact ⟨u, c, r, hc', e, z, relabel_free hx3⟩
theorem inv_block {X : Cx} {pins : List (Addr × Obj)} {σ : St} {H : Hp} {s s4 : Shared} {N' : List Str} {ix : List (Option Nat)} {scope : Scope} {C : Addr} {fp : List Addr} {xe : Value → Shared → Prop} {m : Str → Option Value}
  (B : BlkOk X N' ix scope) (I : Inv X pins σ H s) (hf : ∀ b ∈ fp, FpOk X pins H b) (hC : s.heap.objs.size ≤ C) (hfs : ∀ b ∈ fp, b < s.heap.objs.size)
  (ho : s4.os = s.os) (hg : s4.gens = s.gens) (hk : ∀ b o, s.heap.get? b = some o → s4.heap.get? b = some o) (hns : s4.heap.Ns C m) :
  Inv (cxComp X N' scope C s H fp xe) pins (capt ix σ) H s4 := by
 have clB : ∀ x c, (clOf X.env.cells scope.names []).lookup x = some c → X.env.cells.lookup x = some c := fun x c h => clOf_has scope.names [] (fun _ _ z => by simp at z) h
 have hfree : H C = none := I.hok.fresh hC
 have neC : ∀ b o, s.heap.get? b = some o → b ≠ C := fun b o e => Nat.ne_of_lt (Nat.lt_of_lt_of_le (Heap.lt_size e) hC)
 refine ⟨⟨I.ok.mod, B.kind, I.ok.glob, I.ok.blt, hC, fun x y c h1 h2 => I.ok.inj x y c (clB x c h1) (clB y c h2), fun x hx => ?_, fun x c h => absurd (show false = true from h) Bool.false_ne_true, I.ok.hd, I.ok.frames, .inl rfl, fun b hb => ⟨?_, fun x c e => ?_⟩, I.bs, ?_, fun b o e hb => ?_, fun b hb z => ?_, I.stack, I.stkFree⟩,
  ho, ?_, Un.kept hk, ⟨m, hns, fun i x v h1 h2 h3 => ?_⟩, fun x c e => ?_, hfree, fun x c e => I.freeC x c (clB x c e), fun p hp => ?_, I.hok.kept hk, ?_⟩
 ·have hx' := relabel_back (env := X.env) (x := x) B.nocell hx
  exact clOf_get scope.names [] hx' (I.ok.has x (B.free _ hx' rfl))
 ·exact Nat.ne_of_lt (Nat.lt_of_lt_of_le (hfs b hb) hC)
 ·exact (hf b hb).2.2.2.2.1 x c (clB x c e)
 ·exact Nat.le_trans I.ok.bsz I.sz
 ·obtain ⟨_, _, _, q, _⟩ := hf b hb
  rcases q with q | q
  ·exact I.ok.noex b o e q
  ·exact absurd (Nat.lt_of_lt_of_le (Heap.lt_size (I.ok.bs b o e).1) q) (Nat.lt_irrefl _)
 ·obtain ⟨_, q1, q2, _⟩ := hf b hb
  rcases List.mem_cons.mp (I.stkSub b z) with e | e
  ·exact q1 e
  ·exact q2 e
 ·rw [hg]; exact I.bare
 ·obtain ⟨u, c, r, hc1, _, ⟨oc, z1, z2⟩, hk'⟩ := capt_cell B I h1 h2
  exact ⟨u, r, .inr ⟨hk', c, hc1, oc, hk _ _ z1, z2⟩⟩
 ·obtain ⟨v, oc, h1, h2⟩ := I.cell x c (clB x c e)
  exact ⟨v, oc, hk _ _ h1, h2⟩
 ·obtain ⟨e, n, ne, nf, d⟩ := I.pin p hp
  refine ⟨hk _ _ e, n, neC _ _ e, fun z => ?_, d⟩
  rcases List.mem_cons.mp (I.stkSub p.1 z) with e' | e'
  ·exact ne e'
  ·exact nf e'
 ·show (ix.map _).length = N'.length
  rw [List.length_map]; exact B.len
end L2
namespace L2
open PySem PySem.Spec PyProof.Rows
theorem compLoop_go {prog : Program} {w : World} {A : Around} {R : Result → Shared → Prop} {s : Shared} {elt target iter : Expr} {ifs : List Expr} {scope : Scope} {pos : Pos} {it acc : Value} {env : Env} (Iv : Nat → Shared → Prop)
  (turn : ∀ n s, Iv n s → wpAny (model prog w) A (pyNext it) (fun r s₁ => match r with
   | none => R (.ok .next) s₁
   | some v => wpAny (model prog w) A (letOwnedTupleGo target it v) (fun _ s₁' => wpAny (model prog w) A (assign target env v) (fun _ s₂ =>
     wpAny (model prog w) A (forIn ifs true fun c r => if r = true then do let ok ← isTrue c env (eval c env); pure (ForInStep.yield ok) else pure (ForInStep.yield r)) (fun ok s₃ =>
      if ok = true then wpAny (model prog w) A (eval elt env) (fun x s₄ =>
       wpAny (model prog w) A (call (.builtin "list.append") [acc, x]) (fun _ s₅ => ∃ m, m < n ∧ Iv m s₅) (notedBy (model prog w) A env fun e s' => R (.error e) s') s₄) (notedBy (model prog w) A env fun e s' => R (.error e) s') s₃
      else ∃ m, m < n ∧ Iv m s₃) (notedBy (model prog w) A env fun e s' => R (.error e) s') s₂) (notedBy (model prog w) A env fun e s' => R (.error e) s') s₁') (notedBy (model prog w) A env fun e s' => R (.error e) s') s₁) (notedBy (model prog w) A env fun e s' => R (.error e) s') s)
  (n : Nat) (h : Iv n s) :
  codeAny (model prog w) A (.compLoop (.ListComp elt [⟨target, iter, ifs, 0⟩] scope pos) 0 it acc env) R s := by
 refine codeAny_loop rfl Iv (fun n s hI => ?_) n h
 show wpAny _ A ((compTurn (.ListComp elt [⟨target, iter, ifs, 0⟩] scope pos) 0 it acc env).onRaise (fun x => do noteFrame x env; theTreesLotGoes x)) _ _ s
 refine wpAny_noted ?_
 rw [compTurn_list]
 refine wpAny_bind (wpAny_standAt (wpAny_bind (wpAny_mono (turn n s hI) (fun r s₁ h₁ => ?_) fun _ _ h' => h')))
 cases r with
 | none => exact wpAny_pure h₁
 | some v =>
  refine wpAny_bind (wpAny_mono h₁ (fun _ s₁' h₁' => ?_) fun _ _ h' => h')
  refine wpAny_bind (wpAny_mono h₁' (fun _ s₂ h₂ => wpAny_bind (wpAny_mono h₂ (fun ok s₃ h₃ => ?_) fun _ _ h' => h')) fun _ _ h' => h')
  cases ok with
  | false => exact wpAny_pure ⟨rfl, h₃⟩
  | true =>
   exact wpAny_bind (wpAny_bind (wpAny_mono h₃ (fun x s₄ h₄ => wpAny_bind (wpAny_mono h₄ (fun _ s₅ h₅ => wpAny_pure (wpAny_pure ⟨rfl, h₅⟩)) fun _ _ h' => h')) fun _ _ h' => h'))
def PTs (X : Cx) (ifs : List Expr) (t : TT) : Prop :=
 ∀ (pins : List (Addr × Obj)) (s : Shared) (σ : St) (H : Hp) (Q : Bool → Hp → Prop), Inv X pins σ H s → t σ H Q →
  wpAny (model X.prog X.w) X.A (forIn ifs true fun c r => if r = true then do let ok ← isTrue c X.env (eval c X.env); pure (ForInStep.yield ok) else pure (ForInStep.yield r)) (TP X pins σ Q) X.xe s
def tTrue : TT := fun _ H Q => Q true H
theorem pts_nil {X : Cx} : PTs X [] tTrue := fun _ _ _ H _ I h => wpAny_tests_nil ⟨H, I, h⟩
theorem pts_one {X : Cx} {c : Expr} {t : TT} (h : PT X c t) : PTs X [c] t := fun pins s σ H Q I hw => wpAny_tests_one (h pins s σ H Q I hw)
def LcGoal (ix : List (Option Nat)) (g : TG) (tt : TT) (te : TE) (σ : St) (H1 : Hp) (Q : VK) (J : It) : Prop := ∃ W : Nat → Nat → List V → Hp → Prop, (∃ m, W 0 m [] H1) ∧ ∀ i m ys H, W i m ys H →
 (J.stop i H ∧ ys.length ≤ sizeLine ∧ ∀ p, H p = none → Q (.ref p) (upd H p (.lst ys))) ∨
 (J.go i H ∧ ys.length ≤ sizeLine ∧ ∃ N : List V → Hp → Prop, (∀ ys' H', N ys' H' → ∃ m', m' < m ∧ W (i + 1) m' ys' H') ∧ ∀ x H', J.yld i H x H' → g x (capt ix σ) H' fun σ2 H2 => tt σ2 H2 fun b H3 => if b = true then te σ2 H3 fun v H4 => N (ys ++ [v]) H4 else N ys H3)
def tLC (ix : List (Option Nat)) (wi : TI) (g : TG) (tt : TT) (te : TE) : TE := fun σ H Q => wi σ H fun J H1 => LcGoal ix g tt te σ H1 Q J
section
variable {X : Cx} {elt tg iter : Expr} {ifs : List Expr} {scope : Scope} {pos : Pos} {N' : List Str} {ix : List (Option Nat)} {wi : TI} {g : TG} {tt : TT} {te : TE}
theorem lc_run (B : BlkOk X N' ix scope) (hc : X.calm = true)
  (hg : ∀ C s H fp xe, PG (cxComp X N' scope C s H fp xe) tg g) (ht : ∀ C s H fp xe, PTs (cxComp X N' scope C s H fp xe) ifs tt) (he : ∀ C s H fp xe, PE (cxComp X N' scope C s H fp xe) elt te)
  {pins : List (Addr × Obj)} {s2 : Shared} {σ : St} {H2 : Hp} {Q : VK} {it : Addr} {fp : List Addr} {tn : Nat → Heap → Prop} {J : It} {RR : Value → Addr → Result → Shared → Prop} {E : Value → Shared → Prop}
  (I2 : Inv X pins σ H2 s2) (T : Turn X.prog X.w X.K tg J fp it tn) (st2 : tn 0 s2.heap) (f2 : ∀ b ∈ fp, FpOk X pins H2 b)
  (q : ∃ W : Nat → Nat → List V → Hp → Prop, (∃ m, W 0 m [] H2) ∧ ∀ i m ys H, W i m ys H →
   (J.stop i H ∧ ys.length ≤ sizeLine ∧ ∀ p, H p = none → Q (.ref p) (upd H p (.lst ys))) ∨
   (J.go i H ∧ ys.length ≤ sizeLine ∧ ∃ N : List V → Hp → Prop, (∀ ys' H', N ys' H' → ∃ m', m' < m ∧ W (i + 1) m' ys' H') ∧ ∀ x H', J.yld i H x H' → g x (capt ix σ) H' fun σ2 H2 => tt σ2 H2 fun b H3 => if b = true then te σ2 H3 fun v H4 => N (ys ++ [v]) H4 else N ys H3))
  (hRR : ∀ D C s' H' ys, Inv X pins σ (upd H' D (.lst ys)) s' → H' D = none → Q (.ref D) (upd H' D (.lst ys)) → (∃ m, s'.heap.Ns C m) → upd H' D (.lst ys) C = none → C ≠ X.env.locals → X.s₀.heap.objs.size ≤ C → (∀ x c, X.env.cells.lookup x = some c → c ≠ C) → (∀ p ∈ X.pn ++ pins, p.1 ≠ C) → RR (.ref D) C (.ok .next) s') :
  wpAny (model X.prog X.w) X.A (newList []) (fun acc s₃ => wpAny (model X.prog X.w) X.A (newFunctionEnv scope X.env.globals (clOf X.env.cells scope.names []) [] X.env.qual none .none (some X.env)) (fun cenv s₄ =>
   codeAny (model X.prog X.w) X.A (.compStart (.ListComp elt [⟨tg, iter, ifs, 0⟩] scope pos) 0 (.ref it) acc { cenv with scope := relabel scope X.env }) (RR acc cenv.locals) s₄) E s₃) E s2 := by
 have hfs : ∀ b ∈ fp, b < s2.heap.objs.size := fun b hb => by
  obtain ⟨o, e, _⟩ := T.obj _ _ st2 b hb
  exact Heap.lt_size e
 refine wpAny_newObj_type (wpAny_newFunctionEnv B.nocell (by intro y hy; simp at hy) (fun h₁ hns₁ hsb₁ => ?_) B.kind)
 dsimp only at hns₁ hsb₁ ⊢
 generalize hH3 : s2.heap.push { cls := .type "list", dict := none, data := .seq ([] : List Value).toArray } = H3 at hns₁ hsb₁ ⊢
 have hC : H3.objs.size = s2.heap.objs.size + 1 := by rw [← hH3, Heap.size_push]
 have hDC : s2.heap.objs.size ≠ H3.objs.size := by rw [hC]; exact Nat.ne_of_lt (Nat.lt_succ_self _)
 have below : ∀ b, b < s2.heap.objs.size → b ≠ H3.objs.size ∧ b ≠ s2.heap.objs.size := fun b hb => ⟨by rw [hC]; exact Nat.ne_of_lt (Nat.lt_succ_of_lt hb), Nat.ne_of_lt hb⟩
 have old : ∀ b o, s2.heap.get? b = some o → h₁.get? b = some o := fun b o e => hsb₁.extBut b o (below b (Heap.lt_size e)).1 (Heap.get?_push_of_some _ (hH3 ▸ Heap.get?_push_of_some _ e))
 have hacc : h₁.get? s2.heap.objs.size = some { cls := .type "list", data := .seq ([] : List Value).toArray 0 } := hsb₁.extBut _ _ hDC (Heap.get?_push_of_some _ (hH3 ▸ Heap.get?_push_size _ rfl))
 have hCle : s2.heap.objs.size ≤ H3.objs.size := by rw [hC]; exact Nat.le_succ _
 generalize hD : s2.heap.objs.size = D at *
 generalize hCC : H3.objs.size = C at *
 obtain ⟨W, ⟨m0, w0⟩, turn⟩ := q
 let xe : Value → Shared → Prop := notedBy (model X.prog X.w) X.A (compEnvC scope (clOf X.env.cells scope.names []) C X.env) fun e s' => RR (.ref D) C (.error e) s'
 let X' : Cx := cxComp X N' scope C s2 H2 fp xe
 have DL : D ∉ frs X.stack := fun z => by
  rcases List.mem_cons.mp (I2.stkSub D z) with e | e
  ·exact absurd I2.lt (by rw [← e, hD]; exact Nat.lt_irrefl _)
  ·exact I2.nofs (by rw [hD]; exact Nat.le_refl _) e
 have cellLt : ∀ x c, X.env.cells.lookup x = some c → c < D := fun x c e => by
  obtain ⟨v, oc, h, _⟩ := I2.cell x c e
  rw [← hD]; exact Heap.lt_size h
 have clB : ∀ x c, (clOf X.env.cells scope.names []).lookup x = some c → X.env.cells.lookup x = some c := fun x c h => clOf_has scope.names [] (fun _ _ z => by simp at z) h
 have pinLt : ∀ p ∈ X.pn ++ pins, p.1 < D := fun p hp => by rw [← hD]; exact Heap.lt_size (I2.pin p hp).1
 have fpX : ∀ {pl : List (Addr × Obj)} {H' : Hp}, (∀ b ∈ fp, H' b = none) → (∀ p ∈ pl, p ∈ pins ∨ p.1 = D) → ∀ b ∈ fp, FpOk X' pl H' b := fun {pl H'} hn hpl b hb => by
  obtain ⟨_, q1, q2, q3, q4, q5⟩ := f2 b hb
  refine ⟨hn b hb, (below b (hfs b hb)).1, fun z => ?_, .inl hb, fun x c e => q4 x c (clB x c e), fun p hp => ?_⟩
  ·rcases List.mem_cons.mp (I2.stkSub b z) with e | e
   ·exact q1 e
   ·exact q2 e
  ·rcases List.mem_append.mp hp with hp | hp
   ·exact q5 p (List.mem_append_left _ hp)
   ·rcases hpl p hp with z | z
    ·exact q5 p (List.mem_append_right _ z)
    ·rw [z]; exact Ne.symm (below b (hfs b hb)).2
 have loop : ∀ s₃ : Shared, s₃ = { s2 with heap := h₁, toks := s2.toks + ([] : List (Str × Value)).length } →
   codeAny (model X.prog X.w) X.A (.compLoop (.ListComp elt [⟨tg, iter, ifs, 0⟩] scope pos) 0 (.ref it) (.ref D) (compEnvC scope (clOf X.env.cells scope.names []) C X.env)) (RR (.ref D) C) s₃ := by
  rintro s₃ rfl
  refine compLoop_go (fun n s' => ∃ i H' ys its k, Inv X' pins (capt ix σ) H' s' ∧ tn i s'.heap ∧ (∀ b ∈ fp, H' b = none) ∧ H' D = none ∧ s'.heap.get? D = some { cls := .type "list", data := .seq (List.toArray its) k } ∧ Vals ys its ∧ W i n ys H') ?_ m0
   ⟨0, H2, [], [], 0, inv_block B I2 f2 (by rw [hD]; exact hCle) (fun b hb => by rw [hD]; exact hfs b hb) rfl rfl old hns₁, T.keep _ _ _ st2 fun b _ o e => old b o e, fun b hb => (f2 b hb).1, I2.hok.fresh (by rw [hD]; exact Nat.le_refl _), hacc, .nil, w0⟩
  rintro n s' ⟨i, H', ys, its, k, I', st', fr', hDn, hDo, rv, w'⟩
  have hDX : ∀ v, ({ cls := .type "list", data := .seq (List.toArray its) k } : Obj).data ≠ .cell v := fun v z => by
   have z' : Data.seq (List.toArray its) k = Data.cell v := z
   cases z'
  have pinD : ∀ {σ' : St} {H'' : Hp} {s'' : Shared} {its' : List Value} {k' : Nat}, Inv X' pins σ' H'' s'' → H'' D = none → s''.heap.get? D = some { cls := .type "list", data := .seq (List.toArray its') k' } → Inv X' (pins ++ [(D, { cls := .type "list", data := .seq (List.toArray its') k' })]) σ' H'' s'' := fun {σ' H'' s'' its' k'} J hn ho =>
   J.pins_of fun p hp => (List.mem_append.mp hp).elim (fun z => J.pin p (List.mem_append_right _ z)) fun z => by
    have e : p = (D, { cls := .type "list", data := .seq (List.toArray its') k' }) := by simpa using z
    subst e
    exact ⟨ho, hn, hDC, DL, fun v z => by
     have z' : Data.seq (List.toArray its') k' = Data.cell v := z
     cases z'⟩
  have plD : ∀ {its' : List Value} {k' : Nat}, ∀ p ∈ pins ++ [(D, ({ cls := .type "list", data := .seq (List.toArray its') k' } : Obj))], p ∈ pins ∨ p.1 = D := fun {its' k'} p hp => (List.mem_append.mp hp).elim .inl fun z => by
   have e : p = (D, { cls := .type "list", data := .seq (List.toArray its') k' }) := by simpa using z
   subst e
   exact .inr rfl
  have unD : ∀ {pl : List (Addr × Obj)} {σ' : St} {H'' : Hp} {s'' : Shared}, Inv X' (pins ++ pl) σ' H'' s'' → Inv X' pins σ' H'' s'' := fun J => J.pins_of fun p hp => J.pin p (List.mem_append_right _ (List.mem_append_left _ hp))
  have I'p := pinD I' hDn hDo
  rcases turn i n ys H' w' with ⟨stop, hsz, fin⟩ | ⟨go, hsz, N, hN, step⟩
  ·refine wpAny_mono (T.done X' rfl rfl rfl hc i _ s' (capt ix σ) H' X'.xe I'p (fpX fr' plD) st' stop) (fun r s5 ⟨hr, I5⟩ => ?_) fun _ _ z => z
   subst hr
   have hDo5 : s5.heap.get? D = some { cls := .type "list", data := .seq (List.toArray its) k } := (I5.pin (D, _) (List.mem_append_right _ (List.mem_append_right _ (List.mem_singleton.mpr rfl)))).1
   have sz0 : X.s₀.heap.objs.size ≤ D := by rw [← hD]; exact I2.sz
   have J : Inv X pins σ H' s5 := I2.call' (ch := fp) I5.os I5.base I5.hok I5.bare fun b hb => by
    obtain ⟨_, q1, _, q3, q4, q5⟩ := f2 b hb
    exact ⟨q3, q1, q4, q5⟩
   have nL : X.env.locals < D := by rw [← hD]; exact I2.lt
   have J2 : Inv X pins σ (upd H' D (.lst ys)) s5 := Inv.track J hDn sz0 (Nat.ne_of_gt nL) (fun x c e => Nat.ne_of_lt (cellLt x c e)) (fun p hp => Nat.ne_of_lt (pinLt p hp)) ⟨hsz, its, k, rv, hDo5⟩
   obtain ⟨mC, hnC, _⟩ := I5.loc
   have DltC : D < C := Nat.lt_of_le_of_ne hCle hDC
   refine hRR D C s5 H' ys J2 hDn (fin D hDn) ⟨mC, hnC⟩ ?_ (Nat.ne_of_gt (Nat.lt_trans nL DltC)) (Nat.le_trans sz0 hCle) (fun x c e => Nat.ne_of_lt (Nat.lt_trans (cellLt x c e) DltC)) fun p hp => Nat.ne_of_lt (Nat.lt_trans (pinLt p hp) DltC)
   rw [upd_ne (Ne.symm hDC)]
   exact I5.free
  ·refine wpAny_mono (T.item X' rfl rfl rfl hc i _ s' (capt ix σ) H' X'.xe I'p (fpX fr' plD) st' go) (fun r s5 ⟨u, hr, h5⟩ => ?_) fun _ _ z => z
   subst hr
   refine wpAny_mono h5 (fun _ s6 ⟨x, H6, I6, r6, y6, st6, fr6⟩ => ?_) fun _ _ z => z
   have I6' := I6.pinned (fpX fr6 plD) (T.obj _ _ st6)
   refine wpAny_mono (hg C s2 H2 fp xe _ s6 (capt ix σ) H6 x u _ I6' r6 (step x H6 y6)) (fun _ s7 ⟨σ7, H7, I7, q7⟩ => ?_) fun _ _ z => z
   have after : ∀ {σ8 : St} {H8 : Hp} {s8 : Shared}, Inv X' ((pins ++ [(D, { cls := .type "list", data := .seq (List.toArray its) k })]) ++ pinsAt fp s6.heap) σ8 H8 s8 →
     Inv X' pins (capt ix σ) H8 s8 ∧ tn (i + 1) s8.heap ∧ (∀ b ∈ fp, H8 b = none) ∧ H8 D = none ∧ s8.heap.get? D = some { cls := .type "list", data := .seq (List.toArray its) k } := fun {σ8 H8 s8} I8 => by
    have pD := I8.pin (D, { cls := .type "list", data := .seq (List.toArray its) k }) (List.mem_append_right _ (List.mem_append_left _ (List.mem_append_right _ (List.mem_singleton.mpr rfl))))
    have fpP : ∀ b ∈ fp, ∀ o, s6.heap.get? b = some o → s8.heap.get? b = some o ∧ H8 b = none := fun b hb o e => by
     have z := I8.pin (b, o) (List.mem_append_right _ (List.mem_append_right _ (mem_pinsAt hb e)))
     exact ⟨z.1, z.2.1⟩
    refine ⟨⟨I8.ok, I8.os, I8.bare, I8.base, ?_, I8.cell, I8.free, I8.freeC, fun p hp => ?_, I8.hok, ?_⟩, T.keep _ _ _ st6 fun b hb o e => (fpP b hb o e).1, fun b hb => ?_, pD.2.1, pD.1⟩
    ·obtain ⟨m8, hn8, _⟩ := I8.loc
     refine ⟨m8, hn8, fun i x v h1 h2 h3 => ?_⟩
     obtain ⟨u, c, r, hc1, hc2, ⟨oc, z1, z2⟩, hk'⟩ := capt_cell B I2 h1 h2
     obtain ⟨sl, e8⟩ := I8.base.any z1 (I2.freeC x c hc2) fun z => (f2 c z).2.2.2.2.1 x c hc2 rfl
     exact ⟨u, r, .inr ⟨hk', c, hc1, _, e8, z2⟩⟩
    ·rcases List.mem_append.mp hp with hp | hp
     ·exact I8.pin p (List.mem_append_left _ hp)
     ·exact I8.pin p (List.mem_append_right _ (List.mem_append_left _ (List.mem_append_left _ hp)))
    ·show (capt ix σ).length = N'.length
     unfold capt
     rw [List.length_map]; exact B.len
    ·obtain ⟨o, e, _⟩ := T.obj _ _ st6 b hb
     exact (fpP b hb o e).2
   refine wpAny_mono (ht C s2 H2 fp xe _ s7 σ7 H7 _ I7 q7) (fun b s8 ⟨H8, I8, q8⟩ => ?_) fun _ _ z => z
   cases b with
   | false =>
    rw [if_neg Bool.false_ne_true] at q8 ⊢
    obtain ⟨m', hm, w8⟩ := hN _ _ q8
    obtain ⟨J, tn8, f8, d8, o8⟩ := after I8
    exact ⟨m', hm, i + 1, H8, ys, its, k, J, tn8, f8, d8, o8, rv, w8⟩
   | true =>
    rw [if_pos rfl] at q8 ⊢
    refine wpAny_mono (he C s2 H2 fp xe _ s8 σ7 H8 _ I8 q8) (fun v s9 ⟨y, H9, I9, r9, q9⟩ => ?_) fun _ _ z => z
    obtain ⟨J, tn9, f9, d9, o9⟩ := after I9
    obtain ⟨m', hm, w9⟩ := hN _ _ q9
    refine append_at (hsz := by rw [List.size_toArray, ← rv.length]; exact hsz) o9 fun h10 hs10 hD10 => ?_
    refine ⟨m', hm, i + 1, H9, ys ++ [y], its ++ [v], k + 1, ?_, T.keep _ _ _ tn9 fun b hb o e => hs10.extBut b o (fun z => ?_) e, f9, d9, by rw [List.push_toArray] at hD10; exact hD10, rv.append (.cons r9 .nil), w9⟩
    ·refine J.turned (t' := s9.toks) (it := D) (fun b o hb e => hs10.extBut b o hb e) d9 hDC (.inr (by show s2.heap.objs.size ≤ D; rw [hD]; exact Nat.le_refl _)) (fun x c e => Nat.ne_of_lt (cellLt x c (clB x c e))) fun p hp => Nat.ne_of_lt (pinLt p hp)
    ·exact (below b (hfs b hb)).2 z
 exact codeAny_compStart_list (loop _ rfl) (T.self X.A 0 _ _ _ (T.keep _ _ _ st2 fun b _ o e => old b o e) (loop _ rfl))
end
end L2
namespace L2
open PySem PySem.Spec PyProof.Rows
def blkCheck (outer : Scope) (N N' : List Str) (ix : List (Option Nat)) (scope : Scope) : Bool :=
 (scope.kind == .function) && (scope.names.all fun y => y.2 != .cell) && (scope.names.all fun y => y.2 != .local || scope.names.lookup y.1 == some .local) &&
 (scope.names.all fun y => y.2 != .free || outer.names.lookup y.1 == some .cell || outer.names.lookup y.1 == some .free) && (ix.length == N'.length) &&
 (List.range ix.length).all fun i => match ix[i]? with
  | some (some j) => (match N'[i]? with | some x => N[j]? == some x && scope.names.lookup x == some .free | none => false)
  | _ => true
theorem blk_of {X : Cx} {N' : List Str} {ix : List (Option Nat)} {scope : Scope} (h : blkCheck X.env.scope X.N N' ix scope = true) : BlkOk X N' ix scope := by
 unfold blkCheck at h
 simp only [Bool.and_eq_true] at h
 obtain ⟨⟨⟨⟨⟨h1, h2⟩, h3⟩, h4⟩, h5⟩, h6⟩ := h
 refine ⟨?_, fun y hy => ?_, fun y hy hl => ?_, fun y hy hl => ?_, by simpa using h5, fun i j e => ?_⟩
 ·simpa using h1
 ·have := List.all_eq_true.mp h2 y hy
  simpa using this
 ·have := List.all_eq_true.mp h3 y hy
  rw [hl] at this
  simpa using this
 ·have := List.all_eq_true.mp h4 y hy
  rw [hl] at this
  simp at this
  exact this
 ·have hi : i < ix.length := (List.getElem?_eq_some_iff.mp e).1
  have := List.all_eq_true.mp h6 i (List.mem_range.mpr hi)
  rw [e] at this
  simp only at this
  cases q : N'[i]? with
  | none => rw [q] at this; simp at this
  | some x =>
   rw [q] at this
   simp at this
   exact ⟨x, rfl, this.1, this.2⟩
section
variable {X : Cx} {elt tg iter : Expr} {ifs : List Expr} {scope : Scope} {pos : Pos} {N' : List Str} {ix : List (Option Nat)} {wi : TI} {g : TG} {tt : TT} {te : TE}
theorem pe_lc (N' : List Str) (ix : List (Option Nat)) (hB : blkCheck X.env.scope X.N N' ix scope = true) (hc : X.calm = true) (hi : PI X tg iter wi)
  (hg : ∀ C s H fp xe, PG (cxComp X N' scope C s H fp xe) tg g) (ht : ∀ C s H fp xe, PTs (cxComp X N' scope C s H fp xe) ifs tt) (he : ∀ C s H fp xe, PE (cxComp X N' scope C s H fp xe) elt te)
  (hs : ∀ x, foldedSetIterable iter X.env x = pure x := by intro _; rfl) : PE X (.ListComp elt [⟨tg, iter, ifs, 0⟩] scope pos) (tLC ix wi g tt te) := by
 intro pins s σ H Q I h
 have B := blk_of hB
 rw [eval_ListComp]
 refine wpAny_comprehension_free (use := none) rfl hs (closure_is fun y hy hf => I.ok.has y.1 (B.free y hy hf)) B.kind B.locs (thn (hi pins s σ H _ I h) fun v s1 h1 => thn h1 fun itv s2 h2 => ?_)
 obtain ⟨it, fp, tn, J, H2, e, I2, T, st2, f2, q⟩ := h2
 subst e
 refine lc_run B hc hg ht he I2 T st2 f2 q ?_
 intro D C s' H' ys J2 hDn hq ⟨m, hn⟩ hC1 hC2 hC3 hC4 hC5
 refine ⟨m, hn, fun h' hs' => ?_⟩
 exact ⟨.ref D, _, J2.turned (t' := s'.toks) (it := C) (fun b o hb e => hs'.extBut b o hb e) hC1 hC2 (.inr hC3) hC4 hC5, rfl, hq⟩
theorem ps_setLC {i : Nat} {x : Str} {pos' spos : Pos} (N' : List Str) (ix : List (Option Nat)) (hN : X.N.Nodup) (hi' : X.N[i]? = some x) (hx : X.env.scope.names.lookup x = some .local)
  (hB : blkCheck X.env.scope X.N N' ix scope = true) (hc : X.calm = true) (hi : PI X tg iter wi)
  (hg : ∀ C s H fp xe, PG (cxComp X N' scope C s H fp xe) tg g) (ht : ∀ C s H fp xe, PTs (cxComp X N' scope C s H fp xe) ifs tt) (he : ∀ C s H fp xe, PE (cxComp X N' scope C s H fp xe) elt te)
  (hsw : swapsWith (.ListComp elt [⟨tg, iter, ifs, 0⟩] scope pos) (some (.Name x pos')) spos.line X.env = pure true)
  (hs : ∀ x, foldedSetIterable iter X.env x = pure x := by intro _; rfl) : PS X (.Assign [.Name x pos'] (.ListComp elt [⟨tg, iter, ifs, 0⟩] scope pos) spos) (tAsg (tLC ix wi g tt te) (gName i)) := by
 intro pins s σ H D0 I h
 have B := blk_of hB
 rw [exec_Assign_Name_used _ _ _ _ hsw]
 refine wpAny_bind (wpAny_standAt (wpAny_bind ?_))
 show wpAny _ X.A (do let _ ← comprehension (.ListComp elt [⟨tg, iter, ifs, 0⟩] scope pos) scope X.env _ (newList []) false (eval iter X.env) (some (assign (.Name x pos') X.env))) _ _ s
 refine wpAny_bind (wpAny_mono (wpAny_comprehension_free (use := some (assign (.Name x pos') X.env)) (Q := fun _ s' => SP X pins D0 .next s') rfl hs (closure_is fun y hy hf => I.ok.has y.1 (B.free y hy hf)) B.kind B.locs
  (thn (hi pins s σ H _ I h) fun v s1 h1 => thn h1 fun itv s2 h2 => ?_)) (fun _ s' hq => wpAny_pure (wpAny_pure hq)) fun _ _ e => e)
 obtain ⟨it, fp, tn, J, H2, e, I2, T, st2, f2, q⟩ := h2
 subst e
 refine lc_run (Q := fun x H1 => gName i x σ H1 D0.nx) B hc hg ht he I2 T st2 f2 q ?_
 intro D C s' H' ys J2 hDn hq ⟨m, hn⟩ hC1 hC2 hC3 hC4 hC5
 show wpAny _ X.A (assign (.Name x pos') X.env (.ref D)) _ _ _
 refine wpAny_assign_Name (store_ok2 (v := .ref D) J2 hN hi' (.inl hx) rfl (fun s'' I'' hsb => ?_) (.inr hx))
 obtain ⟨a, hsb, ha⟩ := hsb
 have aC : C ≠ a := by
  rcases ha with rfl | ha
  ·exact hC2
  ·exact fun z => hC4 x a ha z.symm
 refine ⟨m, hn.sameBut hsb aC, fun h'' hs'' => ?_⟩
 exact ⟨_, _, I''.turned (t' := s''.toks) (it := C) (fun b o hb e => hs''.extBut b o hb e) hC1 hC2 (.inr hC3) hC4 hC5, hq⟩
end
section
variable {K : PySem.W.Frag} {a : Addr} {xs : List V} {ix : List (Option Nat)} {g : TG} {tt : TT} {te : TE} {σ : St} {H1 : Hp} {Q : VK}
theorem lc_list (Pv : Nat → List V → Hp → Prop) (h0 : Pv 0 [] H1) (hl : ∀ i ys H, i ≤ xs.length → Pv i ys H → SqL K H a xs ∧ ys.length ≤ sizeLine)
  (hs : ∀ i x ys H, xs[i]? = some x → Pv i ys H → g x (capt ix σ) H fun σ2 H2 => tt σ2 H2 fun b H3 => if b = true then te σ2 H3 fun v H4 => Pv (i + 1) (ys ++ [v]) H4 else Pv (i + 1) ys H3)
  (hd : ∀ ys H, Pv xs.length ys H → ∀ p, H p = none → Q (.ref p) (upd H p (.lst ys))) : LcGoal ix g tt te σ H1 Q (Itl K a) := by
 refine ⟨fun i m ys H => m = xs.length - i ∧ i ≤ xs.length ∧ Pv i ys H, ⟨xs.length, by simp, Nat.zero_le _, h0⟩, ?_⟩
 rintro i m ys H ⟨rfl, hi, p⟩
 obtain ⟨q, z⟩ := hl i ys H hi p
 by_cases hlt : i < xs.length
 ·refine .inr ⟨⟨xs, xs[i], q, by simp [hlt]⟩, z, Pv (i + 1), fun ys' H' p' => ⟨xs.length - (i + 1), by omega, rfl, hlt, p'⟩, fun x H' y => ?_⟩
  obtain ⟨e, y⟩ := y
  subst e
  exact hs i x ys _ (y xs q) p
 ·have e : i = xs.length := by omega
  subst e
  exact .inl ⟨⟨xs, q, Nat.le_refl _⟩, z, hd ys H p⟩
theorem lc_range {lo : Int} {n : Nat} (Pv : Nat → List V → Hp → Prop) (h0 : Pv 0 [] H1) (hl : ∀ i ys H, i ≤ n → Pv i ys H → ys.length ≤ sizeLine)
  (hs : ∀ i ys H, i < n → Pv i ys H → g (.int (lo + i)) (capt ix σ) H fun σ2 H2 => tt σ2 H2 fun b H3 => if b = true then te σ2 H3 fun v H4 => Pv (i + 1) (ys ++ [v]) H4 else Pv (i + 1) ys H3)
  (hd : ∀ ys H, Pv n ys H → ∀ p, H p = none → Q (.ref p) (upd H p (.lst ys))) : LcGoal ix g tt te σ H1 Q (Itr lo n) := by
 refine ⟨fun i m ys H => m = n - i ∧ i ≤ n ∧ Pv i ys H, ⟨n, by simp, Nat.zero_le _, h0⟩, ?_⟩
 rintro i m ys H ⟨rfl, hi, p⟩
 have z := hl i ys H hi p
 by_cases hlt : i < n
 ·refine .inr ⟨hlt, z, Pv (i + 1), fun ys' H' p' => ⟨n - (i + 1), by omega, rfl, hlt, p'⟩, fun x H' y => ?_⟩
  obtain ⟨e, y⟩ := y
  subst e y
  exact hs i ys _ hlt p
 ·have e : i = n := by omega
  subst e
  exact .inl ⟨Nat.le_refl _, z, hd ys H p⟩
end
theorem lc_fm {K : PySem.W.Frag} {a : Addr} {xs : List V} {ix : List (Option Nat)} {g : TG} {tt : TT} {te : TE} {σ : St} {H1 : Hp} {Q : VK} (f : V → Option V) (hx : SqL K H1 a xs) (hz : xs.length ≤ sizeLine)
  (hs : ∀ x H (N : Option V → Hp → Prop), x ∈ xs → Same H1 H → (∀ H', Same H1 H' → N (f x) H') → g x (capt ix σ) H fun σ2 H2 => tt σ2 H2 fun b H3 => if b = true then te σ2 H3 fun v H4 => N (some v) H4 else N none H3)
  (hd : ∀ H p, Same H1 H → H p = none → Q (.ref p) (upd H p (.lst (xs.filterMap f)))) : LcGoal ix g tt te σ H1 Q (Itl K a) := by
 refine lc_list (K := K) (a := a) (xs := xs) (fun i ys H => ys = (xs.take i).filterMap f ∧ Same H1 H) ⟨rfl, Same.refl _⟩ (fun i ys H hi ⟨e, s⟩ => ⟨s.seq hx, ?_⟩) (fun i x ys H hi ⟨e, s⟩ => ?_) fun ys H ⟨e, s⟩ p hp => ?_
 ·subst e
  refine Nat.le_trans (List.length_filterMap_le _ _) (Nat.le_trans ?_ hz)
  rw [List.length_take]; exact Nat.min_le_right _ _
 ·have hm : x ∈ xs := List.mem_of_getElem? hi
  obtain ⟨hil, hix⟩ := List.getElem?_eq_some_iff.mp hi
  have et : xs.take (i + 1) = xs.take i ++ [x] := by rw [List.take_succ_eq_append_getElem hil, hix]
  refine hs x H (fun o H' => match o with | some v => (ys ++ [v] = (xs.take (i + 1)).filterMap f ∧ Same H1 H') | none => (ys = (xs.take (i + 1)).filterMap f ∧ Same H1 H')) hm s fun H' s' => ?_
  cases ef : f x with
  | some v =>
   refine ⟨?_, s'⟩
   rw [e, et, List.filterMap_append]
   simp [ef]
  | none =>
   refine ⟨?_, s'⟩
   rw [e, et, List.filterMap_append]
   simp [ef]
 ·subst e
  rw [List.take_length]
  exact hd H p s hp
theorem lc_fmR {lo : Int} {n : Nat} {ix : List (Option Nat)} {g : TG} {tt : TT} {te : TE} {σ : St} {H1 : Hp} {Q : VK} (f : Nat → Option V) (hz : n ≤ sizeLine)
  (hs : ∀ i H (N : Option V → Hp → Prop), i < n → Same H1 H → (∀ H', Same H1 H' → N (f i) H') → g (.int (lo + i)) (capt ix σ) H fun σ2 H2 => tt σ2 H2 fun b H3 => if b = true then te σ2 H3 fun v H4 => N (some v) H4 else N none H3)
  (hd : ∀ H p, Same H1 H → H p = none → Q (.ref p) (upd H p (.lst ((List.range n).filterMap f)))) : LcGoal ix g tt te σ H1 Q (Itr lo n) := by
 refine lc_range (fun i ys H => ys = (List.range i).filterMap f ∧ Same H1 H) ⟨rfl, Same.refl _⟩ (fun i ys H hi ⟨e, s⟩ => ?_) (fun i ys H hi ⟨e, s⟩ => ?_) fun ys H ⟨e, s⟩ p hp => ?_
 ·subst e
  refine Nat.le_trans (List.length_filterMap_le _ _) (Nat.le_trans ?_ hz)
  rw [List.length_range]; exact hi
 ·refine hs i H (fun o H' => match o with | some v => (ys ++ [v] = (List.range (i + 1)).filterMap f ∧ Same H1 H') | none => (ys = (List.range (i + 1)).filterMap f ∧ Same H1 H')) hi s fun H' s' => ?_
  cases ef : f i with
  | some v =>
   refine ⟨?_, s'⟩
   rw [e, List.range_succ, List.filterMap_append]
   simp [ef]
  | none =>
   refine ⟨?_, s'⟩
   rw [e, List.range_succ, List.filterMap_append]
   simp [ef]
 ·subst e
  exact hd H p s hp
end L2
namespace L2
open PySem PySem.Spec PyProof.Rows
mutual
inductive IsD (K : PySem.W.Frag) (H : Hp) : V → PyData → Prop
 | non : IsD K H .non .none
 | bl (b : Bool) : IsD K H (.bl b) (.bool b)
 | int (i : Int) : IsD K H (.int i) (.int i)
 | str (x : Str) : IsD K H (.str x) (.str x)
 | lst {a : Addr} {xs : List V} {ds : List PyData} : SqL K H a xs → IsDs K H xs ds → IsD K H (.ref a) (.list ds)
 | tup {a : Addr} {xs : List V} {ds : List PyData} : SqT K H a xs → IsDs K H xs ds → IsD K H (.ref a) (.tuple ds)
inductive IsDs (K : PySem.W.Frag) (H : Hp) : List V → List PyData → Prop
 | nil : IsDs K H [] []
 | cons {x : V} {xs : List V} {d : PyData} {ds : List PyData} : IsD K H x d → IsDs K H xs ds → IsDs K H (x :: xs) (d :: ds)
end
theorem Same.tupq {K : PySem.W.Frag} {H H' : Hp} {a : Addr} {xs : List V} (e : Same H H') (h : SqT K H a xs) : SqT K H' a xs := by
 rcases h with (h | ⟨o, h⟩) | h
 ·exact .inl (.inl (e _ _ h))
 ·exact .inl (.inr ⟨o, e _ _ h⟩)
 ·exact .inr h
mutual
theorem IsD.reads {X : Cx} {pins : List (Addr × Obj)} {σ : St} {H : Hp} {s : Shared} (I : Inv X pins σ H s) : ∀ {v : V} {d : PyData} {u : Value}, IsD X.K H v d → RelV v u → ∃ as, Reads s.heap u d as
 | _, _, _, .non, r => by cases r; exact ⟨_, .none⟩
 | _, _, _, .bl b, r => by cases r; exact ⟨_, .bool b⟩
 | _, _, _, .int i, r => by obtain ⟨t, rfl⟩ := r; exact ⟨_, .int i t⟩
 | _, _, _, .str x, r => by obtain ⟨t, rfl⟩ := r; exact ⟨_, .str x t⟩
 | _, _, _, .lst h q, r => by
  cases r
  obtain ⟨its, rv, ⟨o, n, e, c, _, d⟩, _⟩ := I.list h
  obtain ⟨as, ra⟩ := IsDs.reads I q rv
  exact ⟨_, .list e c d (by simpa using ra)⟩
 | _, _, _, .tup h q, r => by
  cases r
  obtain ⟨its, rv, ⟨o, e, c, n, d⟩, _⟩ := I.tuple h
  obtain ⟨as, ra⟩ := IsDs.reads I q rv
  exact ⟨_, .tuple e c d (by simpa using ra)⟩
theorem IsDs.reads {X : Cx} {pins : List (Addr × Obj)} {σ : St} {H : Hp} {s : Shared} (I : Inv X pins σ H s) : ∀ {xs : List V} {ds : List PyData} {us : List Value}, IsDs X.K H xs ds → Vals xs us → ∃ as, ReadsAll s.heap us ds as
 | _, _, _, .nil, .nil => ⟨_, .nil⟩
 | _, _, _, .cons h q, .cons r t => by
  obtain ⟨as, ra⟩ := IsD.reads I h r
  obtain ⟨bs, rb⟩ := IsDs.reads I q t
  exact ⟨_, .cons ra rb⟩
end
theorem IsDs.ints {K : PySem.W.Frag} {H : Hp} : ∀ ns : List Int, IsDs K H (ns.map V.int) (ns.map PyData.int)
 | [] => .nil
 | n :: ns => .cons (.int n) (IsDs.ints ns)
section
variable {X : Cx}
def rEqD (K : PySem.W.Frag) (neg : Bool) : R2 := fun x y H Q => ∃ d d', IsD K H x d ∧ IsD K H y d' ∧ SeqAt.shaped d = true ∧ SeqAt.shaped d' = true ∧ Q (.bl (if neg then !PyData.eqv d d' else PyData.eqv d d')) H
theorem op_eqD (hu : X.A.units + 64 < cLine) : OpR X (compareOp .Eq) (rEqD X.K false) := by
 intro pins s σ H x y v u Q I rx ry h
 obtain ⟨d, d', h1, h2, s1, s2, q⟩ := h
 obtain ⟨as, ra⟩ := h1.reads I rx
 obtain ⟨bs, rb⟩ := h2.reads I ry
 exact eq_dataH ra rb s1 s2 hu ⟨.bl _, H, I, rfl, q⟩
theorem op_neD (hu : X.A.units + 64 < cLine) : OpR X (compareOp .NotEq) (rEqD X.K true) := by
 intro pins s σ H x y v u Q I rx ry h
 obtain ⟨d, d', h1, h2, s1, s2, q⟩ := h
 obtain ⟨as, ra⟩ := h1.reads I rx
 obtain ⟨bs, rb⟩ := h2.reads I ry
 exact ne_dataH ra rb s1 s2 hu ⟨.bl _, H, I, rfl, q⟩
def rInD (K : PySem.W.Frag) (neg : Bool) : R2 := fun x y H Q => ∃ d ds, IsD K H x d ∧ IsD K H y (.list ds) ∧ SeqAt.shaped d = true ∧ SeqAt.shaped (.list ds) = true ∧ Q (.bl (if neg then !ds.any (fun e => PyData.eqv e d) else ds.any (fun e => PyData.eqv e d))) H
theorem op_inD (hu : X.A.units + 65 < cLine) : OpR X (compareOp .In) (rInD X.K false) := by
 intro pins s σ H x y v u Q I rx ry h
 obtain ⟨d, ds, h1, h2, s1, s2, q⟩ := h
 obtain ⟨as, ra⟩ := h1.reads I rx
 obtain ⟨bs, rb⟩ := h2.reads I ry
 exact SeqAt.in_list_reads rb ra (SeqAt.canLay_of_shaped s2) (SeqAt.canLay_of_shaped s1) (room_in_shaped s1 hu) ⟨.bl _, H, I, rfl, q⟩
theorem op_notInD (hu : X.A.units + 65 < cLine) : OpR X (compareOp .NotIn) (rInD X.K true) := by
 intro pins s σ H x y v u Q I rx ry h
 obtain ⟨d, ds, h1, h2, s1, s2, q⟩ := h
 obtain ⟨as, ra⟩ := h1.reads I rx
 obtain ⟨bs, rb⟩ := h2.reads I ry
 exact SeqAt.notIn_list_reads rb ra (SeqAt.canLay_of_shaped s2) (SeqAt.canLay_of_shaped s1) (room_in_shaped s1 hu) ⟨.bl _, H, I, rfl, q⟩
def clsV : V → Option Value
 | .ty n => some (.type n)
 | .ref a => some (.ref a)
 | _ => none
theorem clsV_rel {c : V} {cv u : Value} (h : clsV c = some cv) (r : RelV c u) : u = cv := by
 cases c with
 | ty n => cases h; exact r
 | ref a => cases h; exact r
 | _ => cases h
theorem call_isinst : CallR X (.builtin "isinstance") (fun xs H Q => ∃ x c cv t b, xs = [x, c] ∧ clsV c = some cv ∧ TyOf X.K H x t ∧ PySem.W.kitOne X.K t cv = some b ∧ Q (.bl b) H) := by
 intro pins s σ H xs us Q I r h
 obtain ⟨x, c, cv, t, b, rfl, hc, ty, hk, q⟩ := h
 obtain ⟨u1, u2, rfl, r1, r2⟩ := vals2 r
 obtain rfl := clsV_rel hc r2
 exact isinst_ok I r1 ty hk fun tk => ⟨.bl b, H, I.tok tk, rfl, q⟩
abbrev Cx.in1 (X : Cx) : Cx := { X with A := X.A.in1 }
theorem Inv.in1 {pins : List (Addr × Obj)} {σ : St} {H : Hp} {s : Shared} (I : Inv X pins σ H s) : Inv X.in1 pins σ H s :=
 ⟨⟨I.ok.mod, I.ok.kind, I.ok.glob, I.ok.blt, I.ok.above, I.ok.inj, I.ok.has, I.ok.cab, I.ok.hd, I.ok.frames, I.ok.stk, I.ok.exf, I.ok.bs, I.ok.bsz, I.ok.noex, I.ok.exfs, I.ok.funs, I.ok.frf⟩, I.os, I.bare, I.base, I.loc, I.cell, I.free, I.freeC, I.pin, I.hok, I.len⟩
theorem Inv.of_in1 {pins : List (Addr × Obj)} {σ : St} {H : Hp} {s : Shared} (I : Inv X.in1 pins σ H s) : Inv X pins σ H s :=
 ⟨⟨I.ok.mod, I.ok.kind, I.ok.glob, I.ok.blt, I.ok.above, I.ok.inj, I.ok.has, I.ok.cab, I.ok.hd, I.ok.frames, I.ok.stk, I.ok.exf, I.ok.bs, I.ok.bsz, I.ok.noex, I.ok.exfs, I.ok.funs, I.ok.frf⟩, I.os, I.bare, I.base, I.loc, I.cell, I.free, I.freeC, I.pin, I.hok, I.len⟩
def Truths (K : PySem.W.Frag) (H : Hp) (xs : List V) (bs : List Bool) : Prop := Paired (fun x b => TruV K x H b) xs bs
theorem Truths.get {K : PySem.W.Frag} {H : Hp} : ∀ {xs : List V} {bs : List Bool} {i : Nat} {x : V}, Truths K H xs bs → xs[i]? = some x → ∃ b, bs[i]? = some b ∧ TruV K x H b
 | _, _, _, _, .nil, h => by simp at h
 | _, _, 0, _, .cons h r, e => by
  simp at e; subst e
  exact ⟨_, rfl, h⟩
 | _, _, i + 1, _, .cons h r, e => by
  obtain ⟨d, e1, q⟩ := Truths.get (i := i) r (by simpa using e)
  exact ⟨d, by simpa using e1, q⟩
theorem Truths.bls {K : PySem.W.Frag} {H : Hp} : ∀ bs : List Bool, Truths K H (bs.map V.bl) bs
 | [] => .nil
 | b :: bs => .cons rfl (Truths.bls bs)
theorem all_loop {pins : List (Addr × Obj)} {σ : St} {H : Hp} {p it : Addr} {ys : List V} {bs : List Bool} {R : Result → Shared → Prop} (hc : X.calm = true) (hq : SqL X.K H p ys) (ht : Truths X.K H ys bs) (f : FpOk X pins H it) :
  ∀ (k i : Nat) (s : Shared), ys.length - i = k → Inv X pins σ H s → s.heap.IsListIter it p i → (∀ s', Inv X pins σ H s' → R (.ok (.ret (.bool ((bs.drop i).all id)))) s') →
  codeAny (model X.prog X.w) X.A (.builtin "all.loop" ⟨[.ref it], []⟩) R s := by
 obtain ⟨f0, f1, f2, f3, f4, f5⟩ := f
 intro k
 induction k with
 | zero =>
  intro i s hk I st hR
  obtain ⟨its, rv, pl, hz⟩ := I.list hq
  have hl := rv.length
  refine codeAny_builtin F.entry_all_loop ?_
  rw [Around.under_plainId F.plain_all_loop _]
  show wpAny _ X.A.in1 (pyNext (.ref it) >>= _) _ _ s
  refine wpAny_bind (wpAny_pyNext_list_end (I.ok.hd hc) st pl.isList (by simp; omega) fun h' eb => ?_)
  refine wpAny_bind (wpAny_rule (wpAny_pure ?_))
  have q := hR _ (I.turned (t' := s.toks) (fun b o hb e => eb b o hb e) f0 f1 f3 f4 f5)
  have hlb : bs.length = ys.length := (Paired.length ht).symm
  rw [List.drop_of_length_le (by omega)] at q
  exact q
 | succ k ih =>
  intro i s hk I st hR
  obtain ⟨its, rv, pl, hz⟩ := I.list hq
  have hl := rv.length
  have hlt : i < ys.length := by omega
  have hx : ys[i]? = some ys[i] := by simp [hlt]
  obtain ⟨u, hu, ru⟩ := rv.get hx
  obtain ⟨b, hb, tb⟩ := ht.get hx
  refine codeAny_builtin F.entry_all_loop ?_
  rw [Around.under_plainId F.plain_all_loop _]
  show wpAny _ X.A.in1 (pyNext (.ref it) >>= _) _ _ s
  refine wpAny_bind (wpAny_pyNext_list_item st pl.isList (x := u) (by simpa using hu) fun h' st' sb => ?_)
  have I1 : Inv X pins σ H { s with heap := h' } := I.turned (t' := s.toks) (fun b o hb e => (sb.2 b hb).trans e) f0 f1 f3 f4 f5
  have hdb : bs.drop i = b :: bs.drop (i + 1) := by
   obtain ⟨hlb, eb⟩ := List.getElem?_eq_some_iff.mp hb
   rw [List.drop_eq_getElem_cons hlb, eb]
  rw [hdb] at hR
  have I1p : Inv X (pins ++ pinsAt [it] h') σ H { s with heap := h' } := I1.pinned (fp := [it]) (fun c hcc => by rw [List.mem_singleton.mp hcc]; exact ⟨f0, f1, f2, f3, f4, f5⟩) fun c hcc => by
   rw [List.mem_singleton.mp hcc]
   obtain ⟨o, e, c', d⟩ := st'
   exact ⟨o, e, fun v z => by rw [d] at z; cases z⟩
  refine wpAny_bind (wpAny_holding (wpAny_mono (tru_ok (X := X.in1.nox) _ _ σ H ys[i] u (fun c H' => c = b ∧ H' = H) ((Inv.in1 I1p).wish _) ru ⟨b, tb, rfl, rfl⟩) (fun c s2 ⟨H', I2, e1, e2⟩ => ?_) fun _ _ z => False.elim z))
  rw [e2] at I2
  subst e1
  have I2' : Inv X (pins ++ pinsAt [it] h') σ H s2 := Inv.of_in1 I2.unwish
  have I2'' : Inv X pins σ H s2 := I2'.unpinned
  have st2 : s2.heap.IsListIter it p (i + 1) := st'.at fun o e => (I2'.pin (it, o) (List.mem_append_right _ (List.mem_append_right _ (mem_pinsAt (List.mem_singleton.mpr rfl) e)))).1
  refine wpAny_bind (wpAny_letGo ?_)
  cases c with
  | true =>
   simp only [if_true]
   exact wpAny_pure ⟨plainId_quiet F.plain_all_loop _, ih (i + 1) s2 (by omega) I2'' st2 fun s' I' => by simpa using hR s' I'⟩
  | false =>
   simp only [Bool.false_eq_true, if_false]
   refine wpAny_bind (wpAny_rule (wpAny_pure ?_))
   simpa using hR s2 I2''
theorem call_allT (hc : X.calm = true) : CallR X (.builtin "all") (fun xs H Q => ∃ p ys bs, xs = [.ref p] ∧ SqL X.K H p ys ∧ Truths X.K H ys bs ∧ Q (.bl (bs.all id)) H) := by
 intro pins s σ H xs us Q I r h
 obtain ⟨p, ys, bs, rfl, hq, ht, q⟩ := h
 obtain ⟨u, rfl, rx⟩ := vals1 r
 cases rx
 refine call_function_tree F.kind_all F.plain_all F.entry_all (F.args_all1 _) ?_
 unfold Builtin.«all»
 refine wpAny_bind (m := oneArg "all" _) (wpAny_pure ?_)
 obtain ⟨its, rv, pl, hz⟩ := I.list hq
 refine wpAny_bind (wpAny_pyIter_list pl.isList ?_)
 have I1 : Inv X pins σ H { s with heap := s.heap.push { cls := .type "list_iterator", data := .fields #[.ref p, .int 0 0] } } := I.kept (t' := s.toks) fun b o e => Heap.get?_push_of_some _ e
 refine wpAny_pure ⟨plainId_quiet F.plain_all_loop _, all_loop hc hq ht (I.fpOk (Nat.le_refl _) (I.hok.fresh (Nat.le_refl _))) ys.length 0 _ (Nat.sub_zero _) I1 ⟨_, Heap.get?_push_size _ rfl, rfl, rfl⟩ fun s' I' => ?_⟩
 exact ⟨.bl _, H, I', rfl, by simpa using q⟩
theorem any_loop {pins : List (Addr × Obj)} {σ : St} {H : Hp} {p it : Addr} {ys : List V} {bs : List Bool} {R : Result → Shared → Prop} (hc : X.calm = true) (hq : SqL X.K H p ys) (ht : Truths X.K H ys bs) (f : FpOk X pins H it) :
  ∀ (k i : Nat) (s : Shared), ys.length - i = k → Inv X pins σ H s → s.heap.IsListIter it p i → (∀ s', Inv X pins σ H s' → R (.ok (.ret (.bool ((bs.drop i).any id)))) s') →
  codeAny (model X.prog X.w) X.A (.builtin "any.loop" ⟨[.ref it], []⟩) R s := by
 obtain ⟨f0, f1, f2, f3, f4, f5⟩ := f
 intro k
 induction k with
 | zero =>
  intro i s hk I st hR
  obtain ⟨its, rv, pl, hz⟩ := I.list hq
  have hl := rv.length
  refine codeAny_builtin F.entry_any_loop ?_
  rw [Around.under_plainId F.plain_any_loop _]
  show wpAny _ X.A.in1 (pyNext (.ref it) >>= _) _ _ s
  refine wpAny_bind (wpAny_pyNext_list_end (I.ok.hd hc) st pl.isList (by simp; omega) fun h' eb => ?_)
  refine wpAny_bind (wpAny_rule (wpAny_pure ?_))
  have q := hR _ (I.turned (t' := s.toks) (fun b o hb e => eb b o hb e) f0 f1 f3 f4 f5)
  have hlb : bs.length = ys.length := (Paired.length ht).symm
  rw [List.drop_of_length_le (by omega)] at q
  exact q
 | succ k ih =>
  intro i s hk I st hR
  obtain ⟨its, rv, pl, hz⟩ := I.list hq
  have hl := rv.length
  have hlt : i < ys.length := by omega
  have hx : ys[i]? = some ys[i] := by simp [hlt]
  obtain ⟨u, hu, ru⟩ := rv.get hx
  obtain ⟨b, hb, tb⟩ := ht.get hx
  refine codeAny_builtin F.entry_any_loop ?_
  rw [Around.under_plainId F.plain_any_loop _]
  show wpAny _ X.A.in1 (pyNext (.ref it) >>= _) _ _ s
  refine wpAny_bind (wpAny_pyNext_list_item st pl.isList (x := u) (by simpa using hu) fun h' st' sb => ?_)
  have I1 : Inv X pins σ H { s with heap := h' } := I.turned (t' := s.toks) (fun b o hb e => (sb.2 b hb).trans e) f0 f1 f3 f4 f5
  have hdb : bs.drop i = b :: bs.drop (i + 1) := by
   obtain ⟨hlb, eb⟩ := List.getElem?_eq_some_iff.mp hb
   rw [List.drop_eq_getElem_cons hlb, eb]
  rw [hdb] at hR
  have I1p : Inv X (pins ++ pinsAt [it] h') σ H { s with heap := h' } := I1.pinned (fp := [it]) (fun c hcc => by rw [List.mem_singleton.mp hcc]; exact ⟨f0, f1, f2, f3, f4, f5⟩) fun c hcc => by
   rw [List.mem_singleton.mp hcc]
   obtain ⟨o, e, c', d⟩ := st'
   exact ⟨o, e, fun v z => by rw [d] at z; cases z⟩
  refine wpAny_bind (wpAny_holding (wpAny_mono (tru_ok (X := X.in1.nox) _ _ σ H ys[i] u (fun c H' => c = b ∧ H' = H) ((Inv.in1 I1p).wish _) ru ⟨b, tb, rfl, rfl⟩) (fun c s2 ⟨H', I2, e1, e2⟩ => ?_) fun _ _ z => False.elim z))
  rw [e2] at I2
  subst e1
  have I2' : Inv X (pins ++ pinsAt [it] h') σ H s2 := Inv.of_in1 I2.unwish
  have I2'' : Inv X pins σ H s2 := I2'.unpinned
  have st2 : s2.heap.IsListIter it p (i + 1) := st'.at fun o e => (I2'.pin (it, o) (List.mem_append_right _ (List.mem_append_right _ (mem_pinsAt (List.mem_singleton.mpr rfl) e)))).1
  refine wpAny_bind (wpAny_letGo ?_)
  cases c with
  | false =>
   simp only [Bool.false_eq_true, if_false]
   exact wpAny_pure ⟨plainId_quiet F.plain_any_loop _, ih (i + 1) s2 (by omega) I2'' st2 fun s' I' => by simpa using hR s' I'⟩
  | true =>
   simp only [if_true]
   refine wpAny_bind (wpAny_rule (wpAny_pure ?_))
   simpa using hR s2 I2''
theorem call_anyT (hc : X.calm = true) : CallR X (.builtin "any") (fun xs H Q => ∃ p ys bs, xs = [.ref p] ∧ SqL X.K H p ys ∧ Truths X.K H ys bs ∧ Q (.bl (bs.any id)) H) := by
 intro pins s σ H xs us Q I r h
 obtain ⟨p, ys, bs, rfl, hq, ht, q⟩ := h
 obtain ⟨u, rfl, rx⟩ := vals1 r
 cases rx
 refine call_function_tree F.kind_any F.plain_any F.entry_any (F.args_any1 _) ?_
 unfold Builtin.«any»
 refine wpAny_bind (m := oneArg "any" _) (wpAny_pure ?_)
 obtain ⟨its, rv, pl, hz⟩ := I.list hq
 refine wpAny_bind (wpAny_pyIter_list pl.isList ?_)
 have I1 : Inv X pins σ H { s with heap := s.heap.push { cls := .type "list_iterator", data := .fields #[.ref p, .int 0 0] } } := I.kept (t' := s.toks) fun b o e => Heap.get?_push_of_some _ e
 refine wpAny_pure ⟨plainId_quiet F.plain_any_loop _, any_loop hc hq ht (I.fpOk (Nat.le_refl _) (I.hok.fresh (Nat.le_refl _))) ys.length 0 _ (Nat.sub_zero _) I1 ⟨_, Heap.get?_push_size _ rfl, rfl, rfl⟩ fun s' I' => ?_⟩
 exact ⟨.bl _, H, I', rfl, by simpa using q⟩
end
end L2
namespace L2
open PySem PySem.Spec PyProof.Rows
structure Dn (K : PySem.W.Frag) (mg : Str → Option Value) (x : Str) (st : Stmt) (ps : List Str) where
 f : Addr
 fd : FuncData
 F : Fun K x x st f fd
 b : Binds K fd ps []
 m : mg x = some (.ref f)
 bd : ∀ (s : Shared) (us : List Value), us.length = ps.length → BindsTo s fd ⟨us, []⟩ (ps.zip us)
structure Bl (mg : Str → Option Value) : Prop where
 get : ∀ x : Str, x ∈ (["len", "range", "list", "isinstance", "int", "bool", "str", "all", "any", "sorted", "set", "min", "max", "tuple", "enumerate", "dict", "ValueError"] : List Str) → mg x = none
theorem Bl.len {mg : Str → Option Value} (B : Bl mg) : mg "len" = none := B.get _ (by decide +kernel)
theorem Bl.range {mg : Str → Option Value} (B : Bl mg) : mg "range" = none := B.get _ (by decide +kernel)
theorem Bl.list {mg : Str → Option Value} (B : Bl mg) : mg "list" = none := B.get _ (by decide +kernel)
theorem Bl.isinstance {mg : Str → Option Value} (B : Bl mg) : mg "isinstance" = none := B.get _ (by decide +kernel)
theorem Bl.int {mg : Str → Option Value} (B : Bl mg) : mg "int" = none := B.get _ (by decide +kernel)
theorem Bl.bool {mg : Str → Option Value} (B : Bl mg) : mg "bool" = none := B.get _ (by decide +kernel)
theorem Bl.all {mg : Str → Option Value} (B : Bl mg) : mg "all" = none := B.get _ (by decide +kernel)
theorem Bl.any {mg : Str → Option Value} (B : Bl mg) : mg "any" = none := B.get _ (by decide +kernel)
theorem Bl.sorted {mg : Str → Option Value} (B : Bl mg) : mg "sorted" = none := B.get _ (by decide +kernel)
theorem Bl.set {mg : Str → Option Value} (B : Bl mg) : mg "set" = none := B.get _ (by decide +kernel)
theorem Bl.min {mg : Str → Option Value} (B : Bl mg) : mg "min" = none := B.get _ (by decide +kernel)
theorem Bl.max {mg : Str → Option Value} (B : Bl mg) : mg "max" = none := B.get _ (by decide +kernel)
theorem Bl.tuple {mg : Str → Option Value} (B : Bl mg) : mg "tuple" = none := B.get _ (by decide +kernel)
theorem Bl.enumerate {mg : Str → Option Value} (B : Bl mg) : mg "enumerate" = none := B.get _ (by decide +kernel)
theorem kit_int_int {K : PySem.W.Frag} : PySem.W.kitOne K (.type "int") (.type "int") = some true := by rfl
theorem kit_int_bool {K : PySem.W.Frag} : PySem.W.kitOne K (.type "int") (.type "bool") = some false := by rfl
theorem kit_non_int {K : PySem.W.Frag} : PySem.W.kitOne K (.type "NoneType") (.type "int") = some false := by rfl
theorem kit_non_bool {K : PySem.W.Frag} : PySem.W.kitOne K (.type "NoneType") (.type "bool") = some false := by rfl
end L2
namespace L2
open PySem PySem.Spec PyProof.Rows
section
variable {X : Cx} {K : PySem.W.Frag}
theorem ix_listK (e : X.K = K) : IxR X (rIxL K) := by subst e; exact ix_list
theorem ix_tupK (e : X.K = K) : IxR X (rIxT K) := by subst e; exact ix_tup
theorem op_eqDK (e : X.K = K) (hu : X.A.units + 64 < cLine) : OpR X (compareOp .Eq) (rEqD K false) := by subst e; exact op_eqD hu
theorem op_neDK (e : X.K = K) (hu : X.A.units + 64 < cLine) : OpR X (compareOp .NotEq) (rEqD K true) := by subst e; exact op_neD hu
theorem op_inDK (e : X.K = K) (hu : X.A.units + 65 < cLine) : OpR X (compareOp .In) (rInD K false) := by subst e; exact op_inD hu
theorem op_notInDK (e : X.K = K) (hu : X.A.units + 65 < cLine) : OpR X (compareOp .NotIn) (rInD K true) := by subst e; exact op_notInD hu
theorem op_notInSK (e : X.K = K) : OpR X (compareOp .NotIn) (rIn K true) := by subst e; exact op_notIn_seq
def rLen (K : PySem.W.Frag) : List V → Hp → VK → Prop := fun xs H Q => ∃ p ys, xs = [.ref p] ∧ (SqL K H p ys ∨ SqT K H p ys) ∧ Q (.int ys.length) H
theorem call_lenK (e : X.K = K) : CallR X (.builtin "len") (rLen K) := by subst e; exact call_len_seq
def rListOf (K : PySem.W.Frag) : List V → Hp → VK → Prop := fun xs H Q => ∃ p ys, xs = [.ref p] ∧ (SqL K H p ys ∨ SqT K H p ys) ∧ ∀ l, H l = none → Q (.ref l) (upd H l (.lst ys))
theorem call_listK (e : X.K = K) : CallR X (.type "list") (rListOf K) := by subst e; exact call_list_of
def rIsin (K : PySem.W.Frag) : List V → Hp → VK → Prop := fun xs H Q => ∃ x c cv t b, xs = [x, c] ∧ clsV c = some cv ∧ TyOf K H x t ∧ PySem.W.kitOne K t cv = some b ∧ Q (.bl b) H
theorem call_isinstK (e : X.K = K) : CallR X (.builtin "isinstance") (rIsin K) := by subst e; exact call_isinst
def rAll (K : PySem.W.Frag) : List V → Hp → VK → Prop := fun xs H Q => ∃ p ys bs, xs = [.ref p] ∧ SqL K H p ys ∧ Truths K H ys bs ∧ Q (.bl (bs.all id)) H
def rAny (K : PySem.W.Frag) : List V → Hp → VK → Prop := fun xs H Q => ∃ p ys bs, xs = [.ref p] ∧ SqL K H p ys ∧ Truths K H ys bs ∧ Q (.bl (bs.any id)) H
theorem call_allK (e : X.K = K) (hc : X.calm = true) : CallR X (.builtin "all") (rAll K) := by subst e; exact call_allT hc
theorem call_anyK (e : X.K = K) (hc : X.calm = true) : CallR X (.builtin "any") (rAny K) := by subst e; exact call_anyT hc
theorem pi_listK {tg l : Expr} {tl : TE} (e : X.K = K) (hl : PE X l tl) : PI X tg l (iList K tl) := by subst e; exact pi_list hl
theorem pi_tupK {tg l : Expr} {tl : TE} (e : X.K = K) (hl : PE X l tl) : PI X tg l (iTup K tl) := by subst e; exact pi_tup hl
def tTru (K : PySem.W.Frag) (ta : TE) : TT := fun σ H Q => ta σ H fun x H' => ∃ k, TruV K x H' k ∧ Q k H'
theorem pt_truthK {a : Expr} {ta : TE} (e : X.K = K) (ha : PE X a ta) (he : ∀ whole, isTrue a X.env whole = (do let v ← whole; standAt a.pos; holding [v] (truthy v))) : PT X a (tTru K ta) := by subst e; exact pt_truth ha he
theorem pg_tupK {es : List Expr} {k : Nat} {t : TGs} {n : Nat} {pos : Pos} (e : X.K = K) (hc : X.calm = true) (h : PGs X es t)
  (hn : (assignEach es X.env).length = n := by rfl) (hst : (assignEach es X.env).findIdx? (·.1) = none := by rfl) : PG X (.Tuple es k pos) (gTup K n t) := by subst e; exact pg_tup hc h hn hst
theorem pe_bm0K {o : Expr} {to : TE} {name : Str} {apos cpos : Pos} {T id : String} {r : V → List V → Hp → VK → Prop} (e : X.K = K) (pa : PlainAttrs T) (slot : Slot T name id) (hty : typeOf (.builtin id) = pure (.type "method_descriptor")) (hm : MtR X id r) (ho : PE X o to)
  (hbase : attributeBase o name X.env (eval o X.env) = eval o X.env := by rfl) (hline : (apos.endLine == cpos.line) = true := by rfl) : PE X (.Call (.Attribute o name apos) [] [] cpos) (tBM0 K T r to) := by subst e; exact pe_bm0 pa slot hty hm ho hbase hline
theorem pe_bmK {o e : Expr} {es : List Expr} {to : TE} {t : TA} {name : Str} {apos cpos : Pos} {T id : String} {r : V → List V → Hp → VK → Prop} (e0 : X.K = K) (pa : PlainAttrs T) (slot : Slot T name id) (hty : typeOf (.builtin id) = pure (.type "method_descriptor")) (hm : MtR X id r) (ho : PE X o to) (ha : PA X (e :: es) t)
  (hbase : attributeBase o name X.env (eval o X.env) = eval o X.env := by rfl)
  (hfew : ((backTo cpos (starEach (e :: es) X.env)).all (fun x => !x.1) && (backToKw cpos (keywordEach [] X.env)).all (fun x => x.1.isSome)
   && decide ((e :: es).length + ([] : List Keyword).length + (if ([] : List Keyword).isEmpty then 0 else 1) < 30)) = true := by rfl)
  (hline : (apos.endLine == cpos.line) = true := by rfl) (hs : starEach (e :: es) X.env = (false, eval e X.env) :: starEach es X.env := by rfl) (hplain : (backTo cpos (starEach es X.env)).any (·.1) = false := by rfl) :
  PE X (.Call (.Attribute o name apos) (e :: es) [] cpos) (tBM K T r to t) := by subst e0; exact pe_bm pa slot hty hm ho ha hbase hfew hline hs hplain
end
end L2
namespace L2
open PySem PySem.Spec PyProof.Rows
def tCut (t u : TS) : TS := fun D σ H => ∃ J : St → Hp → Prop, t { D with nx := J } σ H ∧ ∀ σ' H', J σ' H' → u D σ' H'
theorem pss_cut {X : Cx} {st : Stmt} {rest : List Stmt} {t u : TS} (h1 : PS X st t) (h2 : PSs X rest u) : PSs X (st :: rest) (tCut t u) := by
 intro pins s σ H D I h
 obtain ⟨J, q1, q2⟩ := h
 refine wpAny_execs_cons (thn (h1 pins s σ H { D with nx := J } I q1) fun f s1 q => ?_)
 cases f with
 | next =>
  obtain ⟨σ', H', I', q⟩ := q
  exact h2 pins s1 σ' H' D I' (q2 σ' H' q)
 | ret v => exact q
 | brk => exact q
 | cont => exact q
end L2
namespace L2
open PySem PySem.Spec PyProof.Rows
structure New (H : Hp) (p : Addr) (o : HO) (H' : Hp) : Prop where
 fresh : H p = none
 here : H' p = some o
 rest : ∀ b, b ≠ p → H' b = H b
theorem New.mk0 {H : Hp} {p : Addr} {o : HO} (h : H p = none) : New H p o (upd H p o) := ⟨h, upd_same, fun _ hb => upd_ne hb⟩
theorem New.same {H H' : Hp} {p : Addr} {o : HO} (n : New H p o H') : Same H H' := fun b u e => (n.rest b (ne_of_none e n.fresh)).trans e
theorem New.ne {H H' : Hp} {p b : Addr} {o u : HO} (n : New H p o H') (h : H b = some u) : b ≠ p := ne_of_none h n.fresh
structure Chg (H : Hp) (l : Addr) (o : HO) (H' : Hp) : Prop where
 here : H' l = some o
 rest : ∀ b, b ≠ l → H' b = H b
theorem Chg.mk0 {H : Hp} {l : Addr} {o : HO} : Chg H l o (upd H l o) := ⟨upd_same, fun _ hb => upd_ne hb⟩
section
variable {X : Cx} {K : PySem.W.Frag} {es : List Expr} {t : TA} {pos : Pos}
def tTupN (t : TA) : TE := fun σ H Q => t σ H fun xs H1 => xs.length ≤ 1000 ∧ ∀ p H', New H1 p (.tup xs) H' → Q (.ref p) H'
def tLstN (t : TA) : TE := fun σ H Q => t σ H fun xs H1 => xs.length ≤ 1000 ∧ ∀ p H', New H1 p (.lst xs) H' → Q (.ref p) H'
theorem pe_tupN {x1} (h : PA X es t) : PE X (.Tuple es x1 pos) (tTupN t) := by
 intro pins s σ H Q I hq
 refine wpAny_Tuple_spliced (thn (h pos pins s σ H _ I hq) fun us s1 ⟨xs, H1, I1, r, z, q⟩ => ?_)
 have z' : xs.length ≤ sizeLine := Nat.le_of_lt (small1000 z)
 refine ⟨by rw [← r.length]; exact z', ?_⟩
 have hf : H1 s1.heap.objs.size = none := I1.hok.fresh (Nat.le_refl _)
 refine ⟨.ref s1.heap.objs.size, upd H1 s1.heap.objs.size (.tup xs), I1.laid (t' := s1.toks) (fun b u e => Heap.get?_push_of_some _ e) (Nat.le_refl _) ?_, rfl, q _ _ (New.mk0 hf)⟩
 exact ⟨z', us, r, ⟨_, Heap.get?_push_size _ rfl, rfl, _, rfl⟩⟩
theorem pe_lstN (h : PA X es t) : PE X (.List es pos) (tLstN t) := by
 intro pins s σ H Q I hq
 refine wpAny_List_spliced (thn (h pos pins s σ H _ I hq) fun us s1 ⟨xs, H1, I1, r, z, q⟩ => ?_)
 have z' : xs.length ≤ sizeLine := Nat.le_of_lt (small1000 z)
 refine ⟨by rw [← r.length]; exact z', ?_⟩
 have hf : H1 s1.heap.objs.size = none := I1.hok.fresh (Nat.le_refl _)
 refine ⟨.ref s1.heap.objs.size, upd H1 s1.heap.objs.size (.lst xs), I1.laid (t' := s1.toks) (fun b u e => Heap.get?_push_of_some _ e) (Nat.le_refl _) ?_, rfl, q _ _ (New.mk0 hf)⟩
 exact ⟨z', us, 0, r, Heap.get?_push_size _ rfl⟩
theorem OpR.weak {f : Value → Value → Sem Value} {r r' : R2} (h : OpR X f r) (m : ∀ x y H Q, r' x y H Q → r x y H Q) : OpR X f r' := fun pins s σ H x y v u Q I rx ry q => h pins s σ H x y v u Q I rx ry (m x y H Q q)
theorem CallR.weak {f : Value} {r r' : List V → Hp → VK → Prop} (h : CallR X f r) (m : ∀ xs H Q, r' xs H Q → r xs H Q) : CallR X f r' := fun pins s σ H xs us Q I rs q => h pins s σ H xs us Q I rs (m xs H Q q)
def rCatN : R2 := fun x y H Q => ∃ l b xs zs, x = .ref l ∧ y = .ref b ∧ H l = some (.lst xs) ∧ H b = some (.lst zs) ∧ xs.length + zs.length ≤ 1000 ∧ ∀ p H', New H p (.lst (xs ++ zs)) H' → Q (.ref p) H'
theorem op_catN : OpR X (binaryOp .Add) rCatN := op_cat.weak fun x y H Q ⟨l, b, xs, zs, e1, e2, h1, h2, z, q⟩ => ⟨l, b, xs, zs, e1, e2, h1, h2, Nat.le_of_lt (small1000 z), fun p hp => q p _ (New.mk0 hp)⟩
def rSlN (K : PySem.W.Frag) : V → Option Int → Option Int → Hp → VK → Prop := fun x lo hi H Q => ∃ a xs, x = .ref a ∧ SqL K H a xs ∧ ∀ p H', New H p (.lst (cutV xs lo hi)) H' → Q (.ref p) H'
theorem sl_listN (e : X.K = K) : SlR X (rSlN K) := by
 subst e
 exact fun pins s σ H x v vl vu lo hi sl Q I rx hs pl pu ⟨a, xs, e, h, q⟩ => sl_list pins s σ H x v vl vu lo hi sl Q I rx hs pl pu ⟨a, xs, e, h, fun p hp => q p _ (New.mk0 hp)⟩
def rListN (K : PySem.W.Frag) : List V → Hp → VK → Prop := fun xs H Q => ∃ p ys, xs = [.ref p] ∧ (SqL K H p ys ∨ SqT K H p ys) ∧ ∀ l H', New H l (.lst ys) H' → Q (.ref l) H'
theorem call_listN (e : X.K = K) : CallR X (.type "list") (rListN K) := (call_listK e).weak fun xs H Q ⟨p, ys, e, h, q⟩ => ⟨p, ys, e, h, fun l hl => q l _ (New.mk0 hl)⟩
theorem MtM.weak {id : String} {r r' : V → List V → Hp → VK → Prop} (h : MtM X id r) (m : ∀ x xs H Q, r' x xs H Q → r x xs H Q) : MtM X id r' := fun pins s σ H x xs v us Q I rx rs q => h pins s σ H x xs v us Q I rx rs (m x xs H Q q)
def rAppN : V → List V → Hp → VK → Prop := fun x vs H Q => ∃ l xs y, x = .ref l ∧ vs = [y] ∧ H l = some (.lst xs) ∧ xs.length < 1000 ∧ ∀ H', Chg H l (.lst (xs ++ [y])) H' → Q .non H'
theorem mt_appendN : MtM X "list.append" rAppN := mt_append.weak fun x vs H Q ⟨l, xs, y, e1, e2, h, z, q⟩ => ⟨l, xs, y, e1, e2, h, small1000 (Nat.le_of_lt z), q _ Chg.mk0⟩
end
theorem lc_fmN {K : PySem.W.Frag} {a : Addr} {xs : List V} {ix : List (Option Nat)} {g : TG} {tt : TT} {te : TE} {σ : St} {H1 : Hp} {Q : VK} (f : V → Option V) (hx : SqL K H1 a xs) (hz : xs.length ≤ 1000)
  (hs : ∀ x H (N : Option V → Hp → Prop), x ∈ xs → Same H1 H → (∀ H', Same H1 H' → N (f x) H') → g x (capt ix σ) H fun σ2 H2 => tt σ2 H2 fun b H3 => if b = true then te σ2 H3 fun v H4 => N (some v) H4 else N none H3)
  (hd : ∀ H p H', Same H1 H → New H p (.lst (xs.filterMap f)) H' → Q (.ref p) H') : LcGoal ix g tt te σ H1 Q (Itl K a) :=
 lc_fm f hx (Nat.le_of_lt (small1000 hz)) hs fun H p s hp => hd H p _ s (New.mk0 hp)
theorem lc_fmRN {lo : Int} {n : Nat} {ix : List (Option Nat)} {g : TG} {tt : TT} {te : TE} {σ : St} {H1 : Hp} {Q : VK} (f : Nat → Option V) (hz : n ≤ 1000)
  (hs : ∀ i H (N : Option V → Hp → Prop), i < n → Same H1 H → (∀ H', Same H1 H' → N (f i) H') → g (.int (lo + i)) (capt ix σ) H fun σ2 H2 => tt σ2 H2 fun b H3 => if b = true then te σ2 H3 fun v H4 => N (some v) H4 else N none H3)
  (hd : ∀ H p H', Same H1 H → New H p (.lst ((List.range n).filterMap f)) H' → Q (.ref p) H') : LcGoal ix g tt te σ H1 Q (Itr lo n) :=
 lc_fmR f (Nat.le_of_lt (small1000 hz)) hs fun H p s hp => hd H p _ s (New.mk0 hp)
end L2
namespace Lw
open PySem L2
theorem fm_some {α β : Type} {f : α → Option β} {g : α → β} : ∀ {l : List α}, (∀ x ∈ l, f x = some (g x)) → l.filterMap f = l.map g
 | [], _ => rfl
 | x :: r, h => by
  rw [List.filterMap_cons_some (h x List.mem_cons_self), List.map_cons, fm_some fun y hy => h y (List.mem_cons_of_mem _ hy)]
theorem fm_ints {f : V → Option V} {g : Int → V} {ns : List Int} (h : ∀ v ∈ ns, f (.int v) = some (g v)) : (ns.map V.int).filterMap f = ns.map g := by
 rw [List.filterMap_map]
 exact fm_some h
theorem fm_filter {f : V → Option V} {p : Int → Bool} : ∀ {ns : List Int}, (∀ v ∈ ns, f (.int v) = if p v = true then some (.int v) else none) → (ns.map V.int).filterMap f = (ns.filter p).map V.int
 | [], _ => rfl
 | v :: r, h => by
  have ih := fm_filter (f := f) (p := p) (ns := r) fun y hy => h y (List.mem_cons_of_mem _ hy)
  have hv := h v List.mem_cons_self
  rw [List.map_cons, List.filter_cons]
  by_cases c : p v = true
  ·rw [if_pos c] at hv ⊢
   rw [List.filterMap_cons_some hv, ih]; rfl
  ·rw [if_neg c] at hv ⊢
   rw [List.filterMap_cons_none hv, ih]
theorem at_ints {ns : List Int} {k : Int} (h0 : 0 ≤ k) (h : k < (ns.length : Int)) : atI (ns.map V.int) k = some (.int (ns.getD k.toNat 0)) := by
 have hk : k.toNat < ns.length := by omega
 have ek : k = ((k.toNat : Nat) : Int) := by omega
 have q : atI (ns.map V.int) ((k.toNat : Nat) : Int) = some (.int (ns.getD k.toNat 0)) := atI_nat (by
  rw [List.getElem?_map, List.getElem?_eq_getElem hk, List.getD_eq_getElem?_getD, List.getElem?_eq_getElem hk]; rfl)
 rw [← ek] at q
 exact q
def Scr (K : PySem.W.Frag) (H : Hp) (a : Addr) (ns : List Int) : Prop := (∃ o, H a = some (.frz o (.lst (ns.map V.int)))) ∨
 ∃ (o : Obj) (its : Array Value) (n : Nat), K.lookup a = some o ∧ o.cls = .type "list" ∧ o.dict = none ∧ o.data = .seq its n ∧ its.size ≤ sizeLine ∧ Vals (ns.map V.int) its.toList
theorem Scr.seq {K : PySem.W.Frag} {H : Hp} {a : Addr} {ns : List Int} (h : Scr K H a ns) : SqL K H a (ns.map V.int) := by
 rcases h with ⟨o, h⟩ | h
 ·exact .inl (.inr ⟨o, h⟩)
 ·exact .inr h
theorem Scr.of {K : PySem.W.Frag} {H : Hp} {a : Addr} {ns : List Int} (hO : Only H) (h : SqL K H a (ns.map V.int)) : Scr K H a ns := by
 rcases h with (h | ⟨o, h⟩) | h
 ·rcases hO a with z | ⟨ob, xs, z⟩
  ·rw [z] at h; cases h
  ·rw [z] at h; cases h
 ·exact .inl ⟨o, h⟩
 ·exact .inr h
theorem Scr.same {K : PySem.W.Frag} {H H' : Hp} {a : Addr} {ns : List Int} (e : Same H H') (h : Scr K H a ns) : Scr K H' a ns := by
 rcases h with ⟨o, h⟩ | h
 ·exact .inl ⟨o, e _ _ h⟩
 ·exact .inr h
def spLaw (K : PySem.W.Frag) : Sp := fun vs H Q _ => ∃ (a : Addr) (ns : List Int), vs = [.ref a] ∧ Scr K H a ns ∧ ns.length ≤ 63 ∧ ∀ H', Q (.bl true) H'
end Lw
namespace L2
open PySem PySem.Spec PyProof.Rows
theorem dn_mk {K : PySem.W.Frag} {h : Heap} {mg : Str → Option Value} {x : Str} {st : Stmt} {ps : List Str} {f : Addr} {oc : Value} {od an : Option Addr} {osl : Array (Option Value)} {kV doc pm cdv ct : Value} (X : K.In h) (G : h.Ns mainGlobals mg)
  (a : PySem.W.nsIn K mainGlobals x = some (some (.ref f))) (l : K.lookup f = some ⟨oc, od, .func (PySem.W.fnOf x x (defArgs st) (defBody st) (defScope st) .none kV doc pm an cdv ct), osl⟩) (c : PySem.W.codeIn K cdv x = true) (k : PySem.W.keepIn K (.ref f) = true)
  (hb : ∀ (kV doc pm : Value) (an : Option Addr) (cdv ct : Value) (us : List Value), us.length = ps.length → bindArgs (PySem.W.fnOf x x (defArgs st) (defBody st) (defScope st) .none kV doc pm an cdv ct) ⟨us, []⟩ = pure (ps.zip us)) :
  Nonempty (Dn K mg x st ps) :=
 have F := fun_mk (st := st) l c k
 ⟨⟨f, _, F, F.binds hb, PySem.W.mg_of X G a, fun s us hl => .of_eq (hb _ _ _ _ _ _ us hl)⟩⟩
theorem bl_mk {K : PySem.W.Frag} {h : Heap} {mg : Str → Option Value} (X : K.In h) (G : h.Ns mainGlobals mg)
  (z1 : PySem.W.nsIn K mainGlobals "len" = some none) (z2 : PySem.W.nsIn K mainGlobals "range" = some none) (z3 : PySem.W.nsIn K mainGlobals "list" = some none) (z4 : PySem.W.nsIn K mainGlobals "isinstance" = some none) (z5 : PySem.W.nsIn K mainGlobals "int" = some none)
  (z6 : PySem.W.nsIn K mainGlobals "bool" = some none) (z7 : PySem.W.nsIn K mainGlobals "str" = some none) (z8 : PySem.W.nsIn K mainGlobals "all" = some none) (z9 : PySem.W.nsIn K mainGlobals "any" = some none) (z10 : PySem.W.nsIn K mainGlobals "sorted" = some none)
  (z11 : PySem.W.nsIn K mainGlobals "set" = some none) (z12 : PySem.W.nsIn K mainGlobals "min" = some none) (z13 : PySem.W.nsIn K mainGlobals "max" = some none) (z14 : PySem.W.nsIn K mainGlobals "tuple" = some none) (z15 : PySem.W.nsIn K mainGlobals "enumerate" = some none)
  (z16 : PySem.W.nsIn K mainGlobals "dict" = some none) (z17 : PySem.W.nsIn K mainGlobals "ValueError" = some none) : Bl mg := by
 refine ⟨fun x hx => ?_⟩
 simp only [List.mem_cons, List.not_mem_nil, or_false] at hx
 rcases hx with rfl | rfl | rfl | rfl | rfl | rfl | rfl | rfl | rfl | rfl | rfl | rfl | rfl | rfl | rfl | rfl | rfl
 ·exact PySem.W.mg_none_of X G z1
 ·exact PySem.W.mg_none_of X G z2
 ·exact PySem.W.mg_none_of X G z3
 ·exact PySem.W.mg_none_of X G z4
 ·exact PySem.W.mg_none_of X G z5
 ·exact PySem.W.mg_none_of X G z6
 ·exact PySem.W.mg_none_of X G z7
 ·exact PySem.W.mg_none_of X G z8
 ·exact PySem.W.mg_none_of X G z9
 ·exact PySem.W.mg_none_of X G z10
 ·exact PySem.W.mg_none_of X G z11
 ·exact PySem.W.mg_none_of X G z12
 ·exact PySem.W.mg_none_of X G z13
 ·exact PySem.W.mg_none_of X G z14
 ·exact PySem.W.mg_none_of X G z15
 ·exact PySem.W.mg_none_of X G z16
 ·exact PySem.W.mg_none_of X G z17
theorem law_at {P : Program} {w : World} {K : PySem.W.Frag} {mg : Str → Option Value} {fa : Addr} {st : Stmt} {k : Nat} {sp : Sp} {x : Str} (hfa : mg "law" = some (.ref fa)) (d : Dn K mg "law" st [x]) (F : ∀ base : Heap, FnOk P w K mg base CX0 k d.f d.fd [x] sp) :
  ∃ fd : FuncData, (∀ (s : Shared) (u : Value), BindsTo s fd ⟨[u], []⟩ [(x, u)]) ∧ ∀ base : Heap, K.In base → base.Ns mainGlobals mg → FnOk P w K mg base CX0 k fa fd [x] sp := by
 have e : fa = d.f := by
  have := hfa.symm.trans d.m
  have := Option.some.inj this
  cases this
  rfl
 subst e
 exact ⟨d.fd, fun s u => d.bd s [u] rfl, fun base _ _ => F base⟩
end L2
namespace L2
open PySem PySem.Spec PyProof.Rows
def Ite (K : PySem.W.Frag) (a : Addr) : It :=
 ⟨fun i H => ∃ xs x, SqL K H a xs ∧ xs[i]? = some x, fun i H x H' => ∃ p y, x = .ref p ∧ New H p (.tup [.int i, y]) H' ∧ ∀ xs, SqL K H a xs → xs[i]? = some y, fun i H => ∃ xs, SqL K H a xs ∧ xs.length ≤ i⟩
theorem turn_enum {P : Program} {w : World} {K : PySem.W.Frag} {elts : List Expr} {k : Nat} {pos : Pos} (a it e : Addr) (hei : e ≠ it) : Turn P w K (.Tuple elts k pos) (Ite K a) [e, it] e (fun i h => (∃ old, IsEnum h e it i old) ∧ h.IsListIter it a i) where
 mem := by simp
 obj := fun i h st b hb => by
  obtain ⟨⟨old, he⟩, hit⟩ := st
  rcases List.mem_cons.mp hb with rfl | hb
  ·exact ⟨_, he, fun v z => by
    have z' : Data.fields _ = Data.cell v := z
    cases z'⟩
  ·rw [List.mem_singleton.mp hb]
   obtain ⟨o, e1, c, d⟩ := hit
   exact ⟨o, e1, fun v z => by rw [d] at z; cases z⟩
 keep := fun i h h' st kk => by
  obtain ⟨⟨old, he⟩, hit⟩ := st
  exact ⟨⟨old, kk e (by simp) _ he⟩, hit.at fun o q => kk it (by simp) o q⟩
 item := by
  intro X hP hw hK hc i pins s σ H E I hf st hg
  subst hP hw hK
  obtain ⟨xs, x, hq, hx⟩ := hg
  obtain ⟨its, rv, pl, hz⟩ := I.list hq
  obtain ⟨u, hu, ru⟩ := rv.get hx
  obtain ⟨⟨old, he⟩, hit⟩ := st
  obtain ⟨f0, f1, f2, f3, f4, f5⟩ := hf e (by simp)
  obtain ⟨g0, g1, g2, g3, g4, g5⟩ := hf it (by simp)
  refine wpAny_pyNext_enum_item he hit pl.isList (x := u) (by simpa using hu) hei fun h' ho hit' hT hsz hk => ?_
  refine ⟨_, rfl, wpAny_letOwnedTupleGo_enum ho fun h2 he2 hs2 => ?_⟩
  have eT : s.heap.objs.size ≠ e := Nat.ne_of_gt (Heap.lt_size he)
  have iT : s.heap.objs.size ≠ it := by
   obtain ⟨o, e1, _⟩ := hit
   exact Nat.ne_of_gt (Heap.lt_size e1)
  have hT2 : h2.get? s.heap.objs.size = some { cls := .type "tuple", data := .seq #[.int i s.toks, u] } := (hs2.2 _ eT).trans hT
  have kp : ∀ b o, b ≠ e → b ≠ it → s.heap.get? b = some o → h2.get? b = some o := fun b o h1 h2' q => (hs2.2 b h1).trans (hk b o h1 h2' q)
  have I1 : Inv X pins σ H { s with heap := h2, toks := s.toks + 1 } := by
   refine I.step (g' := s.gens) (d' := s.drawn) (H' := H) (ch := [e, it]) (fun b hb => ?_) (fun b o _ _ hc q _ => kp b o (fun z => hc (by simp [z])) (fun z => hc (by simp [z])) q) (fun b o _ _ hc q _ => ⟨o.slots, kp b o (fun z => hc (by simp [z])) (fun z => hc (by simp [z])) q⟩) (fun _ _ _ _ n => n)
    (fun b o hc q => ⟨o, kp b o (fun z => hc (by simp [z])) (fun z => hc (by simp [z])) q⟩) (fun _ _ q => q) (fun _ _ _ q => q) (fun b ps q => ⟨#[], by rw [q]; simp⟩) (fun m hm => ?_) (fun b o q => ?_) I.bare
   ·rcases List.mem_cons.mp hb with rfl | hb
    ·exact ⟨f3, f1, f4, f5⟩
    ·rw [List.mem_singleton.mp hb]; exact ⟨g3, g1, g4, g5⟩
   ·obtain ⟨o, es, ep, q, r⟩ := hm
    exact ⟨o, es, ep, kp _ o (Ne.symm f1) (Ne.symm g1) q, r⟩
   ·have nb : ∀ c v, H c = some v → c ≠ e ∧ c ≠ it := fun c v q => ⟨ne_of_none q f0, ne_of_none q g0⟩
    refine (I.hok b o q).stay (fun c v hcc r => kp c v ?_ ?_ r) (fun _ q => q) fun _ _ q => q
    ·rcases hcc with z | z
     ·rw [z]; exact (nb b o q).1
     ·exact (nb c _ z).1
    ·rcases hcc with z | z
     ·rw [z]; exact (nb b o q).2
     ·exact (nb c _ z).2
  have hfree : H s.heap.objs.size = none := I.hok.fresh (Nat.le_refl _)
  have I2 : Inv X pins σ (upd H s.heap.objs.size (.tup [.int i, x])) { s with heap := h2, toks := s.toks + 1 } := by
   refine Inv.track I1 hfree I.sz (Nat.ne_of_gt I.lt) (fun y c q => ?_) (fun p hp => Nat.ne_of_lt (Heap.lt_size (I.pin p hp).1)) ?_
   ·obtain ⟨v, oc, q1, _⟩ := I.cell y c q
    exact Nat.ne_of_lt (Heap.lt_size q1)
   ·exact ⟨(by show 2 ≤ sizeLine; decide), [.int i s.toks, u], .cons ⟨_, rfl⟩ (.cons ru .nil), ⟨_, hT2, rfl, _, rfl⟩⟩
  refine ⟨.ref s.heap.objs.size, _, I2, rfl, ⟨_, x, rfl, New.mk0 hfree, fun ys hy => by rw [I.list_inj hy hq]; exact hx⟩, ⟨⟨u, ?_⟩, hit'.at fun o q => (hs2.2 it (Ne.symm hei)).trans q⟩, fun b hb => ?_⟩
  ·have e1 : ((i + 1 : Nat) : Int) = (i : Int) + 1 := by omega
   show IsEnum h2 e it ((i + 1 : Nat) : Int) u
   rw [e1]; exact he2
  ·rcases List.mem_cons.mp hb with rfl | hb
   ·rw [upd_ne (Ne.symm eT)]; exact f0
   ·rw [List.mem_singleton.mp hb, upd_ne (Ne.symm iT)]; exact g0
 done := by
  intro X hP hw hK hc i pins s σ H E I hf st hg
  subst hP hw hK
  obtain ⟨xs, hq, hx⟩ := hg
  obtain ⟨its, rv, pl, hz⟩ := I.list hq
  obtain ⟨⟨old, he⟩, hit⟩ := st
  obtain ⟨g0, g1, g2, g3, g4, g5⟩ := hf it (by simp)
  have hl := rv.length
  exact wpAny_pyNext_enum_end (I.ok.hd hc) he hit pl.isList (by simp; omega) fun h' eb => ⟨rfl, I.turned (t' := s.toks) (fun b o hb q => eb b o hb q) g0 g1 g3 g4 g5⟩
 self := fun _ _ _ _ _ st h => by
  obtain ⟨⟨old, he⟩, _⟩ := st
  exact wpAny_pyIter_enum he h
section
variable {X : Cx} {K : PySem.W.Frag}
def iEnum (K : PySem.W.Frag) (ta : TA) : TI := fun σ H R => ta σ H fun vs H1 => ∃ a, vs = [.ref a] ∧ (∃ xs, SqL K H1 a xs) ∧ R (Ite K a) H1
theorem pi_enum {elts : List Expr} {k : Nat} {tpos : Pos} {l : Expr} {ta : TA} {p pos : Pos} (e0 : X.K = K) (hg : Gl X "enumerate") (hm : X.mg "enumerate" = none) (ha : PA X [l] ta) (hs : starEach [l] X.env = [(false, eval l X.env)] := by rfl) :
  PI X (.Tuple elts k tpos) (.Call (.Name "enumerate" p) [l] [] pos) (iEnum K ta) := by
 subst e0
 intro pins s σ H R I h
 refine wpAny_Call_Name_kw (ld_blt I hg hm boot_enumerate ?_)
 refine PyProof.Rows.callWith_type1 (thn (ha pos pins s σ H _ I h) fun us s1 ⟨vs, H1, I1, r1, q1⟩ => ?_) hs (by rfl)
 obtain ⟨a, e, ⟨xs, hq⟩, q⟩ := q1
 subst e
 obtain ⟨u, rfl, ru⟩ := vals1 r1
 cases ru
 obtain ⟨its, rv, pl, hz⟩ := I1.list hq
 refine call_enumerate_list pl.isList fun h' he hit hsz hk => ?_
 refine wpAny_pyIter_enum he ?_
 have I2 : Inv X pins σ H1 { s1 with heap := h' } := I1.kept (t' := s1.toks) hk
 refine ⟨s1.heap.objs.size + 1, [s1.heap.objs.size + 1, s1.heap.objs.size], _, _, H1, rfl, I2, turn_enum a s1.heap.objs.size (s1.heap.objs.size + 1) (Nat.ne_of_gt (Nat.lt_succ_self _)), ⟨⟨_, he⟩, hit⟩, fun b hb => ?_, q⟩
 have hb' : s1.heap.objs.size ≤ b := by
  rcases List.mem_cons.mp hb with rfl | hb
  ·exact Nat.le_succ _
  ·rw [List.mem_singleton.mp hb]; exact Nat.le_refl _
 exact I1.fpOk hb' (I1.hok.fresh hb')
end
theorem for_enum {K : PySem.W.Frag} {a : Addr} {xs : List V} {g : TG} {tb : TS} {D : Ends} {σ : St} {H : Hp} (Pv : Nat → St → Hp → Prop) (h0 : Pv 0 σ H) (hl : ∀ i σ H, i ≤ xs.length → Pv i σ H → SqL K H a xs)
  (hs : ∀ (i : Nat) x σ H p H', xs[i]? = some x → Pv i σ H → New H p (.tup [.int i, x]) H' → g (.ref p) σ H' fun σ2 H2 => tb { D with nx := Pv (i + 1), ct := Pv (i + 1), bk := D.nx } σ2 H2) (hd : ∀ σ H, Pv xs.length σ H → D.nx σ H) :
  ∃ W : Nat → Nat → St → Hp → Prop, (∃ m, W 0 m σ H) ∧ ∀ i m σ H, W i m σ H →
   ((Ite K a).stop i H ∧ D.nx σ H) ∨ ((Ite K a).go i H ∧ ∃ N : St → Hp → Prop, (∀ σ' H', N σ' H' → ∃ m', m' < m ∧ W (i + 1) m' σ' H') ∧ ∀ x H', (Ite K a).yld i H x H' → g x σ H' fun σ2 H2 => tb { D with nx := N, ct := N, bk := D.nx } σ2 H2) := by
 refine ⟨fun i m σ H => m = xs.length - i ∧ i ≤ xs.length ∧ Pv i σ H, ⟨xs.length, by simp, Nat.zero_le _, h0⟩, ?_⟩
 rintro i m σ H ⟨rfl, hi, p⟩
 have q := hl i σ H hi p
 by_cases hlt : i < xs.length
 ·refine .inr ⟨⟨xs, xs[i], q, by simp [hlt]⟩, Pv (i + 1), fun σ' H' p' => ⟨xs.length - (i + 1), by omega, rfl, hlt, p'⟩, fun x H' y => ?_⟩
  obtain ⟨pp, y0, rfl, nw, ex⟩ := y
  exact hs i y0 σ H pp H' (ex xs q) p nw
 ·have e : i = xs.length := by omega
  subst e
  exact .inl ⟨⟨xs, q, Nat.le_refl _⟩, hd σ H p⟩
theorem lc_enum {K : PySem.W.Frag} {a : Addr} {xs : List V} {ix : List (Option Nat)} {g : TG} {tt : TT} {te : TE} {σ : St} {H1 : Hp} {Q : VK} (f : Nat → V → Option V) (hx : SqL K H1 a xs) (hz : xs.length ≤ 1000)
  (hs : ∀ (i : Nat) x H p H0 (N : Option V → Hp → Prop), xs[i]? = some x → Same H1 H → New H p (.tup [.int i, x]) H0 → (∀ H', Same H1 H' → N (f i x) H') → g (.ref p) (capt ix σ) H0 fun σ2 H2 => tt σ2 H2 fun b H3 => if b = true then te σ2 H3 fun v H4 => N (some v) H4 else N none H3)
  (hd : ∀ H p H', Same H1 H → New H p (.lst ((List.range xs.length).filterMap fun i => (xs[i]?).bind (f i))) H' → Q (.ref p) H') : LcGoal ix g tt te σ H1 Q (Ite K a) := by
 refine ⟨fun i m ys H => m = xs.length - i ∧ i ≤ xs.length ∧ ys = (List.range i).filterMap (fun i => (xs[i]?).bind (f i)) ∧ Same H1 H, ⟨xs.length, by simp, Nat.zero_le _, rfl, Same.refl _⟩, ?_⟩
 rintro i m ys H ⟨rfl, hi, e, s⟩
 have zy : ys.length ≤ sizeLine := by
  rw [e]
  refine Nat.le_trans (List.length_filterMap_le _ _) ?_
  rw [List.length_range]; exact Nat.le_trans hi (Nat.le_of_lt (small1000 hz))
 have q := s.seq hx
 by_cases hlt : i < xs.length
 ·refine .inr ⟨⟨xs, xs[i], q, by simp [hlt]⟩, zy, fun ys' H' => ys' = (List.range (i + 1)).filterMap (fun i => (xs[i]?).bind (f i)) ∧ Same H1 H', fun ys' H' ⟨e', s'⟩ => ⟨xs.length - (i + 1), by omega, rfl, hlt, e', s'⟩, fun x H' y => ?_⟩
  obtain ⟨pp, y0, rfl, nw, ex⟩ := y
  have ey := ex xs q
  refine hs i y0 H pp H' (fun o H' => match o with | some v => (ys ++ [v] = (List.range (i + 1)).filterMap (fun i => (xs[i]?).bind (f i)) ∧ Same H1 H') | none => (ys = (List.range (i + 1)).filterMap (fun i => (xs[i]?).bind (f i)) ∧ Same H1 H')) ey s nw fun H' s' => ?_
  cases ef : f i y0 with
  | some v =>
   refine ⟨?_, s'⟩
   rw [e, List.range_succ, List.filterMap_append]
   simp [ey, ef]
  | none =>
   refine ⟨?_, s'⟩
   rw [e, List.range_succ, List.filterMap_append]
   simp [ey, ef]
 ·have e' : i = xs.length := by omega
  subst e'
  refine .inl ⟨⟨xs, q, Nat.le_refl _⟩, zy, fun p hp => ?_⟩
  subst e
  exact hd H p _ s (New.mk0 hp)
theorem lc_ixN {K : PySem.W.Frag} {a : Addr} {xs : List V} {ix : List (Option Nat)} {g : TG} {tt : TT} {te : TE} {σ : St} {H1 : Hp} {Q : VK} (f : Nat → Option V) (hx : SqL K H1 a xs) (hz : xs.length ≤ 1000)
  (hs : ∀ (i : Nat) x H (N : Option V → Hp → Prop), xs[i]? = some x → Same H1 H → (∀ H', Same H1 H' → N (f i) H') → g x (capt ix σ) H fun σ2 H2 => tt σ2 H2 fun b H3 => if b = true then te σ2 H3 fun v H4 => N (some v) H4 else N none H3)
  (hd : ∀ H p H', Same H1 H → New H p (.lst ((List.range xs.length).filterMap f)) H' → Q (.ref p) H') : LcGoal ix g tt te σ H1 Q (Itl K a) := by
 refine lc_list (K := K) (a := a) (xs := xs) (fun i ys H => ys = (List.range i).filterMap f ∧ Same H1 H) ⟨rfl, Same.refl _⟩ (fun i ys H hi ⟨e, s⟩ => ⟨s.seq hx, ?_⟩) (fun i x ys H hi ⟨e, s⟩ => ?_) fun ys H ⟨e, s⟩ p hp => ?_
 ·subst e
  refine Nat.le_trans (List.length_filterMap_le _ _) ?_
  rw [List.length_range]; exact Nat.le_trans hi (Nat.le_of_lt (small1000 hz))
 ·refine hs i x H (fun o H' => match o with | some v => (ys ++ [v] = (List.range (i + 1)).filterMap f ∧ Same H1 H') | none => (ys = (List.range (i + 1)).filterMap f ∧ Same H1 H')) hi s fun H' s' => ?_
  cases ef : f i with
  | some v =>
   refine ⟨?_, s'⟩
   rw [e, List.range_succ, List.filterMap_append]
   simp [ef]
  | none =>
   refine ⟨?_, s'⟩
   rw [e, List.range_succ, List.filterMap_append]
   simp [ef]
 ·subst e
  exact hd H p _ s (New.mk0 hp)
end L2
namespace Bg
open PySem L2 Lw
abbrev Row := Option Int × List Int
def riseF (ns : List Int) : Bool := (List.range (ns.length - 1)).all fun i => decide (ns.getD i 0 < ns.getD (i + 1) 0)
def setF (n : Int) (ns : List Int) : Bool := (ns.all fun v => decide (0 ≤ v ∧ v < n)) && riseF ns
def belowF (n : Int) : Option Int → Bool
 | none => false
 | some i => decide (0 ≤ i ∧ i < n)
def upOk (k : Nat) (u : Option Int) : Bool := if k = 0 then u.isNone else belowF k u
def rowAt (rs : List Row) (k : Nat) : Row := rs.getD k (none, [])
def rowOk (n : Int) (rs : List Row) (k : Nat) : Bool := upOk k (rowAt rs k).1 && setF n (rowAt rs k).2
def rowFaultF (n : Int) (rs : List Row) : Option Nat := if rs.isEmpty then some 0 else (List.range rs.length).find? fun k => !rowOk n rs k
def has (v : Int) (r : Row) : Bool := decide (v ∈ r.2)
def placeFaultF (n : Nat) (rs : List Row) : Option Nat := (List.range n).find? fun v => !(rs.any (has v))
def tieFaultF (ts : List (Int × Int)) (rs : List Row) : Option (Int × Int) := ts.find? fun t => !(rs.any fun r => has t.1 r && has t.2 r)
def heldF (rs : List Row) (u : Option Int) (v : Int) : Bool := match u with
 | none => false
 | some i => has v (rowAt rs i.toNat)
def isTop (rs : List Row) (v : Int) (k : Nat) : Bool := has v (rowAt rs k) && !heldF rs (rowAt rs k).1 v
def topsF (rs : List Row) (v : Int) : List Nat := (List.range rs.length).filter (isTop rs v)
def apartAt (rs : List Row) (v : Int) : Option (Nat × Nat) := match topsF rs v with
 | j :: k :: _ => some (j, k)
 | _ => none
def apartFaultF (n : Nat) (rs : List Row) : Option (Nat × Nat × Nat) := (List.range n).findSome? fun (v : Nat) => (apartAt rs (v : Int)).map fun p => (v, p.1, p.2)
inductive Flt where
 | ok | row (k : Nat) | place (v : Nat) | tie (a b : Int) | apart (v j k : Nat)
 deriving DecidableEq
def faultF (n : Nat) (ts : List (Int × Int)) (rs : List Row) : Flt := match rowFaultF n rs with
 | some k => .row k
 | none => match placeFaultF n rs with
  | some v => .place v
  | none => match tieFaultF ts rs with
   | some t => .tie t.1 t.2
   | none => match apartFaultF n rs with
    | some p => .apart p.1 p.2.1 p.2.2
    | none => .ok
def upV : Option Int → V
 | none => .non
 | some i => .int i
def RowV (K : PySem.W.Frag) (H : Hp) (v : V) (r : Row) : Prop := ∃ p b, v = .ref p ∧ SqT K H p [upV r.1, .ref b] ∧ SqL K H b (r.2.map V.int) ∧ r.2.length ≤ 1000
def RowsAt (K : PySem.W.Frag) (H : Hp) (a : Addr) (rs : List Row) : Prop := ∃ xs, SqL K H a xs ∧ Paired (RowV K H) xs rs ∧ rs.length ≤ 1000
def TieV (K : PySem.W.Frag) (H : Hp) (v : V) (t : Int × Int) : Prop := ∃ p, v = .ref p ∧ SqT K H p [.int t.1, .int t.2]
def TiesAt (K : PySem.W.Frag) (H : Hp) (a : Addr) (ts : List (Int × Int)) : Prop := ∃ xs, SqL K H a xs ∧ Paired (TieV K H) xs ts ∧ ts.length ≤ 1000
def GraphV (K : PySem.W.Frag) (H : Hp) (v : V) (n : Int) (ts : List (Int × Int)) : Prop := ∃ p a, v = .ref p ∧ SqT K H p [.int n, .ref a] ∧ TiesAt K H a ts
def FltV (H : Hp) (v : V) : Flt → Prop
 | .ok => v = .non
 | .row k => ∃ p, v = .ref p ∧ H p = some (.tup [.str "row", .int k])
 | .place x => ∃ p, v = .ref p ∧ H p = some (.tup [.str "place", .int x])
 | .tie a b => ∃ p, v = .ref p ∧ H p = some (.tup [.str "tie", .int a, .int b])
 | .apart x j k => ∃ p, v = .ref p ∧ H p = some (.tup [.str "apart", .int x, .int j, .int k])
theorem RowV.same {K : PySem.W.Frag} {H H' : Hp} {v : V} {r : Row} (e : Same H H') (h : RowV K H v r) : RowV K H' v r := by
 obtain ⟨p, b, h1, h2, h3, h4⟩ := h
 exact ⟨p, b, h1, e.tupq h2, e.seq h3, h4⟩
theorem RowsAt.same {K : PySem.W.Frag} {H H' : Hp} {a : Addr} {rs : List Row} (e : Same H H') (h : RowsAt K H a rs) : RowsAt K H' a rs := by
 obtain ⟨xs, h1, h2, h3⟩ := h
 exact ⟨xs, e.seq h1, Paired.mapP h2 fun _ _ q => q.same e, h3⟩
theorem TiesAt.same {K : PySem.W.Frag} {H H' : Hp} {a : Addr} {ts : List (Int × Int)} (e : Same H H') (h : TiesAt K H a ts) : TiesAt K H' a ts := by
 obtain ⟨xs, h1, h2, h3⟩ := h
 exact ⟨xs, e.seq h1, Paired.mapP h2 fun _ _ ⟨p, q1, q2⟩ => ⟨p, q1, e.tupq q2⟩, h3⟩
theorem GraphV.same {K : PySem.W.Frag} {H H' : Hp} {v : V} {n : Int} {ts : List (Int × Int)} (e : Same H H') (h : GraphV K H v n ts) : GraphV K H' v n ts := by
 obtain ⟨p, a, h1, h2, h3⟩ := h
 exact ⟨p, a, h1, e.tupq h2, h3.same e⟩
theorem paired_get {α β : Type} {F : α → β → Prop} : ∀ {xs : List α} {ys : List β} {i : Nat} {x : α}, Paired F xs ys → xs[i]? = some x → ∃ y, ys[i]? = some y ∧ F x y
 | _, _, _, _, .nil, h => by simp at h
 | _, _, 0, _, .cons h r, e => by
  simp at e; subst e
  exact ⟨_, rfl, h⟩
 | _, _, i + 1, _, .cons h r, e => by
  obtain ⟨d, e1, q⟩ := paired_get (i := i) r (by simpa using e)
  exact ⟨d, by simpa using e1, q⟩
theorem paired_getr {α β : Type} {F : α → β → Prop} : ∀ {xs : List α} {ys : List β} {i : Nat} {y : β}, Paired F xs ys → ys[i]? = some y → ∃ x, xs[i]? = some x ∧ F x y
 | _, _, _, _, .nil, h => by simp at h
 | _, _, 0, _, .cons h r, e => by
  simp at e; subst e
  exact ⟨_, rfl, h⟩
 | _, _, i + 1, _, .cons h r, e => by
  obtain ⟨d, e1, q⟩ := paired_getr (i := i) r (by simpa using e)
  exact ⟨d, by simpa using e1, q⟩
theorem rowAt_get {rs : List Row} {i : Nat} {r : Row} (h : rs[i]? = some r) : rowAt rs i = r := by
 unfold rowAt; rw [List.getD_eq_getElem?_getD, h]; rfl
theorem rowAt_lt {rs : List Row} {i : Nat} (h : i < rs.length) : rs[i]? = some (rowAt rs i) := by
 unfold rowAt; rw [List.getD_eq_getElem?_getD, List.getElem?_eq_getElem h]; rfl
theorem any_range (rs : List Row) (p : Row → Bool) : ((List.range rs.length).map fun i => p (rowAt rs i)).any id = rs.any p := by
 rw [List.any_map, Bool.eq_iff_iff]
 simp only [List.any_eq_true, List.mem_range, Function.comp, id]
 constructor
 ·rintro ⟨i, hi, h⟩
  exact ⟨rowAt rs i, List.mem_of_getElem? (rowAt_lt hi), h⟩
 ·rintro ⟨r, hr, h⟩
  obtain ⟨i, hi, rfl⟩ := List.getElem_of_mem hr
  exact ⟨i, hi, by rw [rowAt_get (List.getElem?_eq_getElem hi)]; exact h⟩
theorem find_at {α : Type} {p : α → Bool} : ∀ {l : List α} {i : Nat} {x : α}, l[i]? = some x → p x = true → (∀ j z, j < i → l[j]? = some z → p z = false) → l.find? p = some x
 | [], _, _, h, _, _ => by simp at h
 | y :: r, 0, x, h, hp, _ => by
  simp at h; subst h
  rw [List.find?_cons, hp]
 | y :: r, i + 1, x, h, hp, hn => by
  have h0 := hn 0 y (Nat.succ_pos _) rfl
  rw [List.find?_cons, h0]
  exact find_at (i := i) (by simpa using h) hp fun j z hj hz => hn (j + 1) z (Nat.succ_lt_succ hj) (by simpa using hz)
theorem fm_congr {α β : Type} {f g : α → Option β} : ∀ {l : List α}, (∀ x ∈ l, f x = g x) → l.filterMap f = l.filterMap g
 | [], _ => rfl
 | x :: r, h => by
  have ih := fm_congr (f := f) (g := g) (l := r) fun y hy => h y (List.mem_cons_of_mem _ hy)
  rw [List.filterMap_cons, List.filterMap_cons, h x List.mem_cons_self, ih]
theorem findSome_none {α β : Type} {f : α → Option β} : ∀ {l : List α}, (∀ x ∈ l, f x = none) → l.findSome? f = none
 | [], _ => rfl
 | x :: r, h => by
  rw [List.findSome?_cons, h x List.mem_cons_self]
  exact findSome_none fun y hy => h y (List.mem_cons_of_mem _ hy)
theorem findSome_append {α β : Type} {f : α → Option β} : ∀ {l m : List α}, (∀ x ∈ l, f x = none) → (l ++ m).findSome? f = m.findSome? f
 | [], _, _ => rfl
 | x :: r, m, h => by
  rw [List.cons_append, List.findSome?_cons, h x List.mem_cons_self]
  exact findSome_append fun y hy => h y (List.mem_cons_of_mem _ hy)
theorem findSome_range {β : Type} {f : Nat → Option β} {n i : Nat} {b : β} (hi : i < n) (h : f i = some b) (hn : ∀ j < i, f j = none) : (List.range n).findSome? f = some b := by
 have e : n = i + (n - i) := by omega
 rw [e, List.range_add]
 rw [findSome_append fun x hx => hn x (List.mem_range.mp hx)]
 obtain ⟨k, hk⟩ : ∃ k, n - i = k + 1 := ⟨n - i - 1, by omega⟩
 rw [hk, List.range_succ_eq_map, List.map_cons, List.findSome?_cons, Nat.add_zero, h]
theorem findSome_range_none {β : Type} {f : Nat → Option β} {n : Nat} (hn : ∀ j < n, f j = none) : (List.range n).findSome? f = none := findSome_none fun x hx => hn x (List.mem_range.mp hx)
theorem any_int (ns : List Int) (v : Int) : (ns.map PyData.int).any (fun e => PyData.eqv e (.int v)) = decide (v ∈ ns) := by
 induction ns with
 | nil => rfl
 | cons a r ih =>
  rw [List.map_cons, List.any_cons, ih, PyData.eqv]
  by_cases h : a = v
  ·subst h; simp
  ·have h' : ¬ v = a := fun z => h z.symm
   simp [h, h']
theorem depth_ints (ns : List Int) : PyData.depthAll (ns.map PyData.int) = 0 := by
 induction ns with
 | nil => rfl
 | cons a r ih => rw [List.map_cons, PyData.depthAll, ih]; rfl
theorem can_ints (ns : List Int) : PyData.canLayAll0 (ns.map PyData.int) = true := by
 induction ns with
 | nil => rfl
 | cons a r ih => rw [List.map_cons, PyData.canLayAll0, ih]; rfl
theorem shaped_ints (ns : List Int) : SeqAt.shaped (.list (ns.map PyData.int)) = true := by
 unfold SeqAt.shaped
 rw [PyData.canLay0, can_ints, PyData.depth, depth_ints]
 decide
theorem eqv_ints (ns ms : List Int) : PyData.eqv (.list (ns.map PyData.int)) (.list (ms.map PyData.int)) = decide (ns = ms) := by
 rw [PyData.eqv]
 exact PySem.W.ked_eqvAll ns ms
theorem inInts {K : PySem.W.Frag} {H : Hp} {b : Addr} {ns : List Int} {v : Int} {Q : VK} (hS : SqL K H b (ns.map V.int)) (q : Q (.bl (decide (v ∈ ns))) H) : rInD K false (.int v) (.ref b) H Q :=
 ⟨_, _, .int v, .lst hS (IsDs.ints ns), rfl, shaped_ints ns, by rw [any_int]; exact q⟩
theorem notInInts {K : PySem.W.Frag} {H : Hp} {b : Addr} {ns : List Int} {v : Int} {Q : VK} (hS : SqL K H b (ns.map V.int)) (q : Q (.bl (!decide (v ∈ ns))) H) : rInD K true (.int v) (.ref b) H Q :=
 ⟨_, _, .int v, .lst hS (IsDs.ints ns), rfl, shaped_ints ns, by rw [any_int]; exact q⟩
end Bg
namespace L2
open PySem PySem.Spec PyProof.Rows
def rSetN : V → V → V → Hp → (Hp → Prop) → Prop := fun o i v H Q => ∃ p xs k j, o = .ref p ∧ i = .int k ∧ H p = some (.lst xs) ∧ ixN xs.length k = some j ∧ ∀ H', Chg H p (.lst (xs.set j v)) H' → Q H'
theorem set_listN {X : Cx} : PSet X rSetN := fun pins s σ H o i v ov iv u Q I ro ri rv ⟨p, xs, k, j, e1, e2, h1, h2, q⟩ => set_list pins s σ H o i v ov iv u Q I ro ri rv ⟨p, xs, k, j, e1, e2, h1, h2, q _ Chg.mk0⟩
theorem ixN_nat {n j : Nat} (h : j < n) : ixN n (j : Int) = some j := by
 unfold ixN
 rw [if_pos (by omega), if_pos (by omega)]; simp
theorem Same.chg {H H' : Hp} {l : Addr} {o : HO} {H0 : Hp} (s : Same H0 H) (h0 : H0 l = none) (c : Chg H l o H') : Same H0 H' := fun b u e => (c.rest b (ne_of_none e h0)).trans (s b u e)
end L2
namespace Bg
open PySem L2 Lw
theorem rise_cons (a b : Int) (r : List Int) : riseF (a :: b :: r) = (decide (a < b) && riseF (b :: r)) := by
 unfold riseF
 have e : (a :: b :: r).length - 1 = (b :: r).length - 1 + 1 := by simp
 rw [e, List.range_succ_eq_map, List.all_cons, List.all_map]
 rfl
theorem rise_iff : ∀ ls : List Int, riseF ls = true ↔ ls.Pairwise (· < ·)
 | [] => by simp [riseF]
 | [a] => by simp [riseF]
 | a :: b :: r => by
  rw [rise_cons, Bool.and_eq_true, rise_iff (b :: r), decide_eq_true_iff, List.pairwise_cons (a := a)]
  constructor
  ·rintro ⟨h1, h2⟩
   refine ⟨fun c hc => ?_, h2⟩
   rcases List.mem_cons.mp hc with rfl | hc
   ·exact h1
   ·exact Int.lt_trans h1 ((List.pairwise_cons.mp h2).1 c hc)
  ·rintro ⟨h1, h2⟩
   exact ⟨h1 b List.mem_cons_self, h2⟩
theorem set_iff (n : Int) (ls : List Int) : setF n ls = true ↔ (∀ v ∈ ls, 0 ≤ v ∧ v < n) ∧ ls.Pairwise (· < ·) := by
 unfold setF
 rw [Bool.and_eq_true, rise_iff, List.all_eq_true]
 constructor
 ·rintro ⟨h1, h2⟩
  exact ⟨fun v hv => of_decide_eq_true (h1 v hv), h2⟩
 ·rintro ⟨h1, h2⟩
  exact ⟨fun v hv => decide_eq_true (h1 v hv), h2⟩
def TieL (H : Hp) (v : V) (t : Int × Int) : Prop := ∃ p, v = .ref p ∧ H p = some (.tup [.int t.1, .int t.2])
def RowL (l : Addr) (H : Hp) (v : V) (r : Row) : Prop := ∃ p b, v = .ref p ∧ H p = some (.tup [upV r.1, .ref b]) ∧ H b = some (.lst (r.2.map V.int)) ∧ b ≠ l ∧ r.2.length ≤ 1000
theorem TieL.v {K : PySem.W.Frag} {H : Hp} {v : V} {t : Int × Int} (h : TieL H v t) : TieV K H v t := by
 obtain ⟨p, e, q⟩ := h
 exact ⟨p, e, SqT.of q⟩
theorem RowL.v {K : PySem.W.Frag} {l : Addr} {H : Hp} {v : V} {r : Row} (h : RowL l H v r) : RowV K H v r := by
 obtain ⟨p, b, e, q1, q2, _, z⟩ := h
 exact ⟨p, b, e, SqT.of q1, SqL.of q2, z⟩
theorem TieL.same {H H' : Hp} {v : V} {t : Int × Int} (s : Same H H') (h : TieL H v t) : TieL H' v t := by
 obtain ⟨p, e, q⟩ := h
 exact ⟨p, e, s _ _ q⟩
theorem TieL.chg {H H' : Hp} {l : Addr} {xs ys : List V} {v : V} {t : Int × Int} (hl : H l = some (.lst xs)) (c : Chg H l (.lst ys) H') (h : TieL H v t) : TieL H' v t := by
 obtain ⟨p, e, q⟩ := h
 exact ⟨p, e, (c.rest p (ne_of q hl (by intro z; cases z))).trans q⟩
theorem RowL.same {l : Addr} {H H' : Hp} {v : V} {r : Row} (s : Same H H') (h : RowL l H v r) : RowL l H' v r := by
 obtain ⟨p, b, e, q1, q2, n, z⟩ := h
 exact ⟨p, b, e, s _ _ q1, s _ _ q2, n, z⟩
theorem paired_snoc {α β : Type} {F : α → β → Prop} : ∀ {xs : List α} {ys : List β} {x : α} {y : β}, Paired F xs ys → F x y → Paired F (xs ++ [x]) (ys ++ [y])
 | _, _, _, _, .nil, h => .cons h .nil
 | _, _, _, _, .cons h r, q => .cons h (paired_snoc r q)
def tieD (t : Int × Int) : PyData := .tuple [.int t.1, .int t.2]
theorem TieV.isD {K : PySem.W.Frag} {H : Hp} {v : V} {t : Int × Int} (h : TieV K H v t) : IsD K H v (tieD t) := by
 obtain ⟨p, rfl, q1⟩ := h
 exact .tup q1 (.cons (.int _) (.cons (.int _) .nil))
theorem isDs_of {K : PySem.W.Frag} {H : Hp} {α : Type} {F : V → α → Prop} {f : α → PyData} (hf : ∀ v x, F v x → IsD K H v (f x)) : ∀ {xs : List V} {ys : List α}, Paired F xs ys → IsDs K H xs (ys.map f)
 | _, _, .nil => .nil
 | _, _, .cons h r => .cons (hf _ _ h) (isDs_of hf r)
def tiesD (ts : List (Int × Int)) : PyData := .list (ts.map tieD)
theorem TiesAt.isD {K : PySem.W.Frag} {H : Hp} {a : Addr} {ts : List (Int × Int)} (h : TiesAt K H a ts) : IsD K H (.ref a) (tiesD ts) := by
 obtain ⟨xs, h1, h2, _⟩ := h
 exact .lst h1 (isDs_of (fun v x q => q.isD) h2)
theorem can_all {α : Type} {f : α → PyData} (h : ∀ x, (f x).canLay0 = true) : ∀ l : List α, PyData.canLayAll0 (l.map f) = true
 | [] => rfl
 | x :: r => by rw [List.map_cons, PyData.canLayAll0, h x, can_all h r]; rfl
theorem depth_all {α : Type} {f : α → PyData} {k : Nat} (h : ∀ x, (f x).depth ≤ k) : ∀ l : List α, PyData.depthAll (l.map f) ≤ k
 | [] => Nat.zero_le _
 | x :: r => by
  rw [List.map_cons, PyData.depthAll]
  exact Nat.max_le.mpr ⟨h x, depth_all h r⟩
theorem can_tie (t : Int × Int) : (tieD t).canLay0 = true := rfl
theorem depth_tie (t : Int × Int) : (tieD t).depth ≤ 1 := by
 unfold tieD
 simp [PyData.depth, PyData.depthAll]
theorem shaped_ties (ts : List (Int × Int)) : SeqAt.shaped (tiesD ts) = true := by
 unfold SeqAt.shaped tiesD
 rw [PyData.canLay0, can_all can_tie, PyData.depth, Bool.true_and]
 exact decide_eq_true (by have := depth_all depth_tie ts; omega)
theorem eqv_self {d : PyData} (h : SeqAt.shaped d = true) : PyData.eqv d d = true := SeqAt.eqv_refl d (SeqAt.canLay_of_shaped h)
end Bg
set_option maxHeartbeats 4100000
namespace L2
open PySem PySem.Spec PyProof.Rows
section
variable {X : Cx} {K : PySem.W.Frag} {a b : Expr} {rest : List Expr} {pos : Pos} {ta tb : TE}
def rBoolL (K : PySem.W.Frag) : List V → Hp → VK → Prop := fun xs H Q => ∃ p ys, xs = [.ref p] ∧ SqL K H p ys ∧ Q (.bl (!ys.isEmpty)) H
theorem bool_new_meets (x : Value) : Meets (Builtin.«bool.__new__» ⟨[.type "bool", x], []⟩) (fun _ R s => ∃ (c : Bool) (tk : Nat), (∀ (prog : Program) (w : World) (A' : Around) (E' : Value → Shared → Prop) (Q' : Bool → Shared → Prop), Q' c { s with toks := tk } → wpAny (model prog w) A' (truthy x) Q' E' s) ∧ R (.ok (.ret (.bool c))) { s with toks := tk }) :=
 Meets.of_wp fun prog w A R s hs => by
  obtain ⟨c, tk, ht, hr⟩ := hs
  have f1 := F.conv_sub_bool
  obtain ⟨hp, g, d, tk0, os⟩ := s
  repeat (any_goals (first | assumption | (with_reducible refine ht _ _ _ _ _ ?_) | wp_step))
  all_goals first | exact ⟨_, rfl, hr⟩ | exact hr | skip
theorem call_boolL (e : X.K = K) : CallR X (.type "bool") (rBoolL K) := by
 subst e
 intro pins s σ H xs us Q I r h
 obtain ⟨p, ys, rfl, hL, q⟩ := h
 obtain ⟨u, rfl, rx⟩ := vals1 r
 cases rx
 obtain ⟨its, r', pl, hz⟩ := I.list hL
 have hlen := r'.length
 have hl := line63
 refine call_bool_1 (bool_new_meets (.ref p)) ⟨!its.toArray.isEmpty, s.toks + 1 + 1, fun prog w A' E' Q' q' => wpAny_truthy_list pl.isList (by simp only [List.size_toArray]; omega) q', ?_⟩
 refine (show wants (fun obj s₁ => s₁.TypeIs obj "bool" ∧ EP X pins σ Q obj s₁) _ _ _ from ⟨rfl, .bl (!its.toArray.isEmpty), H, I.tok _, rfl, ?_⟩)
 rw [isEmpty_of r']
 exact q
end
end L2
set_option maxHeartbeats 4100000
namespace L2
open PySem PySem.Spec PyProof.Rows
section
variable {X : Cx} {K : PySem.W.Frag} {a b : Expr} {rest : List Expr} {pos : Pos} {ta tb : TE}
def tAndL (K : PySem.W.Frag) (ta tb : TE) : TE := fun σ H Q => ta σ H fun x H1 => ∃ k, TruV K x H1 k ∧ if k = true then tb σ H1 Q else Q x H1
theorem pe_andL (e : X.K = K) (ha : PE X a ta) (hb : PE X (.BoolOp .And (b :: rest) pos) tb) : PE X (.BoolOp .And (a :: b :: rest) pos) (tAndL K ta tb) := by
 subst e
 intro pins s σ H Q I h
 refine BoolOp_and (thn (ha pins s σ H _ I h) fun v s1 ⟨x, H1, I1, r1, q1⟩ => ?_)
 obtain ⟨k, tk, q1⟩ := q1
 refine thn (tru_ok pins s1 σ H1 x v (fun c H2 => c = k ∧ H2 = H1) I1 r1 ⟨k, tk, rfl, rfl⟩) fun c s2 ⟨H2, I2, q2⟩ => ?_
 obtain ⟨rfl, rfl⟩ := q2
 cases c with
 | true => exact hb pins s2 σ H2 Q I2 q1
 | false => exact ⟨x, H2, I2, r1, q1⟩
end
end L2
set_option maxHeartbeats 4100000
namespace L2
open PySem PySem.Spec PyProof.Rows
section
variable {K : PySem.W.Frag} {a : Addr} {xs : List V} {ix : List (Option Nat)} {g : TG} {tt : TT} {te : TE} {σ : St} {H1 : Hp} {Q : VK}
theorem lc_fmTN (f : V → Option V) (hx : SqT K H1 a xs) (hz : xs.length ≤ 1000)
  (hs : ∀ x H (N : Option V → Hp → Prop), x ∈ xs → Same H1 H → (∀ H', Same H1 H' → N (f x) H') → g x (capt ix σ) H fun σ2 H2 => tt σ2 H2 fun b H3 => if b = true then te σ2 H3 fun v H4 => N (some v) H4 else N none H3)
  (hd : ∀ H p H', Same H1 H → New H p (.lst (xs.filterMap f)) H' → Q (.ref p) H') : LcGoal ix g tt te σ H1 Q (Itt K a) := by
 refine ⟨fun i m ys H => m = xs.length - i ∧ i ≤ xs.length ∧ ys = (xs.take i).filterMap f ∧ Same H1 H, ⟨xs.length, by simp, Nat.zero_le _, rfl, Same.refl _⟩, ?_⟩
 rintro i m ys H ⟨rfl, hi, e, s⟩
 have q := s.tupq hx
 have z : ys.length ≤ sizeLine := by
  subst e
  refine Nat.le_trans (List.length_filterMap_le _ _) (Nat.le_trans ?_ (Nat.le_of_lt (small1000 hz)))
  rw [List.length_take]; exact Nat.min_le_right _ _
 by_cases hlt : i < xs.length
 ·refine .inr ⟨⟨xs, xs[i], q, by simp [hlt]⟩, z, fun ys' H' => ys' = (xs.take (i + 1)).filterMap f ∧ Same H1 H', fun ys' H' p' => ⟨xs.length - (i + 1), by omega, rfl, hlt, p'⟩, fun x H' y => ?_⟩
  obtain ⟨e', y⟩ := y
  subst e'
  have hx' := y xs q
  have hm : x ∈ xs := List.mem_of_getElem? hx'
  obtain ⟨hil, hix⟩ := List.getElem?_eq_some_iff.mp hx'
  have et : xs.take (i + 1) = xs.take i ++ [x] := by rw [List.take_succ_eq_append_getElem hil, hix]
  refine hs x _ (fun o H' => match o with | some v => (ys ++ [v] = (xs.take (i + 1)).filterMap f ∧ Same H1 H') | none => (ys = (xs.take (i + 1)).filterMap f ∧ Same H1 H')) hm s fun H' s' => ?_
  cases ef : f x with
  | some v => exact ⟨by rw [e, et, List.filterMap_append]; simp [ef], s'⟩
  | none => exact ⟨by rw [e, et, List.filterMap_append]; simp [ef], s'⟩
 ·have ei : i = xs.length := by omega
  subst ei
  refine .inl ⟨⟨xs, q, Nat.le_refl _⟩, z, fun p hp => ?_⟩
  subst e
  rw [List.take_length]
  exact hd H p _ s (New.mk0 hp)
end
section
variable {X : Cx} {K : PySem.W.Frag}
def rSlTN (K : PySem.W.Frag) : V → Option Int → Option Int → Hp → VK → Prop := fun x lo hi H Q => ∃ a xs, x = .ref a ∧ SqT K H a xs ∧
 ¬ (HT.sIx xs.length 0 lo = 0 ∧ HT.sIx xs.length xs.length hi = xs.length) ∧ ∀ p H', New H p (.tup (cutV xs lo hi)) H' → Q (.ref p) H'
theorem sl_tupN (e : X.K = K) : SlR X (rSlTN K) := by
 subst e
 exact fun pins s σ H x v vl vu lo hi sl Q I rx hs pl pu ⟨a, xs, e, h, hw, q⟩ => sl_tup pins s σ H x v vl vu lo hi sl Q I rx hs pl pu ⟨a, xs, e, h, hw, fun p hp => q p _ (New.mk0 hp)⟩
end
end L2
namespace Srt
open PySem PySem.W PyProof.Rows
def Ok (n : Nat) (key : Nat → Int) {α : Type} : KasT α → (α → Prop) → Prop
 | .ret a, Q => Q a
 | .ask i j k, Q => i < n ∧ j < n ∧ Ok n key (k (decide (key i < key j))) Q
section
variable {n : Nat} {key : Nat → Int} {α β : Type}
theorem Ok.mono {Q Q' : α → Prop} (h : ∀ a, Q a → Q' a) : ∀ {t : KasT α}, Ok n key t Q → Ok n key t Q'
 | .ret _, x => h _ x
 | .ask _ _ _, ⟨a, b, x⟩ => ⟨a, b, Ok.mono h x⟩
theorem Ok.bind {f : α → KasT β} {Q : β → Prop} : ∀ {t : KasT α}, Ok n key t (fun a => Ok n key (f a) Q) → Ok n key (t.bind f) Q
 | .ret _, x => x
 | .ask _ _ _, ⟨a, b, x⟩ => ⟨a, b, Ok.bind x⟩
theorem Ok.wp {cmp : Nat → Nat → (Bool → Shared → Prop) → Shared → Prop} {s : Shared} {Q : α → Prop} {R : α → Shared → Prop} (hc : ∀ i j (C : Bool → Shared → Prop), i < n → j < n → C (decide (key i < key j)) s → cmp i j C s) (hq : ∀ a, Q a → R a s) :
  ∀ {t : KasT α}, Ok n key t Q → t.kasWp cmp R s
 | .ret _, x => hq _ x
 | .ask i j k, ⟨a, b, x⟩ => hc i j _ a b (Ok.wp hc hq x)
structure Pm (n : Nat) (p : Array Nat) : Prop where
 perm : p.Perm (List.range n).toArray
theorem Pm.size {p : Array Nat} (h : Pm n p) : p.size = n := by
 have := h.perm.size_eq
 simpa using this
theorem Pm.lt {p : Array Nat} (h : Pm n p) {i : Nat} (hi : i < n) : p.getD i 0 < n := by
 have hs := h.size
 have hi' : i < p.size := by omega
 have hm : p[i] ∈ (List.range n) := by
  have := (Array.perm_iff_toList_perm.mp h.perm).mem_iff (a := p[i])
  simpa using this
 have : p.getD i 0 = p[i] := by simp [Array.getD, hi']
 rw [this]; exact List.mem_range.mp hm
theorem Pm.of {p q : Array Nat} (h : Pm n p) (e : q.Perm p) : Pm n q := ⟨e.trans h.perm⟩
def KK (key : Nat → Int) (p : Array Nat) (i : Nat) : Int := key (p.getD i 0)
theorem getD_q (p : Array Nat) (i : Nat) : p.getD i 0 = (p[i]?).getD 0 := by simp [Array.getD_eq_getD_getElem?]
theorem KK_rev {p : Array Nat} {i j : Nat} (hj : j ≤ p.size) (k : Nat) : KK key (kas_rev p i j) k = if i ≤ k ∧ k < j then KK key p (i + j - 1 - k) else KK key p k := by
 unfold KK kas_rev
 rw [getD_q, getElem?_mirror_all hj]
 split <;> rw [getD_q]
theorem KK_bub {p : Array Nat} {k d : Nat} (hk : k < p.size) (hd : d ≤ k) (i : Nat) : KK key (bubble p k d) i = if i = k - d then KK key p k else if k - d < i ∧ i ≤ k then KK key p (i - 1) else KK key p i := by
 unfold KK
 rw [getD_q, getD_q p k, getD_q p (i - 1), getD_q p i, getElem?_bubble hk d hd]
 split
 ·rfl
 ·split <;> rfl
def Srtd (key : Nat → Int) (p : Array Nat) (m : Nat) : Prop := ∀ i j, i ≤ j → j < m → KK key p i ≤ KK key p j
def Down (key : Nat → Int) (p : Array Nat) (m : Nat) : Prop := ∀ i j, i ≤ j → j < m → KK key p j ≤ KK key p i
theorem Pm.rev {p : Array Nat} (h : Pm n p) (i j : Nat) : Pm n (kas_rev p i j) := h.of (mirror_perm _ _ _ _)
theorem ok_asc {p : Array Nat} (hp : Pm n p) : ∀ (f m : Nat), 1 ≤ m → m + f ≤ n → Srtd key p m → Ok n key (kas_asc p f m) (fun r => m ≤ r ∧ r ≤ m + f ∧ Srtd key p r ∧ (r = m + f ∨ KK key p r < KK key p (r - 1)))
 | 0, m, _, _, hs => ⟨Nat.le_refl _, Nat.le_refl _, hs, .inl rfl⟩
 | f + 1, m, h1, hm, hs => by
  refine ⟨hp.lt (by omega), hp.lt (by omega), ?_⟩
  by_cases c : key (p.getD m 0) < key (p.getD (m - 1) 0)
  ·rw [decide_eq_true c]; dsimp only; rw [if_pos rfl]
   exact ⟨Nat.le_refl _, by omega, hs, .inr c⟩
  ·rw [decide_eq_false c]; dsimp only; rw [if_neg Bool.false_ne_true]
   refine Ok.mono (fun r ⟨a, b, d, e⟩ => ⟨by omega, by omega, d, ?_⟩) (ok_asc hp f (m + 1) (by omega) (by omega) ?_)
   ·intro i j hij hj
    by_cases hjm : j < m
    ·exact hs i j hij hjm
    ·have : j = m := by omega
     subst this
     by_cases hi : i = j
     ·subst hi; exact Int.le_refl _
     ·have q := hs i (j - 1) (by omega) (by omega)
      have c' : KK key p (j - 1) ≤ KK key p j := by unfold KK; omega
      omega
   ·rcases e with e | e
    ·exact .inl (by omega)
    ·exact .inr e
theorem ok_tail3 {p : Array Nat} (hp : Pm n p) {m : Nat} (h1 : 1 ≤ m) (hm : m ≤ n) (hd : Down key p m) : Ok n key (kas_tail3 m n p) (fun r => Pm n r.2 ∧ 1 ≤ r.1 ∧ r.1 ≤ n ∧ Srtd key r.2 r.1) := by
 refine Ok.bind (Ok.mono (fun r ⟨a, b, c, _⟩ => ?_) (ok_asc (hp.rev 0 m) (n - m) m h1 (by omega) ?_))
 ·intro i j hij hj
  have hs := hp.size
  rw [KK_rev (by omega), KK_rev (by omega), if_pos (by omega), if_pos (by omega)]
  exact hd _ _ (by omega) (by omega)
 ·exact ⟨hp.rev 0 m, by show 1 ≤ r; omega, by show r ≤ n; omega, c⟩
theorem KK_rev_eq {p : Array Nat} {m q : Nat} (hm : m ≤ p.size) (he : ∀ i, m - (q + 1) ≤ i → i < m → KK key p i = KK key p (m - 1)) (k : Nat) : KK key (kas_rev p (m - (q + 1)) m) k = KK key p k := by
 rw [KK_rev hm]
 by_cases c : m - (q + 1) ≤ k ∧ k < m
 ·rw [if_pos c, he k c.1 c.2, he _ (by omega) (by omega)]
 ·rw [if_neg c]
theorem ok_desc : ∀ (f : Nat) {p : Array Nat} (m q : Nat), Pm n p → 1 ≤ m → m + f ≤ n → Down key p m → q + 1 ≤ m → (∀ i, m - (q + 1) ≤ i → i < m → KK key p i = KK key p (m - 1)) →
  Ok n key (kas_desc f p m q) (fun r => Pm n r.1 ∧ 1 ≤ r.2.1 ∧ r.2.1 ≤ n ∧ Down key r.1 r.2.1 ∧ r.2.2 + 1 ≤ r.2.1 ∧ ∀ i, r.2.1 - (r.2.2 + 1) ≤ i → i < r.2.1 → KK key r.1 i = KK key r.1 (r.2.1 - 1))
 | 0, p, m, q, hp, h1, hm, hd, hq, he => ⟨hp, h1, by show m ≤ n; omega, hd, hq, he⟩
 | f + 1, p, m, q, hp, h1, hm, hd, hq, he => by
  refine ⟨hp.lt (by omega), hp.lt (by omega), ?_⟩
  have hs := hp.size
  have one : ∀ (p' : Array Nat), (∀ k, KK key p' k = KK key p k) → KK key p m ≤ KK key p (m - 1) → Down key p' (m + 1) := fun p' hk c i j hij hj => by
   rw [hk, hk]
   by_cases hjm : j < m
   ·exact hd i j hij hjm
   ·have : j = m := by omega
    subst this
    by_cases hi : i = j
    ·subst hi; exact Int.le_refl _
    ·have := hd i (j - 1) (by omega) (by omega); omega
  by_cases c : key (p.getD m 0) < key (p.getD (m - 1) 0)
  ·rw [decide_eq_true c]; dsimp only; rw [if_pos rfl]
   have c1 : KK key p m ≤ KK key p (m - 1) := by unfold KK; omega
   by_cases hq0 : q > 0
   ·rw [if_pos hq0]
    exact ok_desc f (m + 1) 0 (hp.rev _ _) (by omega) (by omega) (one _ (KK_rev_eq (by omega) he) c1) (by omega) fun i a b => by congr 1; omega
   ·rw [if_neg hq0]
    exact ok_desc f (m + 1) 0 hp (by omega) (by omega) (one _ (fun _ => rfl) c1) (by omega) fun i a b => by congr 1; omega
  ·rw [decide_eq_false c]; dsimp only; rw [if_neg Bool.false_ne_true]
   refine ⟨hp.lt (by omega), hp.lt (by omega), ?_⟩
   by_cases d : key (p.getD (m - 1) 0) < key (p.getD m 0)
   ·rw [decide_eq_true d]; dsimp only; rw [if_pos rfl]
    exact ⟨hp, h1, by show m ≤ n; omega, hd, hq, he⟩
   ·rw [decide_eq_false d]; dsimp only; rw [if_neg Bool.false_ne_true]
    have e : KK key p m = KK key p (m - 1) := by unfold KK; omega
    refine ok_desc f (m + 1) (q + 1) hp (by omega) (by omega) (one _ (fun _ => rfl) (by omega)) (by omega) fun i a b => ?_
    rw [show m + 1 - 1 = m by omega]
    by_cases hi : i = m
    ·subst hi; rfl
    ·rw [e]; exact he i (by omega) (by omega)
theorem ok_descPart {p : Array Nat} (hp : Pm n p) {m : Nat} (hm : m + 1 ≤ n) (hd : Down key p (m + 1)) : Ok n key (kas_descPart m n p) (fun r => Pm n r.2 ∧ 1 ≤ r.1 ∧ r.1 ≤ n ∧ Srtd key r.2 r.1) := by
 refine Ok.bind (Ok.mono (fun r ⟨a, b, c, d, e, g⟩ => ?_) (ok_desc (n - (m + 1)) (m + 1) 0 hp (by omega) (by omega) hd (by omega) fun i x y => by congr 1; omega))
 have hs := a.size
 by_cases q : r.2.2 > 0
 ·rw [if_pos q]
  exact ok_tail3 (a.rev _ _) b c fun i j x y => by rw [KK_rev_eq (by omega) g, KK_rev_eq (by omega) g]; exact d i j x y
 ·rw [if_neg q]
  exact ok_tail3 a b c d
theorem ok_count {p : Array Nat} (hp : Pm n p) (h1 : 1 ≤ n) : Ok n key (kas_count n p) (fun r => Pm n r.2 ∧ 1 ≤ r.1 ∧ r.1 ≤ n ∧ Srtd key r.2 r.1) := by
 refine Ok.bind (Ok.mono (fun m ⟨a, b, c, d⟩ => ?_) (ok_asc hp (n - 1) 1 (Nat.le_refl _) (by omega) fun i j x y => by have : i = j := (by omega); subst this; exact Int.le_refl _))
 by_cases e : m = n
 ·rw [if_pos (by simpa using e)]
  exact ⟨hp, a, by omega, c⟩
 ·rw [if_neg (by simpa using e)]
  have lt : KK key p m < KK key p (m - 1) := by
   rcases d with d | d
   ·omega
   ·exact d
  have hs := hp.size
  by_cases g : m > 1
  ·rw [if_pos g]
   refine ⟨hp.lt (by omega), hp.lt (by omega), ?_⟩
   by_cases z : key (p.getD 0 0) < key (p.getD (m - 1) 0)
   ·rw [decide_eq_true z]; dsimp only; rw [if_pos rfl]
    exact ⟨hp, a, by show m ≤ n; omega, c⟩
   ·rw [decide_eq_false z]; dsimp only; rw [if_neg Bool.false_ne_true]
    refine ok_descPart (hp.rev _ _) (by omega) ?_
    have z' : KK key p (m - 1) ≤ KK key p 0 := by unfold KK; omega
    have all : ∀ i, i < m → KK key p i = KK key p 0 := fun i hi => by
     have q1 := c 0 i (by omega) hi
     have q2 := c i (m - 1) (by omega) (by omega)
     omega
    intro i j hij hj
    rw [KK_rev (by omega), KK_rev (by omega)]
    by_cases hjm : j < m
    ·rw [if_pos (by omega), if_pos (by omega)]
     have u1 := all (0 + m - 1 - j) (by omega)
     have u2 := all (0 + m - 1 - i) (by omega)
     omega
    ·have : j = m := by omega
     subst this
     rw [if_neg (by omega)]
     by_cases hi : i < j
     ·rw [if_pos (by omega)]
      have u1 := all (j - 1) (by omega)
      have u2 := all (0 + j - 1 - i) (by omega)
      omega
     ·rw [if_neg (by omega)]
      have : i = j := by omega
      subst this; exact Int.le_refl _
  ·rw [if_neg g]
   have m1 : m = 1 := by omega
   subst m1
   refine ok_descPart hp (by omega) fun i j hij hj => ?_
   by_cases hi : i = j
   ·subst hi; exact Int.le_refl _
   ·have i0 : i = 0 := by omega
    have j1 : j = 1 := by omega
    subst i0; subst j1
    exact Int.le_of_lt lt
theorem ok_place {p : Array Nat} (hp : Pm n p) {k : Nat} (hk : k < n) (hs : Srtd key p k) : ∀ (f l r : Nat), l ≤ r → r ≤ k → r - l ≤ f → (∀ i, i < l → KK key p i ≤ KK key p k) → (∀ i, r ≤ i → i < k → KK key p k < KK key p i) →
  Ok n key (kas_place p k f l r) (fun l => l ≤ k ∧ (∀ i, i < l → KK key p i ≤ KK key p k) ∧ ∀ i, l ≤ i → i < k → KK key p k < KK key p i)
 | 0, l, r, h1, h2, h3, lo, hi => ⟨by omega, lo, fun i a b => hi i (by omega) b⟩
 | f + 1, l, r, h1, h2, h3, lo, hi => by
  unfold kas_place
  by_cases c : l ≥ r
  ·rw [if_pos c]
   exact ⟨by omega, lo, fun i a b => hi i (by omega) b⟩
  ·rw [if_neg c]
   refine ⟨hp.lt hk, hp.lt (by omega), ?_⟩
   by_cases d : key (p.getD k 0) < key (p.getD ((l + r) / 2) 0)
   ·rw [decide_eq_true d]; dsimp only; rw [if_pos rfl]
    refine ok_place hp hk hs f l ((l + r) / 2) (by omega) (by omega) (by omega) lo fun i a b => ?_
    have := hs ((l + r) / 2) i a b
    have d' : KK key p k < KK key p ((l + r) / 2) := d
    omega
   ·rw [decide_eq_false d]; dsimp only; rw [if_neg Bool.false_ne_true]
    refine ok_place hp hk hs f ((l + r) / 2 + 1) r (by omega) h2 (by omega) (fun i a => ?_) hi
    have := hs i ((l + r) / 2) (by omega) (by omega)
    have d' : KK key p ((l + r) / 2) ≤ KK key p k := by unfold KK; omega
    omega
theorem ok_bin : ∀ (f : Nat) {p : Array Nat} (k : Nat), Pm n p → k + f = n → Srtd key p k → Ok n key (kas_bin f p k) (fun p => Pm n p ∧ Srtd key p n)
 | 0, p, k, hp, hk, hs => ⟨hp, by have : k = n := (by omega); rw [← this]; exact hs⟩
 | f + 1, p, k, hp, hk, hs => by
  refine Ok.bind (Ok.mono (fun l ⟨a, lo, hi⟩ => ?_) (ok_place hp (by omega) hs k 0 k (by omega) (Nat.le_refl _) (by omega) (fun i h => by omega) fun i h1 h2 => by omega))
  have hz := hp.size
  refine ok_bin f (k + 1) (hp.of (bubble_perm _ _ _)) (by omega) fun i j hij hj => ?_
  rw [KK_bub (by omega) (by omega), KK_bub (by omega) (by omega)]
  rw [show k - (k - l) = l by omega]
  by_cases i1 : i = l
  ·rw [if_pos i1]
   by_cases j1 : j = l
   ·rw [if_pos j1]; exact Int.le_refl _
   ·rw [if_neg j1, if_pos (by omega)]
    exact Int.le_of_lt (hi (j - 1) (by omega) (by omega))
  ·rw [if_neg i1]
   by_cases i2 : l < i ∧ i ≤ k
   ·rw [if_pos i2, if_neg (by omega), if_pos (by omega)]
    exact hs (i - 1) (j - 1) (by omega) (by omega)
   ·rw [if_neg i2]
    by_cases j1 : j = l
    ·rw [if_pos j1]; exact lo i (by omega)
    ·rw [if_neg j1]
     by_cases j2 : l < j ∧ j ≤ k
     ·rw [if_pos j2]; exact hs i (j - 1) (by omega) (by omega)
     ·rw [if_neg j2]; exact hs i j hij (by omega)
theorem ok_sort (h1 : 1 ≤ n) : Ok n key (kas_sort n) (fun p => Pm n p ∧ Srtd key p n) := by
 refine Ok.bind (Ok.mono (fun r ⟨a, b, c, d⟩ => ?_) (ok_count ⟨Array.Perm.refl _⟩ h1))
 by_cases e : r.1 < n
 ·rw [if_pos e]
  refine ok_bin _ _ a (by omega) ?_
  rw [show max r.1 1 = r.1 by omega]
  exact d
 ·rw [if_neg e]
  exact ⟨a, by have : r.1 = n := (by omega); rw [← this]; exact d⟩
end
end Srt
set_option maxHeartbeats 4100000
namespace Srt
open PySem PyProof.Rows PySem.Calls PySem.W
section
variable {prog : Program} {wo : World} {A : Around} {E : Value → Shared → Prop} {s : Shared}
def Asks (prog : Program) (wo : World) (A : Around) (κ : SortKind) (zs : List Value) (key : Nat → Int) (s : Shared) : Prop :=
 (∀ (E : Value → Shared → Prop) (R : SortKind → Shared → Prop), R κ s → wpAny (model prog wo) A (keyKind' zs.toArray) R E s) ∧
 ∀ (i j : Nat) (C : Bool → Shared → Prop), i < zs.length → j < zs.length → C (decide (key i < key j)) s → kas_ask prog wo A κ zs i j C s
abbrev outOf (zs : List Value) (p : Array Nat) : Array Value := List.toArray (p.toList.map fun i => zs.getD i Value.none)
theorem out_id (zs : List Value) : outOf zs (List.range zs.length).toArray = zs.toArray := by
 unfold outOf
 congr 1
 apply List.ext_getElem?
 intro i
 by_cases h : i < zs.length
 ·simp [h]
 ·simp [h]
theorem list_sort_by {a : Addr} {zs : List Value} {n : Nat} {κ : SortKind} {key : Nat → Int} {P : PySem.Fin → Shared → Prop} (oa : s.heap.get? a = some (seqObj "list" zs.toArray n)) (h64 : zs.length < 64)
  (hk : 2 ≤ zs.length → ∀ h', (∀ b o, b ≠ a → s.heap.get? b = some o → h'.get? b = some o) → Asks prog wo A κ zs key { s with heap := h' })
  (h : ∀ p, Pm zs.length p → Srtd key p zs.length → P (.done (.ret .none)) { s with heap := sortedHeap s.heap a zs (outOf zs p) }) :
  wpAny (model prog wo) A (Builtin.«list.sort» ⟨[.ref a], []⟩) P E s := by
 rw [list_sort_plain]
 have la : a < s.heap.objs.size := Heap.lt_size oa
 refine wpAny_bind (listItems_at oa rfl ?_)
 refine wpAny_bind (listUpdate_at oa rfl ?_ (by rw [List.size_toArray, sizeLine_eq]; omega) (Nat.zero_le _))
 obtain ⟨ep, oa1⟩ : ∃ ep, (s.heap.update a (Obj.mapSeq fun _ => #[])).get? a = some (seqObj "list" #[] ep) := ⟨_, get?_update_seq oa (fun _ => #[])⟩
 refine wpAny_bind (seqEpoch_at oa1 rfl ?_)
 refine wpAny_bind (wpAny_newTuple ?_ (by show zs.length ≤ _; rw [sizeLine_eq]; omega))
 refine wpAny_bind (wpAny_newList (wpAny_holding ?_) (Nat.zero_le _))
 have oa6 : (((s.heap.update a (Obj.mapSeq fun _ => #[])).push (seqObj "tuple" zs.toArray 0)).push (seqObj "list" #[] 0)).get? a = some (seqObj "list" #[] ep) := by
  rw [Heap.get?_push_ne _ _ _ (by rw [size_push', Heap.size_update]; exact Nat.ne_of_lt (Nat.lt_succ_of_lt la)), Heap.get?_push_ne _ _ _ (by rw [Heap.size_update]; exact Nat.ne_of_lt la)]
  exact oa1
 show wpAny (model prog wo) A _ P E { s with heap := ((s.heap.update a (Obj.mapSeq fun _ => #[])).push (seqObj "tuple" zs.toArray 0)).push (seqObj "list" #[] 0) }
 dsimp only
 have lz : zs.toArray.size = zs.length := by simp
 by_cases g2 : zs.toArray.size < 2
 ·rw [if_pos g2, if_pos g2]
  refine wpAny_bind (wpAny_pure ?_); rw [StateT.run_pure]; refine wpAny_bind (wpAny_pure ?_); dsimp only
  refine wpAny_bind (seqEpoch_at oa6 rfl ?_)
  refine wpAny_bind (listUpdate_at oa6 rfl ?_ (Nat.zero_le _) (by rw [Array.size_map]; show (pairsOf zs).size ≤ _; rw [pairsOf_size, sizeLine_eq]; omega))
  simp only [if_false, Bool.false_eq_true, bne_self_eq_false]
  have q := h (List.range zs.length).toArray ⟨Array.Perm.refl _⟩ (fun i j hij hj => by have : i = j := (by omega); subst this; exact Int.le_refl _)
  rw [out_id] at q
  refine wpAny_pure ?_
  have e : (arrOf (SortSt.mk' general' (zs.toArray.zip zs.toArray) #[] 7 none)).map (·.2) = zs.toArray := by
   show (zs.toArray.zip zs.toArray).map (·.2) = zs.toArray
   rw [Array.map_snd_zip]
   exact Nat.le_refl _
  rw [e]
  exact q
 ·rw [if_neg g2, if_neg g2]
  have h2' : 2 ≤ zs.length := by omega
  obtain ⟨ak, ac⟩ := hk h2' (((s.heap.update a (Obj.mapSeq fun _ => #[])).push (seqObj "tuple" zs.toArray 0)).push (seqObj "list" #[] 0)) fun b o hb e => Heap.get?_push_of_some _ (Heap.get?_push_of_some _ (by rw [Heap.get?_update_ne _ _ _ _ hb]; exact e))
  refine wpAny_bind (ak _ _ ?_)
  have ask : (kas_sort zs.length).kasWp (kas_ask prog wo A κ zs) (fun p s' => s' = { s with heap := ((s.heap.update a (Obj.mapSeq fun _ => #[])).push (seqObj "tuple" zs.toArray 0)).push (seqObj "list" #[] 0) } ∧ Pm zs.length p ∧ Srtd key p zs.length)
    { s with heap := ((s.heap.update a (Obj.mapSeq fun _ => #[])).push (seqObj "tuple" zs.toArray 0)).push (seqObj "list" #[] 0) } :=
   Ok.wp (n := zs.length) (key := key) ac (fun p hp => ⟨rfl, hp⟩) (ok_sort (by omega))
  rw [kas_ask_eq] at ask
  have est : SortSt.mk' κ (zs.toArray.zip zs.toArray) #[] 7 none = kas_st κ (pairsOf zs) (List.toArray (List.range zs.length)) := by
   have e := kas_range (pairsOf zs)
   rw [pairsOf_size] at e
   show SortSt.mk' κ (pairsOf zs) #[] 7 none = SortSt.mk' κ ((List.toArray (List.range zs.length)).map (kas_item (pairsOf zs))) #[] 7 none
   rw [e]
  have rn := kas_runs (E := E) (Q := fun _ st' s' => ∃ p : Array Nat, p.size = zs.length ∧ arrOf st' = p.map (kas_item (pairsOf zs)) ∧ failedOf st' = none ∧ (s' = { s with heap := ((s.heap.update a (Obj.mapSeq fun _ => #[])).push (seqObj "tuple" zs.toArray 0)).push (seqObj "list" #[] 0) } ∧ Pm zs.length p ∧ Srtd key p zs.length))
   h2' h64 (fun p' st' s' a1 a2 a3 a4 => ⟨p', a1, a2, a3, a4⟩) ask
  rw [← est] at rn
  refine wpAny_bind (wpAny_mono rn ?_ fun _ _ e => e)
  rintro ⟨⟨⟩, st'⟩ s' ⟨p, hp, ra, hf, rfl, pm, sr⟩
  dsimp only
  have hout : (arrOf st').map (·.2) = outOf zs p := by
   apply Array.toList_inj.mp
   rw [ra, Array.map_map, Array.toList_map]
   exact List.map_congr_left fun i _ => by show (kas_item (pairsOf zs) i).2 = _; rw [kas_item_eq]
  have hso : (outOf zs p).size = zs.length := by rw [List.size_toArray, List.length_map, Array.length_toList, hp]
  rw [hout]
  refine wpAny_bind (seqEpoch_at oa6 rfl ?_)
  refine wpAny_bind (listUpdate_at oa6 rfl ?_ (Nat.zero_le _) (Nat.le_trans (Nat.le_of_eq hso) (by rw [sizeLine_eq]; omega)))
  rw [hf]
  simp only [if_false, Bool.false_eq_true, bne_self_eq_false]
  exact wpAny_pure (h p pm sr)
theorem sorted_by {l : Addr} {zs : List Value} {κ : SortKind} {key : Nat → Int} {R : Value → Shared → Prop} (il : s.heap.IsList l zs.toArray) (h64 : zs.length < 64)
  (hk : 2 ≤ zs.length → ∀ (A' : Around) (h' : Heap), (∀ b o, s.heap.get? b = some o → h'.get? b = some o) → Asks prog wo A' κ zs key { s with heap := h' })
  (h : ∀ p, Pm zs.length p → Srtd key p zs.length → R (.ref (s.heap.objs.size + 1)) { s with heap := sortedAll s.heap zs (outOf zs p) }) :
  wpAny (model prog wo) A (call (.builtin "sorted") [.ref l]) R E s := by
 apply Calls.call_function_entry kind_sorted plain_sorted entry_sorted (args_sorted1 _)
 unfold Builtin.«sorted»
 refine wpAny_bind (m := checkCount "sorted" 1 1 _) (wpAny_pure ?_); refine wpAny_bind (collect_list il ?_ (by rw [sizeLine_eq]; omega))
 refine wpAny_bind (wpAny_newList ?_ (by rw [sizeLine_eq]; omega))
 have lz : ((s.heap.push (seqObj "list" #[] 0)).update s.heap.objs.size (Obj.mapSeq (· ++ zs.toArray))).objs.size = s.heap.objs.size + 1 := by
  rw [Heap.size_update]; exact size_push' _ _
 have oL : (((s.heap.push (seqObj "list" #[] 0)).update s.heap.objs.size (Obj.mapSeq (· ++ zs.toArray))).push (seqObj "list" zs.toArray 0)).get? (s.heap.objs.size + 1) = some (seqObj "list" zs.toArray 0) := by
  rw [← lz]; exact Heap.get?_push_size _ rfl
 show wpAny _ _ _ _ _ { s with heap := ((s.heap.push (seqObj "list" #[] 0)).update s.heap.objs.size (Obj.mapSeq (· ++ zs.toArray))).push (seqObj "list" zs.toArray 0) }
 rw [lz]
 refine wpAny_bind (wpAny_holding (wpAny_call_entry slot_list_sort ⟨_, oL, rfl⟩ entry_list_sort (list_sort_by (κ := κ) (key := key) oL h64 (fun g2 h' kp => hk g2 _ h' fun b o e => ?_) fun p a1 a2 => ⟨_, rfl, ?_⟩) (args_list_sort _)))
 ·have lb : b < s.heap.objs.size := Heap.lt_size e
  refine kp b o (Nat.ne_of_lt (Nat.lt_succ_of_lt lb)) ?_
  rw [Heap.get?_push_ne _ _ _ (by rw [lz]; exact Nat.ne_of_lt (Nat.lt_succ_of_lt lb)), Heap.get?_update_ne _ _ _ _ (Nat.ne_of_lt lb), Heap.get?_push_ne _ _ _ (Nat.ne_of_lt lb)]
  exact e
 ·exact wpAny_pure ⟨_, rfl, h p a1 a2⟩
end
end Srt
set_option maxHeartbeats 4100000
namespace Srt
open PySem PyProof.Rows PySem.Calls PySem.W
theorem countP_le {α : Type} {p q : α → Bool} (h : ∀ x, p x = true → q x = true) (l : List α) : l.countP p ≤ l.countP q := by
 induction l with
 | nil => exact Nat.le_refl _
 | cons a r ih =>
  rw [List.countP_cons, List.countP_cons]
  by_cases c : p a = true
  ·rw [if_pos c, if_pos (h a c)]; omega
  ·rw [if_neg c]; omega
theorem countP_lt {α : Type} {p q : α → Bool} (h : ∀ x, p x = true → q x = true) {x : α} : ∀ {l : List α}, x ∈ l → p x = false → q x = true → l.countP p < l.countP q
 | a :: r, hx, h1, h2 => by
  rw [List.countP_cons, List.countP_cons]
  have le := countP_le h r
  rcases List.mem_cons.mp hx with rfl | hx
  ·rw [if_neg (by rw [h1]; exact Bool.false_ne_true), if_pos h2]; omega
  ·have ih := countP_lt h hx h1 h2
   by_cases c : p a = true
   ·rw [if_pos c, if_pos (h a c)]; omega
   ·rw [if_neg c]; omega
def rank (ls : List (List Int)) (i : Nat) : Int := (ls.countP fun z => decide (z < ls.getD i []) : Nat)
theorem lt_le {x y z : List Int} (h : z < y) (h2 : ¬ x < y) : z < x := by
 by_cases c : z < x
 ·exact c
 ·exact absurd (List.lt_of_le_of_lt (List.not_lt.mp c) h) h2
theorem rank_lt {ls : List (List Int)} {i j : Nat} (hi : i < ls.length) : decide (rank ls i < rank ls j) = decide (ls.getD i [] < ls.getD j []) := by
 have hm : ls.getD i [] ∈ ls := by
  rw [List.getD_eq_getElem?_getD, List.getElem?_eq_getElem hi]; exact List.getElem_mem hi
 unfold rank
 by_cases c : ls.getD i [] < ls.getD j []
 ·rw [decide_eq_true c]
  refine decide_eq_true (Int.ofNat_lt.mpr (countP_lt (fun z hz => ?_) hm ?_ ?_))
  ·exact decide_eq_true (List.lt_trans (of_decide_eq_true hz) c)
  ·exact decide_eq_false (List.lt_irrefl _)
  ·exact decide_eq_true c
 ·rw [decide_eq_false c]
  refine decide_eq_false fun z => ?_
  have := countP_le (p := fun z => decide (z < ls.getD j [])) (q := fun z => decide (z < ls.getD i [])) (fun z hz => decide_eq_true (lt_le (of_decide_eq_true hz) c)) ls
  omega
section
variable {prog : Program} {w : World} {A : Around} {E : Value → Shared → Prop} {s : Shared} {Q : Bool → Shared → Prop}
theorem kat_ints : ∀ {xs ys : List Value} {ns ms : List Int} (i : Nat), IntsAre xs ns → IntsAre ys ms → Q (decide (ns < ms)) s → KatLex prog w A true (decide (xs.length < ys.length)) Q (xs.zip ys) i s
 | _, _, _, _, i, .nil, .nil, h => by
  refine kat_nil ?_
  exact h
 | _, _, _, _, i, .nil, .cons (vs := ys) (ns := ms) m u y, h => by
  refine kat_nil ?_
  have e : decide (([] : List Int) < m :: ms) = true := decide_eq_true (List.Lex.nil)
  rw [e] at h
  have e2 : decide (([] : List Value).length < (Value.int m u :: ys).length) = true := by simp
  rw [e2]; exact h
 | _, _, _, _, i, .cons (vs := xs) (ns := ns) n t x, .nil, h => by
  refine kat_nil ?_
  have e : decide (n :: ns < ([] : List Int)) = false := decide_eq_false (List.not_lt_nil _)
  rw [e] at h
  have e2 : decide ((Value.int n t :: xs).length < ([] : List Value).length) = false := by simp
  rw [e2]; exact h
 | _, _, _, _, i, .cons (vs := xs) (ns := ns) n t x, .cons (vs := ys) (ns := ms) m u y, h => by
  have ef : decide ((Value.int n t :: xs).length < (Value.int m u :: ys).length) = decide (xs.length < ys.length) := by
   simp only [List.length_cons, Nat.add_lt_add_iff_right]
  rw [ef]
  refine kat_cons (wpAny_eqBool_int ?_)
  by_cases c : n = m
  ·subst c
   rw [beq_self_eq_true]
   refine kat_yes (kat_ints (i + 1) x y ?_)
   have e : decide (n :: ns < n :: ms) = decide (ns < ms) := by
    have : (n :: ns < n :: ms) ↔ ns < ms := by rw [List.cons_lt_cons_iff]; simp
    simp only [this]
   rw [e] at h; exact h
  ·rw [beq_eq_false_iff_ne.mpr c]
   refine kat_no ?_
   have e : decide (n :: ns < m :: ms) = decide (n < m) := by
    have : (n :: ns < m :: ms) ↔ n < m := by rw [List.cons_lt_cons_iff]; simp [c]
    simp only [this]
   rw [e] at h
   cases z : (true && i == 0) with
   | true => exact oneLt_int h
   | false => exact kat_one _ _ (lt_int h)
structure TupI (h : Heap) (v : Value) (ns : List Int) : Prop where
 at' : ∃ a o xs n, v = .ref a ∧ h.get? a = some o ∧ o.cls = .type "tuple" ∧ o.data = .seq xs n ∧ IntsAre xs.toList ns
 ne : ns ≠ []
inductive TupsI (h : Heap) : List Value → List (List Int) → Prop
 | nil : TupsI h [] []
 | cons {v ns vs ls} : TupI h v ns → TupsI h vs ls → TupsI h (v :: vs) (ns :: ls)
theorem TupsI.keep {h h' : Heap} (k : ∀ b o, h.get? b = some o → h'.get? b = some o) : ∀ {vs ls}, TupsI h vs ls → TupsI h' vs ls
 | _, _, .nil => .nil
 | _, _, .cons ⟨⟨a, o, xs, n, e, ho, r⟩, ne⟩ t => .cons ⟨⟨a, o, xs, n, e, k _ _ ho, r⟩, ne⟩ (TupsI.keep k t)
theorem TupsI.len {h : Heap} : ∀ {vs ls}, TupsI h vs ls → vs.length = ls.length
 | _, _, .nil => rfl
 | _, _, .cons _ t => by rw [List.length_cons, List.length_cons, t.len]
theorem TupsI.get {h : Heap} : ∀ {vs ls}, TupsI h vs ls → ∀ {i}, i < vs.length → TupI h (vs.getD i .none) (ls.getD i [])
 | _, _, .cons a t, 0, _ => a
 | _, _, .cons a t, i + 1, hi => by
  have := t.get (i := i) (by simpa using hi)
  simpa using this
theorem TupsI.kat {h : Heap} : ∀ {vs ls}, TupsI h vs ls → ∃ fs, KatTups h vs fs ∧ fs.length = vs.length ∧ ∀ v ∈ fs, ∃ n t, v = Value.int n t
 | _, _, .nil => ⟨[], KatTups.nil, rfl, fun v hv => absurd hv List.not_mem_nil⟩
 | _, _, .cons (ns := ns) ⟨⟨a, o, xs, n, e, ho, hc, hd, hi⟩, ne⟩ t => by
  obtain ⟨fs, k, l, q⟩ := t.kat
  subst e
  obtain ⟨xl⟩ := xs
  have hi : IntsAre xl ns := hi
  cases hi with
  | nil => exact absurd rfl ne
  | cons m u r =>
   refine ⟨.int m u :: fs, KatTups.cons ho hc hd rfl k, by rw [List.length_cons, List.length_cons, l], fun v hv => ?_⟩
   rcases List.mem_cons.mp hv with rfl | hv
   ·exact ⟨m, u, rfl⟩
   ·exact q v hv
theorem asks_tups {vs : List Value} {ls : List (List Int)} (h : TupsI s.heap vs ls) (h2 : 2 ≤ vs.length) : Asks prog w A (tuples' true) vs (rank ls) s := by
 refine ⟨fun E Q q => ?_, fun i j C hi hj q => ?_⟩
 ·obtain ⟨fs, k, l, ty⟩ := h.kat
  refine kat_kind (T := .type "int") k (by omega) (fun v hv => ?_) rfl q
  obtain ⟨n, t, rfl⟩ := ty v hv
  exact Looks.of_pure rfl
 ·obtain ⟨⟨a, o, xs, n, e1, ho, hc, hd, hx⟩, _⟩ := h.get hi
  obtain ⟨⟨a', o', ys, n', e2, ho', hc', hd', hy⟩, _⟩ := h.get hj
  unfold kas_ask
  rw [e1, e2]
  refine kat_lt ho hd ho' hd' ?_
  rw [rank_lt (by rw [← h.len]; exact hi)] at q
  exact kat_ints 0 hx hy q
end
end Srt
set_option maxHeartbeats 4100000
namespace L2
open PySem PySem.Spec PyProof.Rows Bg Srt
def TupV (K : PySem.W.Frag) (H : Hp) (v : V) (ns : List Int) : Prop := ∃ p, v = .ref p ∧ SqT K H p (ns.map V.int)
def rSortT (K : PySem.W.Frag) : List V → Hp → VK → Prop := fun xs H Q => ∃ l vs, ∃ ls : List (List Int), xs = [.ref l] ∧ SqL K H l vs ∧ Paired (TupV K H) vs ls ∧ (∀ ns ∈ ls, ns ≠ []) ∧ vs.length < 64 ∧
 ∀ (q : List Nat) p H', q.Perm (List.range vs.length) → (q.map fun i => ls.getD i []).Pairwise (fun a b => ¬ b < a) → New H p (.lst (q.map fun i => vs.getD i .non)) H' → Q (.ref p) H'
theorem ints_of : ∀ {ns : List Int} {us : List Value}, Vals (ns.map V.int) us → IntsAre us ns
 | [], _, .nil => .nil
 | n :: ns, _, .cons r t => by
  obtain ⟨k, rfl⟩ := r
  exact .cons n k (ints_of t)
section
variable {X : Cx} {K : PySem.W.Frag}
theorem tups_of {pins : List (Addr × Obj)} {σ : St} {H : Hp} {s : Shared} (I : Inv X pins σ H s) : ∀ {vs : List V} {us : List Value} {ls : List (List Int)}, Vals vs us → Paired (TupV X.K H) vs ls → (∀ ns ∈ ls, ns ≠ []) → TupsI s.heap us ls
 | _, _, _, .nil, p, _ => by
  cases p
  exact .nil
 | _, _, _, .cons r t, p, ne => by
  cases p with
  | cons a b =>
   obtain ⟨pt, rfl, hT⟩ := a
   obtain ⟨its, ri, ⟨o, ho, hc, n, hd⟩, _⟩ := I.tuple hT
   cases r
   exact .cons ⟨⟨pt, o, its.toArray, n, rfl, ho, hc, hd, by simpa using ints_of ri⟩, ne _ List.mem_cons_self⟩ (tups_of I t b fun ns h => ne ns (List.mem_cons_of_mem _ h))
theorem getD_vals : ∀ {vs : List V} {us : List Value}, Vals vs us → ∀ i, i < vs.length → RelV (vs.getD i .non) (us.getD i .none)
 | _, _, .cons r t, 0, _ => r
 | _, _, .cons r t, i + 1, hi => by
  have := getD_vals t i (by simpa using hi)
  simpa using this
theorem vals_map {vs : List V} {us : List Value} (r : Vals vs us) : ∀ (q : List Nat), (∀ i ∈ q, i < vs.length) → Vals (q.map fun i => vs.getD i .non) (q.map fun i => us.getD i .none)
 | [], _ => .nil
 | i :: q, h => .cons (getD_vals r i (h i List.mem_cons_self)) (vals_map r q fun j hj => h j (List.mem_cons_of_mem _ hj))
theorem call_sortedT (e : X.K = K) : CallR X (.builtin "sorted") (rSortT K) := by
 subst e
 intro pins s σ H xs us Q I r h
 obtain ⟨l, vs, ls, rfl, hL, hP, ne, h64, q⟩ := h
 obtain ⟨u, rfl, rx⟩ := vals1 r
 cases rx
 obtain ⟨its, r', pl, hz⟩ := I.list hL
 have hlen := r'.length
 have ht := tups_of I r' hP ne
 have hl2 := ht.len
 refine sorted_by (κ := tuples' true) (key := rank ls) pl.isList (by omega) (fun h2 A' h' kp => asks_tups (ht.keep kp) h2) fun p pm sr => ?_
 obtain ⟨c, hc⟩ := sortedAll_at s.heap its (outOf its p)
 have hs := pm.size
 have mem : ∀ i ∈ p.toList, i < its.length := fun i hi => by
  have := (Array.perm_iff_toList_perm.mp pm.perm).mem_iff (a := i)
  have h1 := this.mp hi
  simpa using h1
 have z : (p.toList.map fun i => vs.getD i V.non).length = its.length := by rw [List.length_map, Array.length_toList]; exact hs
 refine ⟨.ref (s.heap.objs.size + 1), _, I.laid (t' := s.toks) (o := .lst (p.toList.map fun i => vs.getD i V.non)) (fun b o eo => sortedAll_old eo) (Nat.le_succ _) ?_, rfl, ?_⟩
 ·exact ⟨by rw [z, ← hlen]; exact hz, _, c, vals_map r' p.toList (fun i hi => by rw [hlen]; exact mem i hi), hc⟩
 ·refine q p.toList _ _ ?_ ?_ (New.mk0 (I.hok.fresh (Nat.le_succ _)))
  ·have := Array.perm_iff_toList_perm.mp pm.perm
   rw [hlen]; exact this
  ·rw [List.pairwise_iff_getElem]
   intro i j hi hj hij
   rw [List.length_map, Array.length_toList, hs] at hi hj
   have q1 := sr i j (Nat.le_of_lt hij) hj
   unfold Srt.KK at q1
   have li := pm.lt hi
   have lj := pm.lt hj
   rw [List.getElem_map, List.getElem_map]
   have e1 : p.getD i 0 = p.toList[i]'(by rw [Array.length_toList, hs]; exact hi) := by simp [Array.getD, hs, hi]
   have e2 : p.getD j 0 = p.toList[j]'(by rw [Array.length_toList, hs]; exact hj) := by simp [Array.getD, hs, hj]
   rw [← e1, ← e2]
   intro c
   have z1 := rank_lt (ls := ls) (i := p.getD j 0) (j := p.getD i 0) (by omega)
   rw [decide_eq_true c] at z1
   have := of_decide_eq_true z1
   omega
end
end L2
set_option maxHeartbeats 4100000
namespace L2
open PySem PySem.Spec PyProof.Rows
section
variable {X : Cx} {K : PySem.W.Frag}
def rMaxL (K : PySem.W.Frag) : List V → Hp → VK → Prop := fun xs H Q => ∃ p ns, xs = [.ref p] ∧ SqL K H p (List.map V.int ns) ∧ 0 < ns.length ∧ ∀ M, M ∈ ns → (∀ a ∈ ns, a ≤ M) → Q (.int M) H
theorem call_maxL (e : X.K = K) (cm : X.calm = true) : CallR X (.builtin "max") (rMaxL K) := by
 subst e
 intro pins s σ H xs us Q I r h
 obtain ⟨p, ns, rfl, hL, hne, q⟩ := h
 obtain ⟨u, rfl, rx⟩ := vals1 r
 cases rx
 obtain ⟨its, r', pl, hz⟩ := I.list hL
 have hi := ints_of r'
 have hlen := hi.length
 obtain ⟨zs, ez⟩ := hi.allInts.items
 have hsz : 0 < zs.size := by
  have := congrArg Array.size ez
  rw [List.size_toArray] at this
  have e2 : (intItems zs).size = zs.size := by simp [intItems]
  omega
 have en : zs.toList.map (·.1) = ns := by
  rw [← nums_intItems, ← ez]
  exact hi.numsOf
 refine max_intList (xs := zs) (I.ok.hd cm) (by rw [← ez]; exact pl.isList) hsz fun v h' tk hv hk => ?_
 obtain ⟨t, rfl⟩ := intItems_at hv
 obtain ⟨h1, h2⟩ := argBest_gt (numAt zs) (zs.size - 1)
 refine ⟨.int _, H, I.kept hk, ⟨t, rfl⟩, q _ ?_ fun a ha => ?_⟩
 ·rw [numAt_eq, ← en]; exact getD_mem (by rw [List.length_map, Array.length_toList]; omega)
 ·rw [← en] at ha
  obtain ⟨j, hj, rfl⟩ := mem_getD ha
  rw [List.length_map, Array.length_toList] at hj
  rw [← numAt_eq]; exact h2 j (by omega)
end
end L2
set_option maxHeartbeats 4100000
namespace L2
open PySem PySem.Spec PyProof.Rows
section
variable {prog : Program} {w : World} {A : Around} {R : Result → Shared → Prop} {I : Addr} {fp wr : List Addr} {n : Nat} {P : Nat → Value → Prop} {St : Nat → Heap → Prop} {kw : List (Str × Value)}
end
section
variable {prog : Program} {w : World} {A : Around} {E : Value → Shared → Prop} {s : Shared} {xs : Array (Int × Tok)} {l : Addr}
end
section
variable {X : Cx} {K : PySem.W.Frag}
end
end L2
namespace L2
open PySem PySem.Spec PyProof.Rows
section
variable {X : Cx}
end
end L2
set_option maxHeartbeats 1000000
namespace Sm
open PySem
def BelowOk (xs : Array Nat) (j k : Nat) : Prop := k ≤ xs.size ∧ ∀ i (h : i < xs.size), xs[i] < j ↔ i < k
theorem up_lt {xs : Array Nat} (h : xs.toList.Pairwise (· < ·)) {i k : Nat} (hi : i < xs.size) (hk : k < xs.size) (ik : i < k) : xs[i] < xs[k] := by
 have := List.pairwise_iff_getElem.mp h i k (by simpa using hi) (by simpa using hk) ik
 simpa using this
theorem go_ok {xs : Array Nat} {j : Nat} (h : xs.toList.Pairwise (· < ·)) : ∀ (fuel lo hi : Nat), hi - lo ≤ fuel → lo ≤ hi → hi ≤ xs.size →
  (∀ i (z : i < xs.size), i < lo → xs[i] < j) → (∀ i (z : i < xs.size), hi ≤ i → j ≤ xs[i]) → BelowOk xs j (SetTable.below.go xs j fuel lo hi) := by
 intro fuel
 induction fuel with
 | zero =>
  intro lo hi a b c d e
  unfold SetTable.below.go
  have : lo = hi := by omega
  subst this
  exact ⟨c, fun i z => ⟨fun q => by
   rcases Nat.lt_or_ge i lo with g | g
   ·exact g
   ·have := e i z g
    omega, fun q => d i z q⟩⟩
 | succ f ih =>
  intro lo hi a b c d e
  unfold SetTable.below.go
  by_cases q : lo < hi
  ·rw [if_pos q]
   dsimp only
   have m1 : lo ≤ (lo + hi) / 2 := by omega
   have m2 : (lo + hi) / 2 < hi := by omega
   have m3 : (lo + hi) / 2 < xs.size := by omega
   have ge : xs.getD ((lo + hi) / 2) j = xs[(lo + hi) / 2] := by simp [Array.getD, m3]
   rw [ge]
   by_cases r : xs[(lo + hi) / 2] < j
   ·rw [if_pos r]
    refine ih _ _ (by omega) (by omega) c (fun i z hi' => ?_) e
    rcases Nat.lt_or_ge i ((lo + hi) / 2) with g | g
    ·have := up_lt h z m3 g
     omega
    ·have : i = (lo + hi) / 2 := by omega
     subst this
     exact r
   ·rw [if_neg r]
    refine ih _ _ (by omega) (by omega) (by omega) d (fun i z hi' => ?_)
    rcases Nat.lt_or_ge ((lo + hi) / 2) i with g | g
    ·have := up_lt h m3 z g
     omega
    ·have : i = (lo + hi) / 2 := by omega
     subst this
     omega
  ·rw [if_neg q]
   have : lo = hi := by omega
   subst this
   exact ⟨c, fun i z => ⟨fun q => by
    rcases Nat.lt_or_ge i lo with g | g
    ·exact g
    ·have := e i z g
     omega, fun q => d i z q⟩⟩
theorem below_ok {xs : Array Nat} (h : xs.toList.Pairwise (· < ·)) (j : Nat) : BelowOk xs j (SetTable.below xs j) :=
 go_ok h _ _ _ (by omega) (Nat.zero_le _) (Nat.le_refl _) (fun i z q => absurd q (Nat.not_lt_zero _)) (fun i z q => absurd z (by omega))
theorem below_at {xs : Array Nat} (h : xs.toList.Pairwise (· < ·)) {k : Nat} (hk : k < xs.size) : SetTable.below xs (xs[k]) = k := by
 obtain ⟨a, b⟩ := below_ok h xs[k]
 rcases Nat.lt_trichotomy (SetTable.below xs xs[k]) k with g | g | g
 ·have c := (b (SetTable.below xs xs[k]) (by omega)).mp (up_lt h (by omega) hk g)
  omega
 ·exact g
 ·have c := (b k hk).mpr g
  omega
theorem below_zero {xs : Array Nat} (h : xs.toList.Pairwise (· < ·)) : SetTable.below xs 0 = 0 := by
 obtain ⟨a, b⟩ := below_ok h 0
 rcases Nat.eq_zero_or_pos (SetTable.below xs 0) with g | g
 ·exact g
 ·have := (b 0 (by omega)).mpr g
  omega
theorem below_next {xs : Array Nat} (h : xs.toList.Pairwise (· < ·)) {k : Nat} (hk : k < xs.size) : SetTable.below xs (xs[k] + 1) = k + 1 := by
 obtain ⟨a, b⟩ := below_ok h (xs[k] + 1)
 have c := (b k hk).mp (by omega)
 rcases Nat.lt_or_ge (k + 1) (SetTable.below xs (xs[k] + 1)) with g | g
 ·have e := (b (k + 1) (by omega)).mpr g
  have := up_lt h hk (show k + 1 < xs.size by omega) (Nat.lt_succ_self _)
  omega
 ·omega
theorem has_nil (j : Nat) : SetTable.has #[] j = false := by
 unfold SetTable.has
 simp
theorem slot_empty {t : SetTable} (dm : t.dummies = #[]) {j : Nat} (h : j ∉ t.place.toList) : t.slot j = .empty := by
 unfold SetTable.slot
 have e : (t.place[SetTable.below t.place j]? == some j) = false := by
  rw [beq_eq_false_iff_ne]
  intro c
  exact h (by simpa using Array.mem_of_getElem? c)
 dsimp only
 rw [e, dm, has_nil]
 rfl
theorem slot_live {t : SetTable} (up : t.place.toList.Pairwise (· < ·)) {j : Nat} (h : j ∈ t.place.toList) : ∃ i, t.slot j = .live i := by
 obtain ⟨k, hk, e⟩ := List.getElem_of_mem h
 have hk' : k < t.place.size := by simpa using hk
 have e' : t.place[k] = j := by simpa using e
 unfold SetTable.slot
 have q : SetTable.below t.place j = k := by rw [← e']; exact below_at up hk'
 dsimp only
 rw [q]
 have : (t.place[k]? == some j) = true := by simp [hk', e']
 rw [this]
 exact ⟨k, rfl⟩
def adv (mask : Nat) (p : SetTable.Probe) : SetTable.Probe :=
 if 0 < p.more then { p with more := p.more - 1, j := p.j + 1 } else
 { p with j := (SetTable.leap mask p.i p.perturb).1, more := SetTable.runEnd mask (SetTable.leap mask p.i p.perturb).1 - (SetTable.leap mask p.i p.perturb).1, i := (SetTable.leap mask p.i p.perturb).1, perturb := (SetTable.leap mask p.i p.perturb).2 }
theorem adv_eq (t : SetTable) (p : SetTable.Probe) : t.advance p = adv t.mask p := by
 unfold SetTable.advance adv
 rfl
def nth (mask : Nat) (p : SetTable.Probe) : Nat → SetTable.Probe
 | 0 => p
 | k + 1 => nth mask (adv mask p) k
theorem adv_dummy (m : Nat) (p : SetTable.Probe) : (adv m p).dummy = p.dummy := by
 unfold adv
 split <;> rfl
theorem go_finds {t : SetTable} (dm : t.dummies = #[]) (up : t.place.toList.Pairwise (· < ·)) (h : Int) : ∀ (k fuel : Nat) (p : SetTable.Probe), k < fuel → p.dummy = none → (nth t.mask p k).j ∉ t.place.toList →
  ∃ j, j ∉ t.place.toList ∧ SetTable.probe.go t (fun _ => h + 1) h fuel p = some (.empty j none) := by
 intro k
 induction k with
 | zero =>
  intro fuel p hf hd hn
  obtain ⟨f, rfl⟩ : ∃ f, fuel = f + 1 := ⟨fuel - 1, by omega⟩
  unfold SetTable.probe.go
  have hn' : p.j ∉ t.place.toList := hn
  refine ⟨p.j, hn', ?_⟩
  rw [slot_empty dm hn', hd]
 | succ k ih =>
  intro fuel p hf hd hn
  obtain ⟨f, rfl⟩ : ∃ f, fuel = f + 1 := ⟨fuel - 1, by omega⟩
  unfold SetTable.probe.go
  by_cases c : p.j ∈ t.place.toList
  ·obtain ⟨i, e⟩ := slot_live up c
   rw [e]
   dsimp only
   have : (h + 1 == h) = false := by rw [beq_eq_false_iff_ne]; omega
   rw [this]
   rw [adv_eq]
   exact ih f (adv t.mask p) (by omega) (by rw [adv_dummy]; exact hd) hn
  ·rw [slot_empty dm c, hd]
   exact ⟨p.j, c, rfl⟩
def start7 (v : Nat) : SetTable.Probe := { j := v % 8, more := 0, i := v % 8, perturb := v, dummy := none }
theorem seven : ∀ v, v < 16 → ∀ j, j < 8 → ∃ k, k < 16 ∧ (nth 7 (start7 v) k).j = j := by decide +kernel
theorem bits_of {v : Nat} (h : v < 16) : SetTable.bits (v : Int) = v := by
 unfold SetTable.bits
 omega
theorem free_of {t : SetTable} (dm : t.dummies = #[]) (up : t.place.toList.Pairwise (· < ·)) {v k : Nat} (hk : k < 10 * SetTable.turns t.mask) (hn : (nth t.mask (t.probeStart (v : Int)) k).j ∉ t.place.toList) :
  ∃ j, j ∉ t.place.toList ∧ t.freeSlot (v : Int) = some (j, false) := by
 obtain ⟨j, hj, e⟩ := go_finds dm up (v : Int) k (10 * SetTable.turns t.mask) (t.probeStart (v : Int)) hk rfl hn
 refine ⟨j, hj, ?_⟩
 unfold SetTable.freeSlot SetTable.probe
 rw [e]
 rfl
theorem len_le : ∀ (l m : List Nat), l.Nodup → (∀ x ∈ l, x ∈ m) → l.length ≤ m.length
 | [], _, _, _ => Nat.zero_le _
 | a :: r, m, nd, h => by
  have am : a ∈ m := h a List.mem_cons_self
  obtain ⟨n1, n2⟩ := List.nodup_cons.mp nd
  have q := len_le r (m.erase a) n2 fun x hx => (List.mem_erase_of_ne (fun e => n1 (by rw [← e]; exact hx))).mpr (h x (List.mem_cons_of_mem _ hx))
  rw [List.length_erase_of_mem am] at q
  have := List.length_pos_of_mem am
  rw [List.length_cons]
  omega
theorem pigeon {l : List Nat} (h : l.length ≤ 4) : ∃ j, j < 8 ∧ j ∉ l := by
 apply Classical.byContradiction
 intro c
 have q : ∀ j, j < 8 → j ∈ l := fun j hj => Classical.byContradiction fun d => c ⟨j, hj, d⟩
 have := len_le (List.range 8) l List.nodup_range (fun j hj => q j (List.mem_range.mp hj))
 rw [List.length_range] at this
 omega
theorem own_free {t : SetTable} (dm : t.dummies = #[]) {v : Nat} (hv : v < 16) (hm : 15 ≤ t.mask) (hn : v ∉ t.place.toList) : t.freeSlot (v : Int) = some (v, false) := by
 unfold SetTable.freeSlot SetTable.probe
 have e : (t.probeStart (v : Int)).j = v := by
  unfold SetTable.probeStart
  dsimp only
  rw [bits_of hv]
  exact Nat.mod_eq_of_lt (by omega)
 obtain ⟨f, hf⟩ : ∃ f, 10 * SetTable.turns t.mask = f + 1 := ⟨10 * SetTable.turns t.mask - 1, by unfold SetTable.turns; omega⟩
 rw [hf]
 unfold SetTable.probe.go
 rw [e, slot_empty dm hn]
 rfl
def Es (es : Array (Int × Value)) (L : List Nat) : Prop := Paired (fun e v => e.1 = ((v : Nat) : Int) ∧ ∃ tk, e.2 = Value.int ((v : Nat) : Int) tk) es.toList L
structure Tb (B : Bool) (t : SetTable) (L : List Nat) : Prop where
 dm : t.dummies = #[]
 pl : t.plain = true
 led : t.led = !B
 up : t.place.toList.Pairwise (· < ·)
 sz : t.place.size = L.length
 nd : L.Nodup
 lt : ∀ v ∈ L, v < 16
 sh : (t.mask = 7 ∧ L.length ≤ 4) ∨ (15 ≤ t.mask ∧ t.place.toList = L ∧ L.length * 5 < t.mask * 3)
theorem ins_up {xs : Array Nat} (up : xs.toList.Pairwise (· < ·)) {j : Nat} (h : j ∉ xs.toList) : (SetTable.insertAt xs (SetTable.below xs j) j).toList.Pairwise (· < ·) := by
 obtain ⟨a, b⟩ := below_ok up j
 rw [SetTable.toList_insertAt]
 have z : ∀ i (hi : i < xs.toList.length), xs.toList[i] < j ↔ i < SetTable.below xs j := fun i hi => by
  have := b i (by simpa using hi)
  simpa using this
 rw [List.pairwise_append]
 refine ⟨up.sublist (List.take_sublist _ _), ?_, ?_⟩
 ·rw [List.pairwise_cons]
  refine ⟨fun y hy => ?_, up.sublist (List.drop_sublist _ _)⟩
  obtain ⟨i, hi, e⟩ := List.getElem_of_mem hy
  rw [List.getElem_drop] at e
  have hl : SetTable.below xs j + i < xs.toList.length := by rw [List.length_drop] at hi; omega
  have q := z _ hl
  rw [e] at q
  have ne : y ≠ j := fun c => h (by rw [← c, ← e]; exact List.getElem_mem hl)
  rcases Nat.lt_or_ge y j with g | g
  ·have := q.mp g
   omega
  ·omega
 ·intro x hx y hy
  obtain ⟨i, hi, e⟩ := List.getElem_of_mem hx
  rw [List.getElem_take] at e
  have hl : i < xs.toList.length := by rw [List.length_take] at hi; omega
  have hb : i < SetTable.below xs j := by rw [List.length_take] at hi; omega
  have x1 : x < j := by rw [← e]; exact (z i hl).mpr hb
  rcases List.mem_cons.mp hy with rfl | hy
  ·exact x1
  ·obtain ⟨k, hk, e2⟩ := List.getElem_of_mem hy
   rw [List.getElem_drop] at e2
   have hl2 : SetTable.below xs j + k < xs.toList.length := by rw [List.length_drop] at hk; omega
   have q := z _ hl2
   rw [e2] at q
   rcases Nat.lt_or_ge y j with g | g
   ·have := q.mp g
    omega
   ·omega
theorem Es.len {es : Array (Int × Value)} {L : List Nat} (h : Es es L) : es.size = L.length := by
 have := Paired.length h
 simpa using this
theorem paired_take {α β : Type} {R : α → β → Prop} : ∀ {xs : List α} {ys : List β} (n : Nat), Paired R xs ys → Paired R (xs.take n) (ys.take n)
 | _, _, 0, _ => .nil
 | _, _, _ + 1, .nil => .nil
 | _, _, n + 1, .cons r t => .cons r (paired_take n t)
theorem paired_drop {α β : Type} {R : α → β → Prop} : ∀ {xs : List α} {ys : List β} (n : Nat), Paired R xs ys → Paired R (xs.drop n) (ys.drop n)
 | _, _, 0, r => r
 | _, _, _ + 1, .nil => .nil
 | _, _, n + 1, .cons _ t => paired_drop n t
theorem paired_app {α β : Type} {R : α → β → Prop} : ∀ {xs xs' : List α} {ys ys' : List β}, Paired R xs ys → Paired R xs' ys' → Paired R (xs ++ xs') (ys ++ ys')
 | _, _, _, _, .nil, s => s
 | _, _, _, _, .cons r t, s => .cons r (paired_app t s)
theorem paired_get {α β : Type} {R : α → β → Prop} : ∀ {xs : List α} {ys : List β}, Paired R xs ys → ∀ (i : Nat) (h : i < ys.length), ∃ x, xs[i]? = some x ∧ R x ys[i]
 | _, _, .nil, i, h => by simp at h
 | _, _, .cons r t, 0, h => ⟨_, rfl, r⟩
 | _, _, .cons r t, i + 1, h => by
  obtain ⟨x, e, q⟩ := paired_get t i (by simpa using h)
  exact ⟨x, by simpa using e, by simpa using q⟩
theorem lay_ok {B : Bool} {t : SetTable} {L : List Nat} {es : Array (Int × Value)} {v : Nat} {x : Value} (T : Tb B t L) (hE : Es es L) (hv : v < 16) (hn : v ∉ L) (hx : ∃ tk, x = Value.int ((v : Nat) : Int) tk) :
  ∃ t1 es1 p, layNew t es ((v : Nat) : Int) x = (es1, t1, false, false) ∧ Es es1 (L.take p ++ v :: L.drop p) ∧ t1.dummies = #[] ∧ t1.plain = true ∧ (t1.led = !B) ∧ t1.mask = t.mask ∧ t1.finger = t.finger ∧ t1.moves = t.moves ∧
   t1.place.toList.Pairwise (· < ·) ∧ t1.place.size = L.length + 1 ∧ (15 ≤ t.mask → t1.place.toList = L.take p ++ v :: L.drop p) := by
 have main : ∃ j, j ∉ t.place.toList ∧ t.freeSlot ((v : Nat) : Int) = some (j, false) ∧ (15 ≤ t.mask → j = v) := by
  rcases T.sh with ⟨m7, l4⟩ | ⟨m15, pe, fl⟩
  ·have lp : t.place.toList.length ≤ 4 := by rw [Array.length_toList, T.sz]; exact l4
   obtain ⟨j, hj, nj⟩ := pigeon lp
   obtain ⟨k, hk, e⟩ := seven v hv j hj
   have st : t.probeStart ((v : Nat) : Int) = start7 v := by
    unfold SetTable.probeStart start7
    rw [bits_of hv, m7]
    unfold SetTable.runEnd
    have : ¬ v % (7 + 1) + 9 ≤ 7 := by omega
    simp only [if_neg this]
    simp
   obtain ⟨j', hj', e'⟩ := free_of (v := v) (k := k) T.dm T.up (by unfold SetTable.turns; omega) (by rw [st, m7, e]; exact nj)
   exact ⟨j', hj', e', fun c => by omega⟩
  ·have nv : v ∉ t.place.toList := by rw [pe]; exact hn
   exact ⟨v, nv, own_free T.dm hv m15 nv, fun _ => rfl⟩
 obtain ⟨j, nj, ef, ej⟩ := main
 have sz1 : (SetTable.insertAt t.place (SetTable.below t.place j) j).size = L.length + 1 := by
  have := congrArg List.length (SetTable.toList_insertAt t.place (SetTable.below t.place j) j)
  rw [Array.length_toList] at this
  rw [this, List.length_append, List.length_cons, List.length_take, List.length_drop, Array.length_toList, T.sz]
  omega
 have es1 : (SetTable.insertAt es (SetTable.below t.place j) (((v : Nat) : Int), x)).size = L.length + 1 := by
  have := congrArg List.length (SetTable.toList_insertAt es (SetTable.below t.place j) (((v : Nat) : Int), x))
  rw [Array.length_toList] at this
  rw [this, List.length_append, List.length_cons, List.length_take, List.length_drop, Array.length_toList, hE.len]
  omega
 have mk : L.length + 1 ≤ t.mask := by
  rcases T.sh with ⟨m7, l4⟩ | ⟨m15, pe, fl⟩ <;> omega
 refine ⟨{ t with place := SetTable.insertAt t.place (SetTable.below t.place j) j }, SetTable.insertAt es (SetTable.below t.place j) (((v : Nat) : Int), x), SetTable.below t.place j, ?_, ?_, T.dm, T.pl, T.led, rfl, rfl, rfl, ins_up T.up nj, sz1, ?_⟩
 ·unfold layNew
  rw [ef]
  dsimp only
  unfold SetTable.put
  have hd : SetTable.has t.dummies j = false := by rw [T.dm]; exact has_nil j
  dsimp only
  rw [hd]
  have ft : SetTable.fits { t with place := SetTable.insertAt t.place (SetTable.below t.place j) j } (SetTable.insertAt es (SetTable.below t.place j) (((v : Nat) : Int), x)).size = true := by
   unfold SetTable.fits SetTable.fill
   dsimp only
   rw [sz1, es1, T.dm]
   simp
   omega
  unfold SetTable.orStandIn
  simp only [if_false, Bool.false_eq_true]
  rw [if_pos ft, ft]
  rfl
 ·unfold Es
  rw [SetTable.toList_insertAt]
  exact paired_app (paired_take _ hE) (.cons ⟨rfl, hx⟩ (paired_drop _ hE))
 ·intro hm
  dsimp only
  have := ej hm
  subst this
  rcases T.sh with ⟨m7, l4⟩ | ⟨m15, pe, fl⟩
  ·omega
  ·rw [SetTable.toList_insertAt, pe]
end Sm
set_option maxHeartbeats 1000000
namespace Sm
open PySem
def Owns (m : Nat) (owner : Array (Option Nat)) (L : List Nat) : Prop := owner.size = m + 1 ∧ ∀ j, j ≤ m → owner.getD j none = if j ∈ L then some (L.idxOf j) else none
theorem free_own {m : Nat} {owner : Array (Option Nat)} {L : List Nat} (O : Owns m owner L) {v f : Nat} (hv : v ≤ m) (hn : v ∉ L) : SetTable.layClean.free m owner (f + 1) v v = some v := by
 unfold SetTable.layClean.free
 obtain ⟨k, hk⟩ : ∃ k, SetTable.runEnd m v + 1 - v = k + 1 := ⟨SetTable.runEnd m v - v, by unfold SetTable.runEnd; split <;> omega⟩
 rw [hk, List.range_succ_eq_map]
 have g : owner.getD (v + 0) (some 0) = none := by
  have a := O.2 v hv
  rw [if_neg hn] at a
  have hs : v < owner.size := by rw [O.1]; omega
  simp [Array.getD, hs] at a ⊢
  exact a
 rw [List.find?_cons_of_pos (by rw [g]; rfl)]
 rfl
theorem clean_go {m : Nat} (hm : 15 ≤ m) : ∀ (R L : List Nat) (owner : Array (Option Nat)), Owns m owner L → (L ++ R).Nodup → (∀ v ∈ R, v < 16) →
  ∃ owner', Owns m owner' (L ++ R) ∧ (R.map fun v => ((v : Nat) : Int)).foldl (fun (acc : Option (Array (Option Nat) × Nat)) h => do
   let (owner, k) ← acc
   let j ← SetTable.layClean.free m owner (SetTable.turns m) (SetTable.bits h % (m + 1)) (SetTable.bits h)
   pure (owner.setIfInBounds j (some k), k + 1)) (some (owner, L.length)) = some (owner', (L ++ R).length) := by
 intro R
 induction R with
 | nil => intro L owner O _ _; exact ⟨owner, by simpa using O, by simp⟩
 | cons v R ih =>
  intro L owner O nd hlt
  have hv : v < 16 := hlt v List.mem_cons_self
  have hn : v ∉ L := fun c => by
   have := List.nodup_append.mp nd
   exact this.2.2 v c v List.mem_cons_self rfl
  have O' : Owns m (owner.setIfInBounds v (some L.length)) (L ++ [v]) := by
   refine ⟨by rw [Array.size_setIfInBounds]; exact O.1, fun j hj => ?_⟩
   have hs : v < owner.size := by rw [O.1]; omega
   have hs' : j < owner.size := by rw [O.1]; omega
   have a := O.2 j hj
   by_cases e : j = v
   ·subst e
    rw [if_pos (List.mem_append_right _ (List.mem_singleton.mpr rfl)), List.idxOf_append, if_neg hn]
    simp [Array.getD, hs]
   ·have e1 : (owner.setIfInBounds v (some L.length)).getD j none = owner.getD j none := by
     simp only [Array.getD, Array.size_setIfInBounds, hs']
     simp [Array.getElem_setIfInBounds, hs', Ne.symm e]
    rw [e1, a]
    by_cases c : j ∈ L
    ·rw [if_pos c, if_pos (List.mem_append_left _ c), List.idxOf_append, if_pos c]
    ·rw [if_neg c, if_neg]
     intro d
     rcases List.mem_append.mp d with d | d
     ·exact c d
     ·exact e (List.mem_singleton.mp d)
  obtain ⟨o2, O2, e2⟩ := ih (L ++ [v]) _ O' (by simpa using nd) (fun u hu => hlt u (List.mem_cons_of_mem _ hu))
  refine ⟨o2, by simpa using O2, ?_⟩
  rw [List.map_cons, List.foldl_cons]
  have st : (do
   let (owner, k) ← some (owner, L.length)
   let j ← SetTable.layClean.free m owner (SetTable.turns m) (SetTable.bits ((v : Nat) : Int) % (m + 1)) (SetTable.bits ((v : Nat) : Int))
   pure (owner.setIfInBounds j (some k), k + 1) : Option (Array (Option Nat) × Nat)) = some (owner.setIfInBounds v (some L.length), (L ++ [v]).length) := by
   rw [bits_of hv, Nat.mod_eq_of_lt (by omega)]
   have : SetTable.turns m = (m + 14) + 1 := rfl
   rw [this]
   show (SetTable.layClean.free m owner (m + 14 + 1) v v).bind _ = _
   rw [free_own O (by omega) hn]
   simp
  rw [st]
  have e3 : (L ++ v :: R) = L ++ [v] ++ R := by simp
  rw [e3]
  exact e2
def upTo (m : Nat) (L : List Nat) : List Nat := (List.range (m + 1)).filter fun j => decide (j ∈ L)
theorem upTo_up (m : Nat) (L : List Nat) : (upTo m L).Pairwise (· < ·) := List.Pairwise.filter _ List.pairwise_lt_range
theorem mem_upTo {m : Nat} {L : List Nat} (h : ∀ v ∈ L, v ≤ m) {j : Nat} : j ∈ upTo m L ↔ j ∈ L := by
 unfold upTo
 rw [List.mem_filter, List.mem_range]
 constructor
 ·rintro ⟨_, b⟩; exact of_decide_eq_true b
 ·intro b; exact ⟨Nat.lt_succ_of_le (h j b), decide_eq_true b⟩
theorem nodup_of_up {L : List Nat} (h : L.Pairwise (· < ·)) : L.Nodup := h.imp fun h => Nat.ne_of_lt h
theorem upTo_perm {m : Nat} {L : List Nat} (h : ∀ v ∈ L, v ≤ m) (nd : L.Nodup) : (upTo m L).Perm L :=
 (List.perm_ext_iff_of_nodup (nodup_of_up (upTo_up m L)) nd).mpr fun j => mem_upTo h
theorem map_idx {L : List Nat} (nd : L.Nodup) : L.map (fun v => L.idxOf v) = List.range L.length := by
 apply List.ext_getElem
 ·simp
 ·intro i h1 h2
  rw [List.getElem_map, List.getElem_range]
  exact List.Nodup.idxOf_getElem nd i _
theorem fm_if {α β : Type} (p : α → Bool) (f : α → β) : ∀ l : List α, l.filterMap (fun a => if p a = true then some (f a) else none) = (l.filter p).map f
 | [] => rfl
 | a :: r => by
  rw [List.filter_cons]
  cases e : p a with
  | true => rw [List.filterMap_cons_some (b := f a) (by rw [e]; rfl), fm_if p f r]; simp
  | false => rw [List.filterMap_cons_none (by rw [e]; rfl), fm_if p f r]; simp
theorem fm_congr {α β : Type} {f g : α → Option β} : ∀ {l : List α}, (∀ a ∈ l, f a = g a) → l.filterMap f = l.filterMap g
 | [], _ => rfl
 | a :: r, h => by
  have e := h a List.mem_cons_self
  have q := fm_congr (l := r) fun b hb => h b (List.mem_cons_of_mem _ hb)
  cases c : f a with
  | none => rw [List.filterMap_cons_none c, List.filterMap_cons_none (by rw [← e]; exact c), q]
  | some b => rw [List.filterMap_cons_some c, List.filterMap_cons_some (by rw [← e]; exact c), q]
theorem Es.hashes {es : Array (Int × Value)} {L : List Nat} (h : Es es L) : (es.map (·.1)).toList = L.map fun v => ((v : Nat) : Int) := by
 rw [Array.toList_map]
 unfold Es at h
 generalize es.toList = l at h
 induction h with
 | nil => rfl
 | cons r _ ih => rw [List.map_cons, List.map_cons, ih, r.1]
theorem Es.at {es : Array (Int × Value)} {L : List Nat} (h : Es es L) {v : Nat} (hv : v ∈ L) : ∃ e, es[L.idxOf v]? = some e ∧ e.1 = ((v : Nat) : Int) ∧ ∃ tk, e.2 = Value.int ((v : Nat) : Int) tk := by
 have hi := List.idxOf_lt_length_of_mem hv
 obtain ⟨x, e, q⟩ := paired_get h (L.idxOf v) hi
 rw [List.getElem_idxOf hi] at q
 exact ⟨x, by simpa using e, q⟩
theorem es_re {es : Array (Int × Value)} {L : List Nat} (h : Es es L) : ∀ S : List Nat, (∀ v ∈ S, v ∈ L) → Paired (fun e v => e.1 = ((v : Nat) : Int) ∧ ∃ tk, e.2 = Value.int ((v : Nat) : Int) tk) ((S.map fun v => L.idxOf v).filterMap fun i => es[i]?) S
 | [], _ => .nil
 | v :: S, hs => by
  obtain ⟨e, a, b⟩ := h.at (hs v List.mem_cons_self)
  rw [List.map_cons, List.filterMap_cons_some a]
  exact .cons b (es_re h S fun u hu => hs u (List.mem_cons_of_mem _ hu))
theorem laid_ok {es : Array (Int × Value)} {L : List Nat} {m f mv : Nat} {led plain : Bool} (hm : 15 ≤ m) (hE : Es es L) (nd : L.Nodup) (hlt : ∀ v ∈ L, v < 16) :
  ∃ order : Array Nat, SetTable.laid m f mv led plain (es.map (·.1)) = some ({ mask := m, place := (upTo m L).toArray, dummies := #[], finger := f, led := led, moves := mv, plain := plain }, order) ∧
   Es (order.filterMap (es[·]?)) (upTo m L) ∧ coversAll order es.size = true := by
 have hle : ∀ v ∈ L, v ≤ m := fun v hv => by have := hlt v hv; omega
 have O0 : Owns m (Array.replicate (m + 1) none) [] := ⟨by simp, fun j hj => by simp [Array.getD]⟩
 obtain ⟨ow, O, e⟩ := clean_go hm L [] _ O0 (by simpa using nd) hlt
 rw [List.nil_append] at O e
 have ec : SetTable.layClean m (es.map (·.1)) = some ow := by
  unfold SetTable.layClean
  rw [← Array.foldl_toList, hE.hashes]
  have e' := e
  rw [List.length_nil] at e'
  show Option.map _ (List.foldl _ _ _) = _
  refine Eq.trans (congrArg (Option.map (·.1)) (Eq.trans ?_ e')) rfl
  rfl
 have lv : (List.range (m + 1)).filterMap (fun j => (ow.getD j none).map (fun k => (j, k))) = (upTo m L).map fun j => (j, L.idxOf j) := by
  unfold upTo
  rw [← fm_if]
  apply fm_congr
  intro j hj
  rw [O.2 j (by have := List.mem_range.mp hj; omega)]
  by_cases c : j ∈ L
  ·simp [c]
  ·simp [c]
 refine ⟨((upTo m L).map fun j => L.idxOf j).toArray, ?_, ?_, ?_⟩
 ·unfold SetTable.laid
  rw [ec]
  show some _ = some _
  have : (List.range (m + 1)).filterMap (fun j => (ow.getD j none).map (j, ·)) = (upTo m L).map fun j => (j, L.idxOf j) := lv
  rw [this, List.map_map, List.map_map]
  have i1 : ((fun (x : Nat × Nat) => x.1) ∘ fun j => (j, L.idxOf j)) = fun j => j := rfl
  have i2 : ((fun (x : Nat × Nat) => x.2) ∘ fun j => (j, L.idxOf j)) = fun j => L.idxOf j := rfl
  rw [i1, i2, List.map_id']
 ·unfold Es
  rw [Array.toList_filterMap]
  exact es_re hE (upTo m L) fun v hv => (mem_upTo hle).mp hv
 ·unfold coversAll
  rw [List.isPerm_iff, hE.len]
  have p := (upTo_perm hle nd).map fun v => L.idxOf v
  rw [map_idx nd] at p
  exact p
theorem up_len {m : Nat} {L : List Nat} (h : ∀ v ∈ L, v < 16) (hm : 15 ≤ m) (nd : L.Nodup) : (upTo m L).length = L.length := (upTo_perm (fun v hv => by have := h v hv; omega) nd).length_eq
theorem sizeAbove_gt {n : Nat} (h : n < 2 ^ 40) : n < SetTable.sizeAbove n := by
 have go : ∀ fuel size, n < size * 2 ^ fuel → n < SetTable.sizeAbove.go n fuel size := by
  intro fuel
  induction fuel with
  | zero => intro size h; unfold SetTable.sizeAbove.go; simpa using h
  | succ f ih =>
   intro size h
   unfold SetTable.sizeAbove.go
   split
   ·exact ih _ (by rw [Nat.pow_succ] at h; rw [Nat.mul_assoc, Nat.mul_comm 2]; exact h)
   ·omega
 exact go 64 8 (by omega)
theorem sizeAbove_16 {n : Nat} (h : 8 ≤ n) : 16 ≤ SetTable.sizeAbove n := by
 have go : ∀ fuel size, 16 ≤ size → 16 ≤ SetTable.sizeAbove.go n fuel size := by
  intro fuel
  induction fuel with
  | zero => intro size h; unfold SetTable.sizeAbove.go; exact h
  | succ f ih =>
   intro size h
   unfold SetTable.sizeAbove.go
   split
   ·exact ih _ (by omega)
   ·exact h
 unfold SetTable.sizeAbove
 unfold SetTable.sizeAbove.go
 rw [if_pos h]
 exact go 63 _ (by omega)
theorem Tb.fits {B : Bool} {t : SetTable} {L : List Nat} (T : Tb B t L) : t.fits L.length = true := by
 unfold SetTable.fits SetTable.fill
 have := T.sz
 rw [T.dm]
 rcases T.sh with ⟨a, b⟩ | ⟨a, b, c⟩ <;> simp [this] <;> omega
theorem tb_laid {B : Bool} {L : List Nat} {m f mv : Nat} (hm : 15 ≤ m) (nd : L.Nodup) (hlt : ∀ v ∈ L, v < 16) (hr : L.length * 5 < m * 3) :
  Tb B { mask := m, place := (upTo m L).toArray, dummies := #[], finger := f, led := !B, moves := mv, plain := true } (upTo m L) where
 dm := rfl
 pl := rfl
 led := rfl
 up := by simpa using upTo_up m L
 sz := by simp
 nd := nodup_of_up (upTo_up m L)
 lt := fun v hv => hlt v ((mem_upTo (fun v hv => by have := hlt v hv; omega)).mp hv)
 sh := .inr ⟨hm, by simp, by rw [up_len hlt hm nd]; exact hr⟩
theorem relay_ok {B : Bool} {t : SetTable} {es : Array (Int × Value)} {L : List Nat} {n : Nat} (hp : t.plain = true) (hl : t.led = !B) (hE : Es es L) (nd : L.Nodup) (hlt : ∀ v ∈ L, v < 16) (hn : 8 ≤ n) (h2 : 2 * L.length ≤ n) (hb : n < 2 ^ 40) :
  ∃ es' t' L', relayAll t es n = (es', t', false) ∧ Es es' L' ∧ Tb B t' L' ∧ L'.Perm L := by
 have a1 := sizeAbove_gt hb
 have a2 := sizeAbove_16 hn
 have hm : 15 ≤ SetTable.sizeAbove n - 1 := by omega
 obtain ⟨order, e, hE', hc⟩ := laid_ok (f := t.finger) (mv := t.movedTo (SetTable.sizeAbove n - 1)) (led := !B) (plain := true) hm hE nd hlt
 have T := tb_laid (B := B) (f := t.finger) (mv := t.movedTo (SetTable.sizeAbove n - 1)) hm nd hlt (by omega)
 refine ⟨_, _, _, ?_, hE', T, upTo_perm (fun v hv => by have := hlt v hv; omega) nd⟩
 unfold relayAll SetTable.relaid
 rw [hp, hl, e]
 dsimp only
 have z := hE'.len
 rw [hc, z, T.fits]
 rfl
end Sm
set_option maxHeartbeats 1000000
namespace Sm
open PySem
abbrev setO (es : Array (Int × Value)) (ep : Nat) (t : SetTable) : Obj := { cls := .type "set", dict := none, data := .set es ep t, slots := #[] }
def SetAt (B : Bool) (h : Heap) (a : Addr) (L : List Nat) : Prop := ∃ es ep t, h.get? a = some (setO es ep t) ∧ Es es L ∧ Tb B t L
def Dense (h : Heap) (a : Addr) : Prop := ∃ es ep t, h.get? a = some (setO es ep t) ∧ (t.mask = 7 ∨ 5 ≤ es.size)
theorem Dense.keep {h h' : Heap} {a : Addr} (S : Dense h a) (k : ∀ o, h.get? a = some o → h'.get? a = some o) : Dense h' a :=
 let ⟨es, ep, t, ho, r⟩ := S; ⟨es, ep, t, k _ ho, r⟩
theorem SetAt.keep {B : Bool} {h h' : Heap} {a : Addr} {L : List Nat} (S : SetAt B h a L) (k : ∀ o, h.get? a = some o → h'.get? a = some o) : SetAt B h' a L :=
 let ⟨es, ep, t, ho, r⟩ := S; ⟨es, ep, t, k _ ho, r⟩
theorem Tb.len {B : Bool} {t : SetTable} {L : List Nat} (T : Tb B t L) : L.length ≤ 16 := by
 have := len_le L (List.range 16) T.nd fun x hx => List.mem_range.mpr (T.lt x hx)
 simpa using this
theorem hash16 : ∀ v : Nat, v < 16 → hashInt ((v : Nat) : Int) = ((v : Nat) : Int) := by decide +kernel
theorem Es.elems {prog : Program} {w : World} {es : Array (Int × Value)} {L : List Nat} (h : Es es L) (lt : ∀ v ∈ L, v < 16) : ElemsOf (intKind prog w) es.toList := by
 unfold Es at h
 generalize es.toList = l at h
 induction h with
 | nil => intro e he; simp at he
 | @cons x y xs ys r _ ih =>
  intro e he
  rcases List.mem_cons.mp he with rfl | he
  ·obtain ⟨tk, e2⟩ := r.2
   refine ⟨⟨((y : Nat) : Int), ?_, ?_⟩, ?_⟩
   ·show Value.isInt _ _ = true
    rw [e2]; simp [Value.isInt]
   ·rw [r.1]; exact (hash16 y (lt y List.mem_cons_self)).symm
   ·rw [e2]; rfl
  ·exact ih (fun v hv => lt v (List.mem_cons_of_mem _ hv)) e he
theorem Es.find {es : Array (Int × Value)} {L : List Nat} (h : Es es L) (v : Nat) : (es.toList.findIdx? fun e => Value.isInt ((v : Nat) : Int) e.2).isSome = decide (v ∈ L) := by
 unfold Es at h
 generalize es.toList = l at h
 induction h with
 | nil => simp
 | @cons x y xs ys r _ ih =>
  obtain ⟨tk, e2⟩ := r.2
  rw [List.findIdx?_cons, e2]
  by_cases c : v = y
  ·subst c; simp [Value.isInt]
  ·have : Value.isInt ((v : Nat) : Int) (.int ((y : Nat) : Int) tk) = false := by simp [Value.isInt]; omega
   rw [this]
   simp only [Bool.false_eq_true, if_false, Option.isSome_map]
   rw [ih]
   simp [c]
section
variable {prog : Program} {w : World} {A : Around} {E : Value → Shared → Prop} {s : Shared} {B : Bool} {a : Addr} {L : List Nat}
theorem scan_at {es : Array (Int × Value)} {ep : Nat} {t : SetTable} {v tk : Nat} {ad : Bool} {Q : ScanMet → Shared → Prop} (ho : s.heap.get? a = some (setO es ep t)) (hE : Es es L) (T : Tb B t L) (hv : v < 16)
  (h1 : v ∈ L → ∀ j, Q (.found j) s) (h2 : v ∉ L → Q .absent s) : wpAny (model prog w) A (setScan a (.int ((v : Nat) : Int) tk) ((v : Nat) : Int) ad es) Q E s := by
 have hf : t.fits es.size = true := by rw [hE.len]; exact T.fits
 have sc := wpAny_setScan_of (prog := prog) (w := w) (A := A) (E := E) (s := s) (knd := intKind prog w) (k := ((v : Nat) : Int)) (x := .int ((v : Nat) : Int) tk) (adding := ad) (Q := Q) (by simp [intKind, Value.isInt]) ho rfl hf (hE.elems T.lt) (by
  have q := hE.find v
  have e : (fun e : Int × Value => (intKind prog w).is ((v : Nat) : Int) e.2) = fun e => Value.isInt ((v : Nat) : Int) e.2 := rfl
  rw [e]
  cases c : es.toList.findIdx? (fun e => Value.isInt ((v : Nat) : Int) e.2) with
  | none => rw [c] at q; exact h2 (of_decide_eq_false q.symm)
  | some j => rw [c] at q; exact h1 (of_decide_eq_true q.symm) _)
 have e : (intKind prog w).hash ((v : Nat) : Int) = ((v : Nat) : Int) := hash16 v hv
 rw [e] at sc
 exact sc
theorem put_get {h : Heap} {es es' : Array (Int × Value)} {ep : Nat} {t t' : SetTable} (ho : h.get? a = some (setO es ep t)) : (h.update a (Obj.putSet es' t')).get? a = some (setO es' (ep + 1) t') := by
 have := Heap.get?_update_self (Obj.putSet es' t') ho (by rw [putSet_of es' t' rfl]; rfl)
 rw [putSet_of es' t' rfl] at this
 exact this
theorem scan_ok (prog : Program) (w : World) {es : Array (Int × Value)} {t : SetTable} {v tk : Nat} (hE : Es es L) (T : Tb B t L) : byScan (.int ((v : Nat) : Int) tk) es = true :=
 byScan_of (knd := intKind prog w) rfl (by rw [hE.len]; have := T.len; unfold scanBound; omega) (hE.elems T.lt)
theorem add_at {v tk : Nat} {Q : Bool → Shared → Prop} (S : SetAt B s.heap a L) (hv : v < 16)
  (h : ∀ b h' L', Heap.SameBut a s.heap h' → SetAt B h' a L' → (∀ u, u ∈ L' ↔ u = v ∨ u ∈ L) → (Dense s.heap a → Dense h' a) → Q b { s with heap := h' }) :
  wpAny (model prog w) A (setAddHashed a (.int ((v : Nat) : Int) tk) ((v : Nat) : Int)) Q E s := by
 obtain ⟨es, ep, t, ho, hE, T⟩ := S
 have hf : t.fits es.size = true := by rw [hE.len]; exact T.fits
 unfold setAddHashed setAddHashedIn
 refine wpAny_holding (wpAny_bind (wpAny_setState_of ho rfl hf ?_))
 dsimp only
 rw [scan_ok prog w hE T]
 simp only [↓reduceIte]
 unfold setAddByScan
 refine wpAny_bind ?_
 refine wpAny_bind (wpAny_rule ?_)
 refine wpAny_bind (scan_at ho hE T hv (fun hm j => ?_) fun hm => ?_)
 ·dsimp only
  refine wpAny_pure (wpAny_pure ?_)
  have q := h false s.heap L (Heap.SameBut.refl a s.heap) ⟨es, ep, t, ho, hE, T⟩ (fun u => ⟨.inr, fun c => c.elim (fun e => e ▸ hm) id⟩) id
  exact q
 ·dsimp only
  obtain ⟨t1, es1, p, e1, hE1, dm, pl, ld, mk, _, _, up, sz, own⟩ := lay_ok (x := .int ((v : Nat) : Int) tk) T hE hv hm ⟨tk, rfl⟩
  rw [e1]
  dsimp only
  refine wpAny_bind (wpAny_pure ?_)
  rw [pl]
  refine wpAny_bind (wpAny_pure ?_)
  simp only [↓reduceIte]
  have mem : ∀ u, u ∈ L.take p ++ v :: L.drop p ↔ u = v ∨ u ∈ L := fun u => by
   rw [List.mem_append, List.mem_cons]
   have e : u ∈ L ↔ u ∈ L.take p ∨ u ∈ L.drop p := by rw [← List.mem_append, List.take_append_drop]
   rw [e]
   constructor
   ·rintro (c | c | c)
    ·exact .inr (.inl c)
    ·exact .inl c
    ·exact .inr (.inr c)
   ·rintro (c | c | c)
    ·exact .inr (.inl c)
    ·exact .inl c
    ·exact .inr (.inr c)
  have nd1 : (L.take p ++ v :: L.drop p).Nodup := by
   have pm : (L.take p ++ v :: L.drop p).Perm (v :: L) := by
    have : L.take p ++ L.drop p = L := List.take_append_drop p L
    exact List.perm_middle.trans (by rw [this])
   exact pm.nodup_iff.mpr (List.nodup_cons.mpr ⟨hm, T.nd⟩)
  have lt1 : ∀ u ∈ L.take p ++ v :: L.drop p, u < 16 := fun u hu => ((mem u).mp hu).elim (fun e => e ▸ hv) (T.lt u)
  have ln1 : (L.take p ++ v :: L.drop p).length = L.length + 1 := by
   rw [List.length_append, List.length_cons, List.length_take, List.length_drop]; omega
  have fl : t1.fill = L.length + 1 := by unfold SetTable.fill; rw [dm, sz]; rfl
  have l16 := T.len
  have z1 : es1.size = L.length + 1 := by rw [hE1.len, ln1]
  refine wpAny_bind (wpAny_storeSet_of ho rfl ?_ (by rw [z1, sizeLine_eq]; omega))
  have ho1 := put_get (es' := es1) (t' := t1) ho
  cases tf : t1.tooFull with
  | false =>
   simp only [Bool.not_false, Bool.and_false, Bool.false_eq_true, if_false]
   refine wpAny_pure (wpAny_pure ?_)
   refine h true _ _ (Heap.SameBut.update ..) ⟨es1, ep + 1, t1, ho1, hE1, ⟨dm, pl, ld, up, by rw [ln1, sz], nd1, lt1, ?_⟩⟩ mem (fun ⟨es0, ep0, t0, ho0, d⟩ => ⟨es1, ep + 1, t1, ho1, by
    rw [ho] at ho0; cases ho0
    rw [mk, z1]; have := hE.len; omega⟩)
   unfold SetTable.tooFull at tf
   have tf' := of_decide_eq_false tf
   rw [fl, mk] at tf'
   rw [ln1, mk]
   rcases T.sh with ⟨m7, l4⟩ | ⟨m15, pe, _⟩
   ·refine .inl ⟨m7, by omega⟩
   ·exact .inr ⟨m15, own m15, by omega⟩
  | true =>
   simp only [Bool.not_false, Bool.and_self, if_true]
   unfold SetTable.tooFull at tf
   have tf' := of_decide_eq_true tf
   rw [fl, mk] at tf'
   have five : 5 ≤ L.length + 1 := by
    rcases T.sh with ⟨m7, l4⟩ | ⟨m15, pe, _⟩ <;> omega
   have gr : SetTable.grown es1.size = (L.length + 1) * 4 := by
    unfold SetTable.grown
    rw [z1, if_neg (by omega)]
   obtain ⟨es2, t2, L2, e2, hE2, T2, pm⟩ := relay_ok (t := t1) (n := SetTable.grown es1.size) pl ld hE1 nd1 lt1 (by rw [gr]; omega) (by rw [gr, ln1]; omega) (by rw [gr]; omega)
   rw [e2]
   dsimp only
   refine wpAny_bind (wpAny_pure ?_)
   refine wpAny_bind (wpAny_storeSet_of ho1 rfl ?_ (by rw [hE2.len, pm.length_eq, ln1, sizeLine_eq]; omega))
   refine wpAny_pure (wpAny_pure ?_)
   exact h true _ L2 ((Heap.SameBut.update ..).trans (Heap.SameBut.update ..)) ⟨es2, _, t2, put_get ho1, hE2, T2⟩ (fun u => (pm.mem_iff).trans (mem u)) fun _ => ⟨es2, _, t2, put_get ho1, .inr (by rw [hE2.len, pm.length_eq, ln1]; exact five)⟩
end
end Sm
set_option maxHeartbeats 2000000
namespace Sm
open PySem
abbrev byT (w : World) : Bool := w.params.followText "set-order"
theorem erase_perm {α : Type} : ∀ (l : List α) (i : Nat) (h : i < l.length), (l[i] :: l.eraseIdx i).Perm l
 | _ :: r, 0, _ => .refl _
 | x :: r, i + 1, h => by
  have q := erase_perm r i (by simpa using h)
  rw [List.getElem_cons_succ, List.eraseIdx_cons_succ]
  exact (List.Perm.swap x (r[i]'(by simpa using h)) (r.eraseIdx i)).trans (q.cons x)
theorem pick_go {α : Type} (nx : Nat → Nat) : ∀ (fuel k : Nat) (left : List α) (out : Array α), left.length ≤ fuel → (pickOrder.go nx fuel k left out).toList.Perm (out.toList ++ left) := by
 intro fuel
 induction fuel with
 | zero =>
  intro k left out h
  have : left = [] := List.length_eq_zero_iff.mp (by omega)
  subst this
  unfold pickOrder.go
  simp
 | succ f ih =>
  intro k left out h
  unfold pickOrder.go
  by_cases c : left = []
  ·subst c; simp
  ·have pos : 0 < left.length := List.length_pos_iff.mpr c
   have lt := Nat.mod_lt (nx k) pos
   rw [List.getElem?_eq_getElem lt]
   dsimp only
   refine (ih (k + 1) _ _ (by rw [List.length_eraseIdx]; split <;> omega)).trans ?_
   rw [Array.toList_push, List.append_assoc]
   exact List.Perm.append_left _ (erase_perm left _ lt)
theorem pick_perm {α : Type} (nx : Nat → Nat) (xs : Array α) : (pickOrder nx xs).toList.Perm xs.toList := by
 have := pick_go nx xs.size 0 xs.toList #[] (by simp)
 unfold pickOrder
 simpa using this
theorem walk_eq (a : Addr) : setWalk a = (do
 let (xs, c, tb) ← setState a
 if ← setsByText then
  let q ← ask
  return pickOrder (q.params.setOrder a c) xs
 if !tb.plain && xs.size > 1 then return (← drawOrder xs.size xs.toList).toArray
 (do if !tb.led && xs.size > 1 then unsupported "set:maker-not-led" : Sem Unit)
 return xs) := rfl
theorem Es.perm {es : Array (Int × Value)} {L : List Nat} (h : Es es L) {es' : List (Int × Value)} (p : es'.Perm es.toList) : ∃ L', Paired (fun e v => e.1 = ((v : Nat) : Int) ∧ ∃ tk, e.2 = Value.int ((v : Nat) : Int) tk) es' L' ∧ L'.Perm L := by
 refine ⟨es'.map fun e => e.1.toNat, ?_, ?_⟩
 ·have all : ∀ e ∈ es.toList, ∃ v : Nat, e.1 = ((v : Nat) : Int) ∧ ∃ tk, e.2 = Value.int ((v : Nat) : Int) tk := by
   unfold Es at h
   generalize es.toList = l at h
   clear p
   induction h with
   | nil => intro e he; simp at he
   | cons r _ ih =>
    intro e he
    rcases List.mem_cons.mp he with rfl | he
    ·exact ⟨_, r⟩
    ·exact ih e he
  have all' : ∀ e ∈ es', ∃ v : Nat, e.1 = ((v : Nat) : Int) ∧ ∃ tk, e.2 = Value.int ((v : Nat) : Int) tk := fun e he => all e (p.mem_iff.mp he)
  clear p
  induction es' with
  | nil => exact .nil
  | cons e r ih =>
   obtain ⟨v, e1, e2⟩ := all' e List.mem_cons_self
   rw [List.map_cons]
   refine .cons ?_ (ih fun x hx => all' x (List.mem_cons_of_mem _ hx))
   rw [e1]
   exact ⟨rfl, e2⟩
 ·refine (p.map fun e => e.1.toNat).trans ?_
  unfold Es at h
  generalize es.toList = l at h
  have : l.map (fun e => e.1.toNat) = L := by
   induction h with
   | nil => rfl
   | cons r _ ih => rw [List.map_cons, ih, r.1]; rfl
  rw [this]
section
variable {prog : Program} {w : World} {A : Around} {E : Value → Shared → Prop} {s : Shared} {a : Addr} {L : List Nat}
theorem state_at {es : Array (Int × Value)} {ep : Nat} {t : SetTable} {B : Bool} {Q : (Array (Int × Value) × Nat × SetTable) → Shared → Prop} (ho : s.heap.get? a = some (setO es ep t)) (hE : Es es L) (T : Tb B t L) (h : Q (es, ep, t) s) :
  wpAny (model prog w) A (setState a) Q E s := wpAny_setState_of ho rfl (by rw [hE.len]; exact T.fits) h
theorem byText_at {Q : Bool → Shared → Prop} (h : Q (byT w) s) : wpAny (model prog w) A setsByText Q E s := by
 unfold setsByText
 exact wpAny_bind (wpAny_askSetting (wpAny_pure h))
theorem walk_at {es : Array (Int × Value)} {ep : Nat} {t : SetTable} {Q : Array (Int × Value) → Shared → Prop} (ho : s.heap.get? a = some (setO es ep t)) (hE : Es es L) (T : Tb (byT w) t L)
  (h : ∀ es', es'.toList.Perm es.toList → Q es' s) : wpAny (model prog w) A (setWalk a) Q E s := by
 rw [walk_eq]
 refine wpAny_bind (state_at ho hE T ?_)
 refine wpAny_bind (byText_at ?_)
 have pl := T.pl
 have ld := T.led
 cases c : byT w with
 | true =>
  simp only [if_true]
  exact wpAny_bind (wpAny_askSetting (wpAny_pure (h _ (pick_perm _ _))))
 | false =>
  rw [c] at ld
  simp only [pl, ld, Bool.not_true, Bool.not_false, Bool.false_and, Bool.false_eq_true, if_false]
  first | exact wpAny_bind (wpAny_pure (wpAny_pure (h _ .rfl))) | exact wpAny_pure (h _ .rfl)
theorem unseen_at {es : Array (Int × Value)} {ep : Nat} {t : SetTable} {others : List Addr} {f : Option Addr} {Q : Array (Int × Value) → Shared → Prop} (ho : s.heap.get? a = some (setO es ep t)) (hE : Es es L) (T : Tb (byT w) t L)
  (h : ∀ es', es'.toList.Perm es.toList → Q es' s) : wpAny (model prog w) A (setWalkUnseen a others f) Q E s := by
 unfold setWalkUnseen
 refine wpAny_bind (state_at ho hE T ?_)
 refine wpAny_bind (byText_at ?_)
 have e : (byT w || (t.led && t.plain) || decide (es.size ≤ 1)) = true := by rw [T.led, T.pl]; cases byT w <;> rfl
 dsimp only
 rw [if_pos e]
 exact walk_at ho hE T h
def reord (es : Array (Int × Value)) (laid : Option (SetTable × Array Nat)) : Sem (Array (Int × Value) × SetTable) := do
 let some (t, order) := laid
  | unsupported "internal:set-table-without-room"
 if (order.filterMap (es[·]?)).size != es.size then unsupported "internal:set-table-lost-an-element"
 pure (order.filterMap (es[·]?), t)
theorem relay_eq (a : Addr) (n : Nat) : setRelay a n = (do
 let (es, _, t) ← setState a
 if SetTable.sizeAbove n > sizeLine then unsupported "set:memory"
 let (es, t) ← reord es (t.relaid (es.map (·.1)) n)
 storeSet a es t) := rfl
theorem reord_at {es : Array (Int × Value)} {t : SetTable} {order : Array Nat} {S : List Nat} {Q : Array (Int × Value) × SetTable → Shared → Prop} (hE' : Es (order.filterMap (es[·]?)) S) (hz : es.size = S.length) (h : Q (order.filterMap (es[·]?), t) s) :
  wpAny (model prog w) A (reord es (some (t, order))) Q E s := by
 unfold reord
 dsimp only
 have e : ((order.filterMap (es[·]?)).size != es.size) = false := by rw [hE'.len, hz]; simp
 simp only [e, Bool.false_eq_true, if_false]
 first | exact wpAny_bind (wpAny_pure (wpAny_pure h)) | exact wpAny_pure h
theorem above_le {n : Nat} (h : n ≤ 64) : SetTable.sizeAbove n ≤ 128 := by
 have : ∀ n, n ≤ 64 → SetTable.sizeAbove n ≤ 128 := by decide +kernel
 exact this n h
theorem room_at {more : Nat} {Q : Unit → Shared → Prop} {B : Bool} (S : SetAt B s.heap a L) (hm : more ≤ 16)
  (h : ∀ h' es ep t L', Heap.SameBut a s.heap h' → h'.get? a = some (setO es ep t) → Es es L' → Tb B t L' → L'.Perm L → (L.length + more) * 5 < t.mask * 3 → Q () { s with heap := h' }) : wpAny (model prog w) A (setRoomFor a more) Q E s := by
 obtain ⟨es, ep, t, ho, hE, T⟩ := S
 unfold setRoomFor
 refine wpAny_bind (state_at ho hE T ?_)
 have fl : t.fill = L.length := by unfold SetTable.fill; rw [T.dm, T.sz]; rfl
 have l16 := T.len
 unfold SetTable.roomFor
 dsimp only
 rw [fl, T.sz]
 by_cases c : (L.length + more) * 5 ≥ t.mask * 3
 ·rw [if_pos c]
  dsimp only
  rw [relay_eq]
  refine wpAny_bind (state_at ho hE T ?_)
  have five : 5 ≤ L.length + more := by
   rcases T.sh with ⟨m7, _⟩ | ⟨m15, _, _⟩ <;> omega
  have b1 := sizeAbove_gt (n := (L.length + more) * 2) (by omega)
  have b2 := sizeAbove_16 (n := (L.length + more) * 2) (by omega)
  have b3 := above_le (n := (L.length + more) * 2) (by omega)
  dsimp only
  rw [if_neg (by rw [sizeLine_eq]; omega)]
  have hm' : 15 ≤ SetTable.sizeAbove ((L.length + more) * 2) - 1 := by omega
  obtain ⟨order, e, hE', hc⟩ := laid_ok (f := t.finger) (mv := t.movedTo (SetTable.sizeAbove ((L.length + more) * 2) - 1)) (led := t.led) (plain := t.plain) hm' hE T.nd T.lt
  unfold SetTable.relaid
  rw [e]
  have lz := up_len T.lt hm' T.nd
  refine wpAny_bind (reord_at hE' (by rw [hE.len, lz]) ?_)
  refine wpAny_storeSet_of ho rfl ?_ (by rw [hE'.len, lz, sizeLine_eq]; omega)
  have T' := tb_laid (B := B) (f := t.finger) (mv := t.movedTo (SetTable.sizeAbove ((L.length + more) * 2) - 1)) hm' T.nd T.lt (by omega)
  rw [← T.led, ← T.pl] at T'
  exact h _ _ _ _ _ (Heap.SameBut.update ..) (put_get ho) hE' T' (upTo_perm (fun v hv => by have := T.lt v hv; omega) T.nd) (by show _ < (SetTable.sizeAbove ((L.length + more) * 2) - 1) * 3; omega)
 ·rw [if_neg c]
  refine wpAny_pure ?_
  exact h s.heap es ep t L (Heap.SameBut.refl a s.heap) ho hE T .rfl (by omega)
end
end Sm
set_option maxHeartbeats 2000000
namespace Sm
open PySem
theorem merge_eq (sA oA : Addr) (each : Sem Unit) : setMerge sA oA each = (do
 if sA == oA then return
 let (eo, epoch, to) ← setState oA
 if eo.isEmpty then return
 setRoomFor sA eo.size
 let (_, _, ts) ← setState sA
 match ts.road to with
 | .slotForSlot =>
  storeSet sA eo { to with finger := ts.finger, led := ts.led && to.led, moves := ts.moves, plain := ts.plain && to.plain }
 | .clean =>
  let (es, t) ← reord eo (SetTable.laid ts.mask ts.finger ts.moves (ts.led && to.led) (ts.plain && to.plain) (eo.map (·.1)))
  storeSet sA es t
 | .oneByOne =>
  for (h, x) in ← setWalkUnseen oA [sA] (some sA) do
   let _ ← holding [x] (setAddHashed sA x h)
   each
   if (← setState oA).2.1 != epoch then unsupported "set.changed-during-merge") := rfl
section
variable {prog : Program} {w : World} {A : Around} {E : Value → Shared → Prop} {s : Shared} {sA oA : Addr} {L1 L2 : List Nat}
theorem merge_at {each : Sem Unit} {Q : Unit → Shared → Prop} (ne : sA ≠ oA) (S1 : SetAt (byT w) s.heap sA L1) (S2 : SetAt (byT w) s.heap oA L2) (D : Dense s.heap oA)
  (he : ∀ (s' : Shared) (Q' : Unit → Shared → Prop), (∀ o, s.heap.get? oA = some o → s'.heap.get? oA = some o) → Q' () s' → wpAny (model prog w) A each Q' E s')
  (h : ∀ h' L, Heap.SameBut sA s.heap h' → SetAt (byT w) h' sA L → (∀ u, u ∈ L ↔ u ∈ L1 ∨ u ∈ L2) → Q () { s with heap := h' }) : wpAny (model prog w) A (setMerge sA oA each) Q E s := by
 obtain ⟨eo, ep, to, ho, hE, T⟩ := S2
 rw [merge_eq]
 have nb : (sA == oA) = false := beq_eq_false_iff_ne.mpr ne
 rw [nb]
 simp only [Bool.false_eq_true, if_false]
 refine wpAny_bind (state_at ho hE T ?_)
 dsimp only
 have hz := hE.len
 have l16 := T.len
 by_cases c : eo.isEmpty = true
 ·rw [if_pos c]
  have l0 : L2.length = 0 := by rw [← hz]; simpa using c
  have : L2 = [] := List.length_eq_zero_iff.mp l0
  subst this
  exact wpAny_pure (h s.heap L1 (Heap.SameBut.refl _ _) S1 fun u => by simp)
 rw [if_neg c]
 refine wpAny_bind (room_at S1 (by omega) fun h1 es1 ep1 t1 L1' sb1 ho1 hE1 T1 pm hr => ?_)
 have ho' : h1.get? oA = some (setO eo ep to) := by rw [sb1.2 oA (Ne.symm ne)]; exact ho
 refine wpAny_bind (state_at (s := { s with heap := h1 }) ho1 hE1 T1 ?_)
 dsimp only
 have fl : t1.fill = L1'.length := by unfold SetTable.fill; rw [T1.dm, T1.sz]; rfl
 unfold SetTable.road
 rw [fl, pm.length_eq]
 have ld : (t1.led && to.led) = !byT w := by rw [T1.led, T.led]; simp
 have pl : (t1.plain && to.plain) = true := by rw [T1.pl, T.pl]; rfl
 by_cases e0 : L1.length = 0
 ·have n1 : L1 = [] := List.length_eq_zero_iff.mp e0
  have nb : (L1.length != 0) = false := by rw [e0]; rfl
  rw [nb]
  simp only [Bool.false_eq_true, if_false]
  have dmt : to.dummies.isEmpty = true := by rw [T.dm]; rfl
  by_cases em : t1.mask = to.mask
  ·have : (t1.mask == to.mask && to.dummies.isEmpty) = true := by rw [em, dmt]; simp
   rw [this]
   simp only [if_true]
   refine wpAny_storeSet_of (s := { s with heap := h1 }) ho1 rfl ?_ (by rw [hz, sizeLine_eq]; omega)
   refine h _ L2 (sb1.trans (Heap.SameBut.update ..)) ⟨eo, _, _, put_get ho1, hE, ⟨T.dm, pl, ld, T.up, T.sz, T.nd, T.lt, T.sh⟩⟩ fun u => by rw [n1]; simp
  ·have : (t1.mask == to.mask && to.dummies.isEmpty) = false := by rw [beq_eq_false_iff_ne.mpr em]; rfl
   rw [this]
   simp only [Bool.false_eq_true, if_false]
   have m15 : 15 ≤ t1.mask := by
    obtain ⟨es0, ep0, t0, ho0, d⟩ := D
    rw [ho] at ho0
    cases ho0
    rcases T1.sh with ⟨m7, _⟩ | ⟨m15, _⟩
    ·rw [m7] at hr
     rcases d with d | d
     ·exact absurd (m7.trans d.symm) em
     ·rw [hz] at hr; omega
    ·exact m15
   obtain ⟨order, e, hE', hc⟩ := laid_ok (f := t1.finger) (mv := t1.moves) (led := t1.led && to.led) (plain := t1.plain && to.plain) m15 hE T.nd T.lt
   rw [e]
   have lz := up_len T.lt m15 T.nd
   refine wpAny_bind (reord_at hE' (by rw [hz, lz]) ?_)
   refine wpAny_storeSet_of (s := { s with heap := h1 }) ho1 rfl ?_ (by rw [hE'.len, lz, sizeLine_eq]; omega)
   have T' := tb_laid (B := byT w) (f := t1.finger) (mv := t1.moves) m15 T.nd T.lt (by rw [hz] at hr; omega)
   rw [← ld, ← pl] at T'
   refine h _ _ (sb1.trans (Heap.SameBut.update ..)) ⟨_, _, _, put_get ho1, hE', ?_⟩ fun u => ?_
   ·rw [ld] at T' ⊢
    exact T'
   ·rw [n1, mem_upTo (fun v hv => by have := T.lt v hv; omega)]; simp
 ·have nb : (L1.length != 0) = true := by simp [e0]
  rw [nb]
  simp only [if_true]
  refine wpAny_bind (unseen_at (s := { s with heap := h1 }) ho' hE T fun es' pe => ?_)
  obtain ⟨R, hR, pR⟩ := hE.perm pe
  refine wpAny_bind ?_
  rw [← Array.forIn_toList]
  refine wpAny_forIn_list _ (fun rest _ s' => ∃ h' L R, s' = { s with heap := h' } ∧ Heap.SameBut sA s.heap h' ∧ SetAt (byT w) h' sA L ∧ Paired (fun (e : Int × Value) (v : Nat) => e.1 = ((v : Nat) : Int) ∧ ∃ tk, e.2 = Value.int ((v : Nat) : Int) tk) rest R ∧
   (∀ v ∈ R, v < 16) ∧ ∀ u, (u ∈ L ∨ u ∈ R) ↔ (u ∈ L1 ∨ u ∈ L2)) _ ?_ ?_ _ _ ⟨h1, L1', R, rfl, sb1, ⟨es1, ep1, t1, ho1, hE1, T1⟩, hR, fun v hv => T.lt v (pR.mem_iff.mp hv), fun u => by rw [pm.mem_iff, pR.mem_iff]⟩
  ·rintro ⟨hh, x⟩ rest b s' ⟨h', L, R', rfl, sb, S, hP, lt, mem⟩
   cases hP with
   | @cons _ v _ R'' r t =>
    obtain ⟨e1, tk, e2⟩ := r
    dsimp only at e1 e2
    subst e1; subst e2
    dsimp only
    refine wpAny_bind (wpAny_holding (add_at (s := { s with heap := h' }) S (lt v List.mem_cons_self) fun b2 h2 L' sb2 S' mem' _ => ?_))
    have sb3 := sb.trans sb2
    have oo : h2.get? oA = some (setO eo ep to) := by rw [sb3.2 oA (Ne.symm ne)]; exact ho
    refine wpAny_bind (he _ _ (fun o q => by rw [ho] at q; cases q; exact oo) ?_)
    refine wpAny_bind (state_at (s := { s with heap := h2 }) oo hE T ?_)
    simp only [bne_self_eq_false, Bool.false_eq_true, if_false]
    refine wpAny_pure ⟨h2, L', R'', rfl, sb3, S', t, fun u hu => lt u (List.mem_cons_of_mem _ hu), fun u => ?_⟩
    rw [mem' u, ← mem u, List.mem_cons]
    constructor
    ·rintro ((q | q) | q)
     ·exact .inr (.inl q)
     ·exact .inl q
     ·exact .inr (.inr q)
    ·rintro (q | q | q)
     ·exact .inl (.inr q)
     ·exact .inl (.inl q)
     ·exact .inr q
  ·rintro b s' ⟨h', L, R', rfl, sb, S, hP, lt, mem⟩
   cases hP
   exact wpAny_pure (h h' L sb S fun u => by rw [← mem u]; simp)
end
end Sm
set_option maxHeartbeats 2000000
namespace Sm
open PySem PySem.Builtin.Frozenset
theorem sub_ss : isSubtype (.type "set") (.type "set") = pure true := by rw [isSubtype_type]; kernel_rfl
theorem entry_or : entryFor table "set.__or__" = some Builtin.«frozenset.__or__» := entryFor_alias (id' := "frozenset.__or__") (by kernel_rfl) rfl (by decide +kernel) (by kernel_rfl)
theorem entry_iter : entryFor table "set.__iter__" = some Builtin.«frozenset.__iter__» := entryFor_alias (id' := "frozenset.__iter__") (by kernel_rfl) rfl (by decide +kernel) (by kernel_rfl)
def unionM (id : String) (l : Addr) (r : Value) : Sem Value := do
 let result ← copyOf l
 if r != .ref l then
  let q ← addrOf result
  holding [result] (updateFrom id q r)
 return result
theorem or_eq (x y : Value) : Builtin.«frozenset.__or__» ⟨[x, y], []⟩ = (do
 let (self, other) ← slot1 "__or__" ⟨[x, y], []⟩
 if !(← isAnySet self <&&> isAnySet other) then
  rule s!"frozenset.{"__or__"}.declined"
  return ← ret .notImplemented
 ret (← unionM s!"frozenset.{"__or__"}" (← addrOf self) other)) := rfl
section
variable {prog : Program} {w : World} {A : Around} {E : Value → Shared → Prop} {s : Shared} {a b : Addr} {L1 L2 : List Nat}
theorem fresh_tb (B : Bool) : Tb B (.fresh 0 0 (!B)) [] := ⟨rfl, rfl, rfl, .nil, rfl, .nil, fun v h => by simp at h, .inl ⟨rfl, by simp⟩⟩
theorem new_at {Q : Value → Shared → Prop} (h : Q (.ref s.heap.objs.size) { s with heap := s.heap.push (setO #[] 0 (.fresh 0 0 (!byT w))) }) : wpAny (model prog w) A (newSet (.type "set")) Q E s := by
 unfold newSet
 refine wpAny_bind (byText_at ?_)
 dsimp only
 simp only [newObj]
 exact wpAny_bind (wpAny_alloc (wpAny_pure h))
theorem SetAt.type {B : Bool} (S : SetAt B s.heap a L1) : s.TypeIs (.ref a) "set" := let ⟨_, _, _, ho, _⟩ := S; ⟨_, ho, rfl⟩
theorem any_at {B : Bool} {Q : Bool → Shared → Prop} (S : SetAt B s.heap a L1) (h : Q true s) : wpAny (model prog w) A (isAnySet (.ref a)) Q E s := by
 unfold isAnySet orM
 refine wpAny_bind (wpAny_isInstance S.type sub_ss ?_)
 exact wpAny_pure h
theorem copy_at {Q : Value → Shared → Prop} (S : SetAt (byT w) s.heap a L1) (D : Dense s.heap a)
  (h : ∀ h' L, (∀ b o, s.heap.get? b = some o → h'.get? b = some o) → SetAt (byT w) h' s.heap.objs.size L → (∀ u, u ∈ L ↔ u ∈ L1) → Q (.ref s.heap.objs.size) { s with heap := h' }) : wpAny (model prog w) A (copyOf a) Q E s := by
 unfold copyOf baseOf
 refine wpAny_bind (wpAny_bind (wpAny_isInstance S.type sub_ss (wpAny_pure ?_)))
 simp only [if_true]
 refine wpAny_bind (new_at ?_)
 show wpAny _ _ (do setMerge s.heap.objs.size a; pure (Value.ref s.heap.objs.size)) _ _ _
 have lt : a < s.heap.objs.size := by
  obtain ⟨_, _, _, ho, _⟩ := S
  exact Heap.lt_size ho
 have k : ∀ b o, s.heap.get? b = some o → (s.heap.push (setO #[] 0 (.fresh 0 0 (!byT w)))).get? b = some o := fun b o e => Heap.get?_push_of_some _ e
 refine wpAny_bind (merge_at (s := { s with heap := s.heap.push (setO #[] 0 (.fresh 0 0 (!byT w))) }) (L1 := []) (Nat.ne_of_gt lt) ⟨#[], 0, _, Heap.get?_push_size _ rfl, .nil, fresh_tb _⟩ (S.keep (k a)) (D.keep (k a)) (fun s' Q' _ q => wpAny_pure q) fun h' L sb S' mem => ?_)
 refine wpAny_pure (h h' L (fun b o e => ?_) S' fun u => by rw [mem u]; simp)
 have lb := Heap.lt_size e
 rw [sb.2 b (Nat.ne_of_lt lb)]
 exact k b o e
theorem epoch_at {es : Array (Int × Value)} {ep : Nat} {t : SetTable} {B : Bool} {Q : Nat → Shared → Prop} (ho : s.heap.get? a = some (setO es ep t)) (hE : Es es L1) (T : Tb B t L1) (h : Q ep s) : wpAny (model prog w) A (setEpoch a) Q E s :=
 wpAny_setEpoch_of ho rfl (by rw [hE.len]; exact T.fits) h
theorem union_at {id : String} {Q : Value → Shared → Prop} (ne : a ≠ b) (S1 : SetAt (byT w) s.heap a L1) (D1 : Dense s.heap a) (S2 : SetAt (byT w) s.heap b L2) (D2 : Dense s.heap b)
  (h : ∀ h' L, (∀ b o, s.heap.get? b = some o → h'.get? b = some o) → SetAt (byT w) h' s.heap.objs.size L → (∀ u, u ∈ L ↔ u ∈ L1 ∨ u ∈ L2) → Q (.ref s.heap.objs.size) { s with heap := h' }) :
  wpAny (model prog w) A (unionM id a (.ref b)) Q E s := by
 unfold unionM
 refine wpAny_bind (copy_at S1 D1 fun h1 L k S mem => ?_)
 have nb : (Value.ref b != Value.ref a) = true := by simp [Ne.symm ne]
 rw [nb]
 simp only [if_true]
 have S2' := S2.keep (k b)
 have D2' := D2.keep (k b)
 have lt : b < s.heap.objs.size := by
  obtain ⟨_, _, _, ho, _⟩ := S2
  exact Heap.lt_size ho
 have S2c := S2'
 obtain ⟨es, ep, t, ho, hE, T⟩ := S2c
 show wpAny _ _ (holding [Value.ref s.heap.objs.size] (updateFrom id s.heap.objs.size (.ref b)) >>= fun _ => pure (Value.ref s.heap.objs.size)) _ _ _
 refine wpAny_bind (wpAny_holding ?_)
 unfold updateFrom
 refine wpAny_bind (any_at (s := { s with heap := h1 }) S2' ?_)
 simp only [if_true]
 show wpAny _ _ (merge id s.heap.objs.size b) _ _ _
 unfold merge
 refine wpAny_bind (epoch_at (s := { s with heap := h1 }) ho hE T ?_)
 refine merge_at (s := { s with heap := h1 }) (Nat.ne_of_gt lt) S S2' D2' (fun s' Q' ks q => ?_) fun h' L' sb S' mem' => ?_
 ·unfold unchanged
  refine wpAny_bind (epoch_at (s := s') (ks _ ho) hE T ?_)
  simp only [bne_self_eq_false, Bool.false_eq_true, if_false]
  exact wpAny_pure q
 ·refine wpAny_pure (h h' L' (fun c o e => ?_) S' fun u => by rw [mem' u, mem u])
  rw [sb.2 c (Nat.ne_of_lt (Heap.lt_size e))]
  exact k c o e
theorem or_at {Q : Value → Shared → Prop} (ne : a ≠ b) (S1 : SetAt (byT w) s.heap a L1) (D1 : Dense s.heap a) (S2 : SetAt (byT w) s.heap b L2) (D2 : Dense s.heap b)
  (h : ∀ h' L, (∀ b o, s.heap.get? b = some o → h'.get? b = some o) → SetAt (byT w) h' s.heap.objs.size L → (∀ u, u ∈ L ↔ u ∈ L1 ∨ u ∈ L2) → Q (.ref s.heap.objs.size) { s with heap := h' }) :
  wpAny (model prog w) A (binaryOp .BitOr (.ref a) (.ref b)) Q E s := by
 refine wpAny_binaryOp_same S1.type S2.type F.fills_set_or F.slot_set_or (wpAny_call_entry F.slot_set_or S1.type entry_or ?_ (F.args_set_or_2 _ _))
 rw [or_eq]
 refine wpAny_bind (m := slot1 "__or__" _) (wpAny_pure ?_)
 dsimp only
 unfold andM
 refine wpAny_bind (wpAny_bind (any_at S1 ?_))
 refine any_at S2 ?_
 simp only [Bool.not_true, Bool.false_eq_true, if_false]
 show wpAny _ _ (unionM _ a (.ref b) >>= fun v => ret v) _ _ _
 refine wpAny_bind (union_at ne S1 D1 S2 D2 fun h' L k S mem => ?_)
 exact wpAny_pure ⟨_, rfl, by simp, h h' L k S mem⟩
end
end Sm
set_option maxHeartbeats 4000000
namespace Sm
open PySem
theorem slot_si_next : Slot "set_iterator" "__next__" "set_iterator.__next__" := .of (owner := "set_iterator") (n := "__next__") (by rw [typeLookup_type, builtinLookup_eq_fast]; kernel_rfl) (by decide +kernel) (by decide +kernel) (by decide +kernel) (by first | exact .inl (by decide +kernel) | exact .inr (by decide +kernel)) (by rw [isSubtype_type]; kernel_rfl)
theorem entry_si_next : entryFor table "set_iterator.__next__" = some Builtin.«set_iterator.__next__» := entryFor_of_fast (by kernel_rfl)
theorem args_si_next (a : Value) : argsOk "set_iterator.__next__" ⟨[a], []⟩ := by unfold argsOk; kernel_rfl
theorem slot_si_iter : Slot "set_iterator" "__iter__" "set_iterator.__iter__" := .of (owner := "set_iterator") (n := "__iter__") (by rw [typeLookup_type, builtinLookup_eq_fast]; kernel_rfl) (by decide +kernel) (by decide +kernel) (by decide +kernel) (by first | exact .inl (by decide +kernel) | exact .inr (by decide +kernel)) (by rw [isSubtype_type]; kernel_rfl)
theorem args_si_iter (a : Value) : argsOk "set_iterator.__iter__" ⟨[a], []⟩ := by unfold argsOk; kernel_rfl
end Sm
set_option maxHeartbeats 4000000
namespace Sm
open PySem
theorem entry_si_iter : entryFor table "set_iterator.__iter__" = some Builtin.«dict_keyiterator.__iter__» := entryFor_alias (id' := "dict_keyiterator.__iter__") (by kernel_rfl) rfl (by decide +kernel) (by kernel_rfl)
def walked (w : World) (a : Addr) (ep : Nat) (es : Array (Int × Value)) : Array (Int × Value) := if byT w = true then pickOrder (w.params.setOrder a ep) es else es
theorem walked_perm (w : World) (a : Addr) (ep : Nat) (es : Array (Int × Value)) : (walked w a ep es).toList.Perm es.toList := by
 unfold walked
 split
 ·exact pick_perm _ _
 ·exact .rfl
theorem walked_size (w : World) (a : Addr) (ep : Nat) (es : Array (Int × Value)) : (walked w a ep es).size = es.size := by
 have := (walked_perm w a ep es).length_eq
 simpa using this
theorem next_eq (a : Addr) (slot given epochThen : Nat) : setNext a slot given epochThen = (do
 let (xs, c, tb) ← setState a
 if ← setsByText then
  if c != epochThen then
   unsupported "set_iterator.__next__:elements-changed"
  let zs ← setWalk a
  return (zs[given]?).map fun z => (z.2, slot)
 if !tb.plain && xs.size > 1 then
  unsupported "set_iterator.__next__:the-table-is-plain-no-more"
 (do if !tb.led && !xs.isEmpty then unsupported "set:maker-not-led" : Sem Unit)
 return match xs[SetTable.below tb.place slot]?, tb.place[SetTable.below tb.place slot]? with
  | some (_, z), some m => some (z, m + 1)
  | _, _ => none) := rfl
def slotOf (B : Bool) (t : SetTable) (i : Nat) : Nat := if B = true then 0 else if i = 0 then 0 else t.place.getD (i - 1) 0 + 1
theorem below_slot {B : Bool} {t : SetTable} {L : List Nat} (T : Tb B t L) (hB : B = false) : ∀ i, i ≤ L.length → SetTable.below t.place (slotOf B t i) = i
 | 0, _ => by
  unfold slotOf
  rw [hB]
  exact below_zero T.up
 | k + 1, h => by
  unfold slotOf
  rw [hB]
  have hk : k < t.place.size := by rw [T.sz]; omega
  simp only [Bool.false_eq_true, if_false, Nat.add_sub_cancel]
  rw [if_neg (by omega)]
  have : t.place.getD k 0 = t.place[k] := by simp [Array.getD, hk]
  rw [this]
  exact below_next T.up hk
section
variable {prog : Program} {w : World} {A : Around} {E : Value → Shared → Prop} {s : Shared} {a : Addr} {L : List Nat}
theorem walk_is {es : Array (Int × Value)} {ep : Nat} {t : SetTable} {Q : Array (Int × Value) → Shared → Prop} (ho : s.heap.get? a = some (setO es ep t)) (hE : Es es L) (T : Tb (byT w) t L)
  (h : Q (walked w a ep es) s) : wpAny (model prog w) A (setWalk a) Q E s := by
 rw [walk_eq]
 refine wpAny_bind (state_at ho hE T ?_)
 refine wpAny_bind (byText_at ?_)
 have pl := T.pl
 have ld := T.led
 unfold walked at h
 cases c : byT w with
 | true =>
  rw [c] at h
  simp only [if_true] at h ⊢
  exact wpAny_bind (wpAny_askSetting (wpAny_pure h))
 | false =>
  rw [c] at ld h
  simp only [pl, ld, Bool.not_true, Bool.not_false, Bool.false_and, Bool.false_eq_true, if_false] at h ⊢
  first | exact wpAny_bind (wpAny_pure (wpAny_pure h)) | exact wpAny_pure h
theorem snext_at {es : Array (Int × Value)} {ep i : Nat} {t : SetTable} {Q : Option (Value × Nat) → Shared → Prop} (ho : s.heap.get? a = some (setO es ep t)) (hE : Es es L) (T : Tb (byT w) t L) (hi : i ≤ L.length)
  (h : Q (((walked w a ep es)[i]?).map fun e => (e.2, slotOf (byT w) t (i + 1))) s) : wpAny (model prog w) A (setNext a (slotOf (byT w) t i) i ep) Q E s := by
 rw [next_eq]
 refine wpAny_bind (state_at ho hE T ?_)
 refine wpAny_bind (byText_at ?_)
 have pl := T.pl
 have ld := T.led
 cases c : byT w with
 | true =>
  simp only [if_true, bne_self_eq_false, Bool.false_eq_true, if_false]
  refine wpAny_bind (walk_is ho hE T (wpAny_pure ?_))
  rw [c] at h
  unfold slotOf at h ⊢
  simp only [if_true] at h ⊢
  exact h
 | false =>
  rw [c] at ld h
  simp only [pl, ld, Bool.not_true, Bool.not_false, Bool.false_and, Bool.false_eq_true, if_false]
  have bs := below_slot T c i hi
  rw [c] at bs
  rw [bs]
  have wk : walked w a ep es = es := by unfold walked; rw [c]; rfl
  rw [wk] at h
  have e : (match es[i]?, t.place[i]? with
   | some (_, z), some m => some (z, m + 1)
   | _, _ => none) = (es[i]?).map fun e => (e.2, slotOf false t (i + 1)) := by
   by_cases q : i < L.length
   ·have h1 : i < es.size := by rw [hE.len]; exact q
    have h2 : i < t.place.size := by rw [T.sz]; exact q
    rw [Array.getElem?_eq_getElem h1, Array.getElem?_eq_getElem h2]
    unfold slotOf
    simp [Array.getD, h2]
   ·have h1 : es[i]? = none := Array.getElem?_eq_none (by rw [hE.len]; omega)
    rw [h1]
    rfl
  first
  | exact wpAny_bind (wpAny_pure (wpAny_pure (by rw [e]; exact h)))
  | exact wpAny_pure (by rw [e]; exact h)
abbrev itO (sl i : Nat) (a : Addr) (n ep : Nat) : Obj := { cls := .type "set_iterator", dict := none, data := .fields #[.int (sl : Nat) 0, .int (i : Nat) 0, .ref a, .int (n : Nat) 0, .int (ep : Nat) 0], slots := #[] }
theorem item_at {I : Addr} {es : Array (Int × Value)} {ep i : Nat} {t : SetTable} {e : Int × Value} {Q : Option Value → Shared → Prop} (ne : a ≠ I) (ho : s.heap.get? a = some (setO es ep t)) (hE : Es es L) (T : Tb (byT w) t L)
  (hI : s.heap.get? I = some (itO (slotOf (byT w) t i) i a L.length ep)) (hw : (walked w a ep es)[i]? = some e)
  (h : ∀ h', h'.get? I = some (itO (slotOf (byT w) t (i + 1)) (i + 1) a L.length ep) → Heap.SameBut I s.heap h' → Q (some e.2) { s with heap := h' }) : wpAny (model prog w) A (pyNext (.ref I)) Q E s := by
 have hi : i < L.length := by
  rcases Nat.lt_or_ge i (walked w a ep es).size with q | q
  ·rw [walked_size, hE.len] at q; exact q
  ·rw [Array.getElem?_eq_none q] at hw; cases hw
 have hT : s.TypeIs (.ref I) "set_iterator" := ⟨_, hI, rfl⟩
 unfold pyNext
 refine wpAny_bind (wpAny_attempt (wpAny_callSpecial?_slot (name := Str.ofString "__next__") hT slot_si_next (wpAny_call_entry slot_si_next hT entry_si_next ?_ (args_si_next _))))
 unfold Builtin.«set_iterator.__next__»
 refine wpAny_bind (m := slotArgs "__next__" 0 _) (wpAny_pure ?_)
 dsimp only
 refine wpAny_bind (wpAny_fieldsOf hI rfl ?_)
 dsimp only
 unfold setEntries
 refine wpAny_bind (wpAny_bind (state_at ho hE T (wpAny_pure ?_)))
 have z : (((es.size : Nat) : Int) != ((L.length : Nat) : Int)) = false := by rw [hE.len]; simp
 dsimp only
 rw [z]
 simp only [Bool.false_eq_true, if_false, Int.toNat_natCast]
 refine wpAny_bind (snext_at ho hE T (by omega) ?_)
 rw [hw]
 dsimp only [Option.map]
 refine wpAny_bind (wpAny_setField_rec hI (by simp) fun h1 hI1 sb1 => ?_)
 refine wpAny_bind (wpAny_setField_rec (s := { s with heap := h1 }) hI1 (by simp) fun h2 hI2 sb2 => ?_)
 refine wpAny_pure ⟨_, rfl, wpAny_pure (h h2 ?_ (sb1.trans sb2))⟩
 rw [hI2]
 simp [rawInt]
theorem end_at {I : Addr} {es : Array (Int × Value)} {ep : Nat} {t : SetTable} {Q : Option Value → Shared → Prop} (hh : A.handled = none) (ne : a ≠ I) (ho : s.heap.get? a = some (setO es ep t)) (hE : Es es L) (T : Tb (byT w) t L)
  (hI : s.heap.get? I = some (itO (slotOf (byT w) t L.length) L.length a L.length ep))
  (h : ∀ h', Heap.ExtBut I s.heap h' → Q none { s with heap := h' }) : wpAny (model prog w) A (pyNext (.ref I)) Q E s := by
 have hT : s.TypeIs (.ref I) "set_iterator" := ⟨_, hI, rfl⟩
 unfold pyNext
 refine wpAny_bind (wpAny_attempt (wpAny_callSpecial?_slot (name := Str.ofString "__next__") hT slot_si_next (wpAny_call_entry slot_si_next hT entry_si_next ?_ (args_si_next _))))
 unfold Builtin.«set_iterator.__next__»
 refine wpAny_bind (m := slotArgs "__next__" 0 _) (wpAny_pure ?_)
 dsimp only
 refine wpAny_bind (wpAny_fieldsOf hI rfl ?_)
 dsimp only
 unfold setEntries
 refine wpAny_bind (wpAny_bind (state_at ho hE T (wpAny_pure ?_)))
 have z : (((es.size : Nat) : Int) != ((L.length : Nat) : Int)) = false := by rw [hE.len]; simp
 dsimp only
 rw [z]
 simp only [Bool.false_eq_true, if_false, Int.toNat_natCast]
 refine wpAny_bind (snext_at ho hE T (by omega) ?_)
 rw [Array.getElem?_eq_none (by rw [walked_size, hE.len]; exact Nat.le_refl _)]
 dsimp only [Option.map]
 refine wpAny_bind (wpAny_setField_rec hI (by simp) fun h1 hI1 sb1 => ?_)
 refine wpAny_bind ?_
 simp only [newExc, newTuple]
 refine wpAny_bind (wpAny_newObj_type ?_ (by size_fits))
 refine wpAny_bind (m := firstArgMember _ _) (wpAny_of_eq (a := Value.none) (by first | rfl | (simp only [firstArgMember]; rfl)) ?_); refine wpAny_newObj_type ?_ (by size_fits)
 simp only [raiseNew]
 refine wpAny_bind (wpAny_handled ?_)
 rw [show A.in1.handled = none from hh]; refine wpAny_bind (wpAny_pure (wpAny_throw ?_))
 refine wpAny_bind (wpAny_isInstance (U := "StopIteration") (T := "StopIteration") (b := true) ⟨_, Heap.get?_push_size _ rfl, rfl⟩ isSubtype_stop ?_)
 exact wpAny_pure (h _ ((sb1.extBut.push _).push _))
end
end Sm
set_option maxHeartbeats 4000000
namespace Sm
open PySem PyProof.Rows
section
variable {prog : Program} {w : World} {A : Around} {E : Value → Shared → Prop} {s : Shared} {a : Addr} {L : List Nat}
theorem sWalks {I : Addr} {es : Array (Int × Value)} {ep : Nat} {t : SetTable} (hh : A.handled = none) (ne : a ≠ I) (hE : Es es L) (T : Tb (byT w) t L) :
  Walks prog w A I [I, a] [I] L.length (fun i v => ∃ e, (walked w a ep es)[i]? = some e ∧ v = e.2)
   (fun i h => h.get? I = some (itO (slotOf (byT w) t i) i a L.length ep) ∧ h.get? a = some (setO es ep t)) where
 sub := fun b hb => by simp at hb; simp [hb]
 frame := fun _ _ _ st hk => ⟨hk I (by simp) _ st.1, hk a (by simp) _ st.2⟩
 item := fun i s Q E hi st hQ => by
  obtain ⟨e, he⟩ : ∃ e, (walked w a ep es)[i]? = some e := ⟨_, Array.getElem?_eq_getElem (by rw [walked_size, hE.len]; exact hi)⟩
  refine item_at ne st.2 hE T st.1 he fun h' hI sb => ?_
  exact hQ _ h' s.toks ⟨e, he, rfl⟩ ⟨hI, by rw [sb.2 a ne]; exact st.2⟩ fun b o hb q => by rw [sb.2 b (fun c => hb (by simp [c]))]; exact q
 done := fun s Q E st hQ => end_at hh ne st.2 hE T st.1 fun h' xb => hQ h' s.toks fun b o hb q => xb b o (fun c => hb (by simp [c])) q
 self := fun i s Q E st hQ => by
  have hT : s.TypeIs (.ref I) "set_iterator" := ⟨_, st.1, rfl⟩
  refine wpAny_pyIter_slot hT slot_si_iter (wpAny_call_entry slot_si_iter hT entry_si_iter ?_ (args_si_iter _))
  show wpAny _ _ (ret (Value.ref I)) _ _ s; exact wpAny_pure ⟨_, rfl, "set_iterator", _, hT, slot_si_next.lookup, hQ⟩
theorem drawn_eq (a : Addr) : setDrawn a = (do
 let (es, _, t) ← setState a
 let byText ← setsByText
 return !byText && (!t.plain && es.size > 1)) := rfl
theorem iter_at {es : Array (Int × Value)} {ep : Nat} {t : SetTable} {Q : Value → Shared → Prop} (ho : s.heap.get? a = some (setO es ep t)) (hE : Es es L) (T : Tb (byT w) t L)
  (h : Q (.ref s.heap.objs.size) { s with heap := s.heap.push (itO 0 0 a L.length ep) }) : wpAny (model prog w) A (pyIter (.ref a)) Q E s := by
 have hT : s.TypeIs (.ref a) "set" := ⟨_, ho, rfl⟩
 refine wpAny_pyIter_slot hT F.slot_set_iter (wpAny_call_entry F.slot_set_iter hT entry_iter ?_ (F.args_set_iter_1 _))
 unfold Builtin.«frozenset.__iter__»
 refine wpAny_bind (m := Builtin.Frozenset.slot0 _ _) (wpAny_pure ?_)
 unfold Builtin.Frozenset.sizeOf setEntries
 refine wpAny_bind (wpAny_bind (wpAny_bind (state_at ho hE T (wpAny_pure (wpAny_pure ?_)))))
 rw [drawn_eq]
 refine wpAny_bind (wpAny_bind (state_at ho hE T ?_))
 refine wpAny_bind (byText_at (wpAny_pure ?_))
 rw [T.pl]
 simp only [Bool.not_true, Bool.false_and, Bool.and_false, Bool.false_eq_true, if_false]
 refine wpAny_bind (wpAny_pure ?_)
 refine wpAny_bind (epoch_at ho hE T ?_)
 refine wpAny_bind ?_
 unfold newFields
 refine wpAny_newObj_type ?_
 refine wpAny_pure ⟨_, rfl, "set_iterator", _, ⟨_, Heap.get?_push_size _ rfl, rfl⟩, slot_si_next.lookup, ?_⟩
 rw [hE.len]
 exact h
theorem no_list : (Value.type "set" == Value.type "list") = false := by decide
theorem no_tup : (Value.type "set" == Value.type "tuple") = false := by decide
theorem len_slot : typeLookup (.type "set") "__len__" = pure (some (.builtin "set.__len__")) := F.slot_set_len.lookup
theorem split_len : splitId "set.__len__" = some ("set", "__len__") := by decide +kernel
theorem collect_set {es : Array (Int × Value)} {ep : Nat} {t : SetTable} {Q : List Value → Shared → Prop} (hh : A.handled = none) (ho : s.heap.get? a = some (setO es ep t)) (hE : Es es L) (T : Tb (byT w) t L)
  (h : ∀ (h' : Heap) (tk : Nat), (∀ b o, s.heap.get? b = some o → h'.get? b = some o) → s.heap.objs.size < h'.objs.size → Q ((walked w a ep es).toList.map (·.2)) { s with heap := h', toks := tk }) : wpAny (model prog w) A (collect (.ref a)) Q E s := by
 have lt : a < s.heap.objs.size := Heap.lt_size ho
 unfold collect
 refine wpAny_bind (wpAny_runValue (codeAny_builtin F.entry_proto_collect ?_))
 rw [Around.under_plainId F.plain_proto_collect _]
 show wpAny _ A.in1 (newList [] >>= fun l => again (.builtin "list.__iadd__" ⟨[l, .ref a], []⟩)) _ _ s
 refine wpAny_bind (wpAny_newObj_type (wpAny_pure ⟨plainId_quiet F.plain_list_iadd _, codeAny_builtin F.entry_list_iadd ?_⟩))
 rw [Around.under_plainId F.plain_list_iadd _]
 have S0 : (s.heap.push { cls := .type "list", data := .seq ([] : List Value).toArray }).get? s.heap.objs.size = some { cls := .type "list", data := .seq ([] : List Value).toArray } := Heap.get?_push_size _ rfl
 have ho1 : (s.heap.push { cls := .type "list", data := .seq ([] : List Value).toArray }).get? a = some (setO es ep t) := Heap.get?_push_of_some _ ho
 have hT1 : Shared.TypeIs { s with heap := s.heap.push { cls := .type "list", data := .seq ([] : List Value).toArray } } (.ref a) "set" := ⟨_, ho1, rfl⟩
 show wpAny _ A.in1 (Builtin.List.listExtendWith (.ref s.heap.objs.size) (.ref a) (.ref s.heap.objs.size)) _ _ { s with heap := s.heap.push { cls := .type "list", data := .seq ([] : List Value).toArray } }
 unfold Builtin.List.listExtendWith
 refine wpAny_bind (wpAny_typeOf hT1 ?_)
 have n1 : Builtin.List.listSameRef (.ref s.heap.objs.size) (.ref a) = false := by simp [Builtin.List.listSameRef, Nat.ne_of_gt lt]
 simp only [n1, no_list, no_tup, Bool.or_false, Bool.false_eq_true, if_false]
 refine wpAny_bind (iter_at ho1 hE T ?_)
 refine wpAny_bind (wpAny_holding ?_)
 have ho2 : ((s.heap.push { cls := .type "list", data := .seq ([] : List Value).toArray }).push (itO 0 0 a L.length ep)).get? a = some (setO es ep t) := Heap.get?_push_of_some _ ho1
 have hT2 : Shared.TypeIs { s with heap := (s.heap.push { cls := .type "list", data := .seq ([] : List Value).toArray }).push (itO 0 0 a L.length ep) } (.ref a) "set" := ⟨_, ho2, rfl⟩
 unfold Builtin.List.listLengthHint
 refine wpAny_bind (wpAny_specialOf hT2 len_slot ?_)
 dsimp only
 rw [split_len]
 dsimp only
 refine wpAny_bind (wpAny_isInstance hT2 sub_ss ?_)
 rw [if_neg (by decide)]
 rw [if_pos (by decide +kernel)]
 refine wpAny_bind (wpAny_typeOf hT2 ?_)
 dsimp only
 refine wpAny_pure ?_
 rw [if_pos (by decide +kernel)]
 refine wpAny_bind (wpAny_rule ?_)
 have lsz : (s.heap.push { cls := .type "list", data := .seq ([] : List Value).toArray }).objs.size = s.heap.objs.size + 1 := size_push' _ _
 have S1 : ((s.heap.push { cls := .type "list", data := .seq ([] : List Value).toArray }).push (itO 0 0 a L.length ep)).get? s.heap.objs.size = some { cls := .type "list", data := .seq ([] : List Value).toArray } := Heap.get?_push_of_some _ S0
 refine wpAny_bind ?_
 show wpAny _ A.in1 (updateSeq s.heap.objs.size (·.push .none) >>= fun _ => updateSeq s.heap.objs.size (·.pop)) _ _ _
 refine wpAny_bind (wpAny_updateSeq S1 rfl ?_)
 have S2 := Heap.get?_update_self (Obj.mapSeq (·.push Value.none)) S1 rfl
 refine wpAny_updateSeq S2 rfl ?_
 have S3 := Heap.get?_update_self (Obj.mapSeq (·.pop)) S2 rfl
 have oth : ∀ b o, b ≠ s.heap.objs.size → ((s.heap.push { cls := .type "list", data := .seq ([] : List Value).toArray }).push (itO 0 0 a L.length ep)).get? b = some o →
   ((((s.heap.push { cls := .type "list", data := .seq ([] : List Value).toArray }).push (itO 0 0 a L.length ep)).update s.heap.objs.size (Obj.mapSeq (·.push Value.none))).update s.heap.objs.size (Obj.mapSeq (·.pop))).get? b = some o :=
  fun b o hb e => (Heap.get?_update_other _ _ (Ne.symm hb)).trans ((Heap.get?_update_other _ _ (Ne.symm hb)).trans e)
 have neI : a ≠ (s.heap.push { cls := .type "list", data := .seq ([] : List Value).toArray }).objs.size := by rw [lsz]; exact Nat.ne_of_lt (Nat.lt_succ_of_lt lt)
 have W := (sWalks (prog := prog) (w := w) (A := A.in1) (I := (s.heap.push { cls := .type "list", data := .seq ([] : List Value).toArray }).objs.size) (ep := ep) (by simpa using hh) neI hE T).toS
 have l16 := T.len
 have sl0 : slotOf (byT w) t 0 = 0 := by unfold slotOf; split <;> rfl
 refine wpAny_pure ⟨plainId_quiet F.plain_extend_loop _, codeAny_extend_loopS W (by rw [sizeLine_eq]; omega) _ (by
   rw [lsz]; simp only [List.mem_cons, List.not_mem_nil, or_false, not_or]; exact ⟨Nat.ne_of_lt (Nat.lt_succ_self _), Nat.ne_of_gt lt⟩) _ _ 0 _ #[] _ rfl (Nat.zero_le _) ⟨?_, ?_⟩ S3 (ItemsOf.nil _) fun s' acc' c' hm hS' hacc => ?_⟩
 ·refine oth _ _ (by rw [lsz]; exact Nat.ne_of_gt (Nat.lt_succ_self _)) ?_
  rw [sl0]
  exact Heap.get?_push_size _ rfl
 ·exact oth _ _ (Nat.ne_of_lt lt) ho2
 ·obtain ⟨h', g', d', tk', os'⟩ := s'
  have eg : g' = s.gens := hm.gens
  have ed : d' = s.drawn := hm.drawn
  have eo : os' = s.os := hm.os
  subst eg; subst ed; subst eo
  show wpAny _ A (load s.heap.objs.size >>= _) _ _ _
  refine wpAny_bind (wpAny_load hS' ?_)
  dsimp only
  have el : acc'.toList = (walked w a ep es).toList.map (·.2) := by
   apply List.ext_getElem?
   intro i
   rw [Array.getElem?_toList, List.getElem?_map, Array.getElem?_toList]
   rcases Nat.lt_or_ge i acc'.size with q | q
   ·obtain ⟨e, he, hv⟩ := hacc.2 i acc'[i] (Array.getElem?_eq_getElem q)
    rw [Array.getElem?_eq_getElem q, he, hv]
    rfl
   ·rw [Array.getElem?_eq_none q, Array.getElem?_eq_none (by rw [walked_size, hE.len, ← hacc.1]; exact q)]
    rfl
  rw [el]
  refine wpAny_pure (h h' tk' (fun b o e => ?_) (Heap.lt_size hS'))
  have lb : b < s.heap.objs.size := Heap.lt_size e
  refine hm.heap b o (by rw [lsz]; simp only [List.mem_cons, List.not_mem_nil, or_false, not_or]; exact ⟨Nat.ne_of_lt lb, Nat.ne_of_lt (Nat.lt_succ_of_lt lb)⟩) (oth b o (Nat.ne_of_lt lb) (Heap.get?_push_of_some _ (Heap.get?_push_of_some _ e)))
theorem sh_old {h : Heap} {a b : Addr} {vs : List Value} {out : Array Value} {o : Obj} (lb : b < h.objs.size) (ne : b ≠ a) (e : h.get? b = some o) : (sortedHeap h a vs out).get? b = some o := by
 unfold sortedHeap
 rw [Heap.get?_update_ne _ _ _ _ ne]
 exact Heap.get?_push_of_some _ (Heap.get?_push_of_some _ (by rw [Heap.get?_update_ne _ _ _ _ ne]; exact e))
theorem sh_at {h : Heap} {a : Addr} {vs : List Value} {xs out : Array Value} {n : Nat} (e : h.get? a = some (seqObj "list" xs n)) : ∃ n', (sortedHeap h a vs out).get? a = some (seqObj "list" out n') := by
 unfold sortedHeap
 exact ⟨_, get?_update_seq (Heap.get?_push_of_some _ (Heap.get?_push_of_some _ (get?_update_seq e fun _ => #[]))) fun _ => out⟩
theorem sorted_set {Q : Value → Shared → Prop} (hh : A.handled = none) (S : SetAt (byT w) s.heap a L)
  (h : ∀ (h' : Heap) (tk : Nat) (p : Addr) (vs : List Value) (n : Nat) (ns : List Int), (∀ b o, s.heap.get? b = some o → h'.get? b = some o) → s.heap.objs.size ≤ p → h'.get? p = some (seqObj "list" vs.toArray n) → IntsAre vs ns →
   ns.Perm (L.map fun v => ((v : Nat) : Int)) → ns.Pairwise (· ≤ ·) → Q (.ref p) { s with heap := h', toks := tk }) : wpAny (model prog w) A (call (.builtin "sorted") [.ref a]) Q E s := by
 obtain ⟨es, ep, t, ho, hE, T⟩ := S
 have l16 := T.len
 apply Calls.call_function_entry kind_sorted plain_sorted entry_sorted (args_sorted1 _)
 unfold Builtin.«sorted»
 refine wpAny_bind (m := checkCount "sorted" 1 1 _) (wpAny_pure ?_); refine wpAny_bind (collect_set (by simpa using hh) ho hE T fun h1 tk k lz => ?_)
 obtain ⟨L', hP, pm⟩ := hE.perm (walked_perm w a ep es)
 have hl : L'.length = L.length := pm.length_eq
 have hI : IntsAre ((walked w a ep es).toList.map (·.2)) (L'.map fun v => ((v : Nat) : Int)) := by
  generalize (walked w a ep es).toList = l at hP
  clear pm hl
  induction hP with
  | nil => exact .nil
  | cons r _ ih =>
   obtain ⟨q, e⟩ := r.2
   rw [List.map_cons, List.map_cons, e]
   exact .cons _ q ih
 have hn : ((walked w a ep es).toList.map (·.2)).length = L.length := by rw [List.length_map, Array.length_toList, walked_size, hE.len]
 refine wpAny_bind (wpAny_newList ?_ (by rw [hn, sizeLine_eq]; omega))
 have o1 : (h1.push (seqObj "list" ((walked w a ep es).toList.map (·.2)).toArray 0)).get? h1.objs.size = some (seqObj "list" ((walked w a ep es).toList.map (·.2)).toArray 0) := Heap.get?_push_size _ rfl
 refine wpAny_bind (wpAny_holding (wpAny_call_entry slot_list_sort ⟨_, o1, rfl⟩ entry_list_sort (list_sort_tree o1 hI (by rw [hn]; omega) fun out ns a1 a2 a3 => ⟨_, rfl, ?_⟩) (args_list_sort _)))
 obtain ⟨n', o2⟩ := sh_at (vs := (walked w a ep es).toList.map (·.2)) (out := out) o1
 refine wpAny_pure ⟨_, rfl, h _ _ _ out.toList n' ns (fun b o e => ?_) (Nat.le_of_lt lz) (by simpa using o2) a1 (a2.trans (pm.map _)) a3⟩
 have lb : b < h1.objs.size := Nat.lt_trans (Heap.lt_size e) lz
 exact sh_old (by rw [size_push']; exact Nat.lt_succ_of_lt lb) (Nat.ne_of_lt lb) (Heap.get?_push_of_some _ (k b o e))
end
end Sm
set_option maxHeartbeats 4000000
namespace Sm
open PySem PyProof.Rows
section
variable {prog : Program} {w : World} {A : Around} {R : Result → Shared → Prop} {I : Addr} {fp wr : List Addr} {G : Array GenState → Array GenState → Prop} {n : Nat} {P : Nat → Value → Prop} {St : Nat → Shared → Prop}
theorem fill_at (W : WalksS prog w A.in1 I fp wr G n P St) (S : Addr) (nf : S ∉ fp) (val : Nat → Nat) (hv : ∀ i v, i < n → P i v → ∃ t, v = .int ((val i : Nat) : Int) t) (lt : ∀ i, i < n → val i < 16) :
  ∀ (k i : Nat) (s : Shared) (L : List Nat), n - i = k → i ≤ n → St i s → SetAt (byT w) s.heap S L → Dense s.heap S → (∀ u, u ∈ L ↔ ∃ j, j < i ∧ val j = u) →
   (∀ s' L', Moved (S :: wr) G s s' → SetAt (byT w) s'.heap S L' → Dense s'.heap S → (∀ u, u ∈ L' ↔ ∃ j, j < n ∧ val j = u) → R (.ok (.ret .none)) s') →
   codeAny (model prog w) A (.builtin "set.update.loop" ⟨[.ref S, .ref I], []⟩) R s := by
 have nw : S ∉ wr := fun h => nf (W.sub _ h)
 have up : ∀ b ∈ wr, b ∈ S :: wr := fun b hb => List.mem_cons_of_mem _ hb
 intro k
 induction k with
 | zero =>
  intro i s L hk hi st hS hD mem hR
  obtain rfl : i = n := by omega
  refine codeAny_builtin F.entry_set_update_loop ?_
  rw [Around.under_plainId F.plain_set_update_loop _]; show wpAny _ A.in1 (pyNext (.ref I) >>= _) _ _ s; refine wpAny_bind (W.done s _ _ st fun s' hm => ?_)
  exact wpAny_pure (hR s' L (hm.mono up) (hS.keep fun o e => hm.heap S o nw e) (hD.keep fun o e => hm.heap S o nw e) mem)
 | succ k ih =>
  intro i s L hk hi st hS hD mem hR
  have li : i < n := by omega
  refine codeAny_builtin F.entry_set_update_loop ?_
  rw [Around.under_plainId F.plain_set_update_loop _]; show wpAny _ A.in1 (pyNext (.ref I) >>= _) _ _ s; refine wpAny_bind (W.item i s _ _ li st fun v s' hP st' hm => ?_)
  obtain ⟨t, rfl⟩ := hv i v li hP
  have hS' := hS.keep fun o e => hm.heap S o nw e
  have hD' := hD.keep fun o e => hm.heap S o nw e
  show wpAny _ A.in1 (holding [Value.int ((val i : Nat) : Int) t] (setAdd S (.int ((val i : Nat) : Int) t)) >>= _) _ _ s'
  refine wpAny_bind (wpAny_holding ?_)
  unfold setAdd
  refine wpAny_holding (wpAny_bind ((intKind prog w).pyHash (k := ((val i : Nat) : Int)) (intKind_is _ _ _ _) ?_))
  have eh : (intKind prog w).hash ((val i : Nat) : Int) = ((val i : Nat) : Int) := hash16 _ (lt i li)
  rw [eh]
  refine add_at (s := { s' with toks := s'.toks + 1 }) hS' (lt i li) fun b h' L' sb S2 mem2 dn => ?_
  refine wpAny_pure ⟨plainId_quiet F.plain_set_update_loop _, ih (i + 1) _ L' (by omega) li (W.frame _ s' _ _ st' (Nat.le_succ _) fun c hc o e => ?_) S2 (dn hD') (fun u => ?_) fun s2 L2 hm2 h2 h3 h4 => hR s2 L2 (Moved.trans W.gtrans ((hm.mono up).then_heap (Nat.le_succ _) fun c o hc e => ?_) hm2) h2 h3 h4⟩
  ·rw [sb.2 c (fun q : c = S => nf (by rw [← q]; exact hc))]; exact e
  ·rw [mem2 u, mem u]
   constructor
   ·rintro (rfl | ⟨j, hj, e⟩)
    ·exact ⟨i, Nat.lt_succ_self _, rfl⟩
    ·exact ⟨j, Nat.lt_succ_of_lt hj, e⟩
   ·rintro ⟨j, hj, e⟩
    rcases Nat.lt_or_ge j i with q | q
    ·exact .inr ⟨j, q, e⟩
    ·obtain rfl : j = i := by omega
     exact .inl e.symm
  ·rw [sb.2 c (fun q : c = S => hc (by rw [q]; exact List.mem_cons_self))]; exact e
end
section
variable {prog : Program} {w : World} {A : Around} {E : Value → Shared → Prop} {s : Shared}
theorem newS_at (a : Value) {Q : Value → Shared → Prop} (h : Q (.ref s.heap.objs.size) { s with heap := s.heap.push (setO #[] 0 (.fresh 0 0 (!byT w))) }) :
  codeAny (model prog w) A (.call (.builtin "set.__new__") ⟨[.type "set", a], []⟩) (wants Q E) s := by
 refine codeAny_of_tree ?_
 show wpAny _ A.in1 (do checkBuiltinCall "set.__new__" ⟨[.type "set", a], []⟩; again (.builtin "set.__new__" ⟨[.type "set", a], []⟩)) _ _ s; refine wpAny_bind (wpAny_of_eq (F.newCall_set_1 a) (wpAny_pure ⟨plainId_quiet F.plain_set_new _, codeAny_builtin F.entry_set_new ?_⟩))
 rw [Around.under_plainId F.plain_set_new _]
 unfold Builtin.«set.__new__» Builtin.Frozenset.newClass
 have hsub := sub_set_self
 obtain ⟨hp, g, d, tk, os⟩ := s
 dsimp only at h ⊢
 wp_walk
 refine wpAny_askSetting (wpAny_pure ?_)
 dsimp only
 simp only [newObj]
 exact wpAny_bind (wpAny_alloc (wpAny_pure (wpAny_pure h)))
set_option maxHeartbeats 8000000 in
theorem set_at {l : Addr} {items : Array Value} {vals : List Nat} {Q : Value → Shared → Prop} (hh : A.handled = none) (hl : s.heap.IsList l items) (hi : IntsAre items.toList (vals.map fun v => ((v : Nat) : Int))) (lt : ∀ v ∈ vals, v < 16)
  (h : ∀ (h' : Heap) (tk : Nat) (L : List Nat), SetAt (byT w) h' s.heap.objs.size L → Dense h' s.heap.objs.size → (∀ u, u ∈ L ↔ u ∈ vals) → (∀ b o, b < s.heap.objs.size → s.heap.get? b = some o → h'.get? b = some o) → Q (.ref s.heap.objs.size) { s with heap := h', toks := tk }) :
  wpAny (model prog w) A (call (.type "set") [.ref l]) Q E s := by
 obtain ⟨c, tl, hmro⟩ := F.called_set.mro
 have hmade := F.called_set.made
 have hsub := F.called_set.sub
 have hlen : items.size = vals.length := by
  have := hi.length
  simpa using this
 refine wpAny_call (codeAny_of_tree ?_)
 show wpAny _ _ (callAny (.type "set") _) _ _ _; refine wpAny_pure ⟨Code.quiet_builtin _ (by decide +kernel), codeAny_builtin F.entry_type_call ?_⟩
 rw [Around.under_plain (weight_type_call_type "set" [.ref l] []) rfl]; have h1 := F.called_set.notType
 have h2 := F.called_set.canCreate
 have hct := F.typeCall_set_1 (.ref l)
 repeat (any_goals (first | assumption | wp_step))
 refine codeAny_mono (newS_at (.ref l) (E := E) (Q := fun obj s₁ => obj = .ref s.heap.objs.size ∧ s₁ = { s with heap := s.heap.push (setO #[] 0 (.fresh 0 0 (!byT w))) }) ⟨rfl, rfl⟩) fun r s₁ hr => ?_
 cases r with
 | error e => exact hr
 | ok fl =>
  cases fl with
  | ret obj =>
   obtain ⟨rfl, rfl⟩ := hr
   have gS : (s.heap.push (setO #[] 0 (.fresh 0 0 (!byT w)))).get? s.heap.objs.size = some (setO #[] 0 (.fresh 0 0 (!byT w))) := Heap.get?_push_size _ rfl
   have hT : Shared.TypeIs { s with heap := s.heap.push (setO #[] 0 (.fresh 0 0 (!byT w))) } (.ref s.heap.objs.size) "set" := ⟨_, gS, rfl⟩
   have hli := F.called_set.init.lookup
   have hbi := F.called_set.init.bind (.ref s.heap.objs.size)
   repeat (any_goals (first | assumption | wp_step))
   refine codeAny_mono (codeAny_call_builtin (R := wants (fun r s₂ => r = .none ∧ ∃ h' tk L, s₂ = { s with heap := h', toks := tk } ∧ SetAt (byT w) h' s.heap.objs.size L ∧ Dense h' s.heap.objs.size ∧ (∀ u, u ∈ L ↔ u ∈ vals) ∧
     (∀ b o, b < s.heap.objs.size → s.heap.get? b = some o → h'.get? b = some o)) E) F.called_set.init.plain F.entry_set_init (check_set_init_1 hT ?_)) fun r₂ s₂ hr₂ => ?_
   ·obtain ⟨ol, hol, hcl, nl, hdl⟩ := hl
    obtain ⟨ocls, odict, odata, oslots⟩ := ol
    simp only at hcl hdl
    subst hcl; subst hdl
    have hol' : (s.heap.push (setO #[] 0 (.fresh 0 0 (!byT w)))).get? l = some { cls := .type "list", dict := odict, data := .seq items nl, slots := oslots } := Heap.get?_push_of_some _ hol
    have hsls := F.sub_list_set
    have hslf := F.sub_list_frozenset
    have hne : (Value.type "list" == Value.type "dict") = false := by decide
    have hl1 : (s.heap.push (setO #[] 0 (.fresh 0 0 (!byT w)))).IsList l items := ⟨_, hol', rfl, nl, rfl⟩
    unfold Builtin.«set.__init__» noKeywords Builtin.Frozenset.updateFrom
    generalize hPI : pyIter = PI
    wp_walk
    subst hPI
    refine wpAny_pyIter_list hl1 (wpAny_bind (wpAny_runValue ?_))
    have ll : l < s.heap.objs.size := Heap.lt_size hol
    have hh3 : A.in1.in1.in1.handled = none := by simp [hh]
    have ni : l ≠ (s.heap.push (setO #[] 0 (.fresh 0 0 (!byT w)))).objs.size := by rw [Heap.size_push]; exact Nat.ne_of_lt (Nat.lt_succ_of_lt ll)
    have nf : s.heap.objs.size ∉ [(s.heap.push (setO #[] 0 (.fresh 0 0 (!byT w)))).objs.size, l] := by
     rw [Heap.size_push]; simp only [List.mem_cons, List.not_mem_nil, or_false, not_or]
     exact ⟨Nat.ne_of_lt (Nat.lt_succ_self _), Nat.ne_of_gt ll⟩
    have hval : ∀ (i : Nat) (v : Value), i < items.size → items[i]? = some v → ∃ t, v = .int (((fun i => vals.getD i 0) i : Nat) : Int) t := fun i v li hv => by
     obtain ⟨t, e⟩ := PyProof.Rows.IntsAre.int_at hi i v (by rw [Array.getElem?_toList]; exact hv)
     have lv : i < vals.length := by omega
     refine ⟨t, ?_⟩
     rw [e]
     simp [List.getD, lv]
    refine fill_at ((Walks.list hh3 _ l ni items).toS) s.heap.objs.size nf (fun i => vals.getD i 0) hval (fun i li => ?_) (items.size - 0) 0 _ [] (by omega) (Nat.zero_le _) ⟨⟨_, Heap.get?_push_size _ rfl, rfl, rfl⟩, (hl1.push _)⟩ ?hS0 ?hD0 (fun u => by simp) ?hR
    ·have lv : i < vals.length := by omega
     refine lt _ ?_
     simp [List.getD, lv]
    case hS0 => exact ⟨#[], 0, _, Heap.get?_push_of_some _ gS, .nil, fresh_tb _⟩
    case hD0 => exact ⟨#[], 0, _, Heap.get?_push_of_some _ gS, .inl rfl⟩
    case hR =>
     intro s' L' hm hS' hD' mem
     obtain ⟨h', g', d', tk', os'⟩ := s'
     have eg : g' = s.gens := hm.gens
     have ed : d' = s.drawn := hm.drawn
     have eo : os' = s.os := hm.os
     subst eg; subst ed; subst eo
     show wpAny _ _ _ _ _ _
     refine wpAny_pure ?_
     show wpAny _ _ (ret Value.none) _ _ _; refine wpAny_pure ⟨rfl, h', tk', L', rfl, hS', hD', fun u => ?_, fun b o hb e => ?_⟩
     ·rw [mem u]
      constructor
      ·rintro ⟨j, hj, rfl⟩
       have lv : j < vals.length := by omega
       simp [List.getD, lv]
      ·intro hu
       obtain ⟨j, hj, e⟩ := List.getElem_of_mem hu
       exact ⟨j, by omega, by simp [List.getD, hj, e]⟩
     ·have b1 : b ≠ s.heap.objs.size := Nat.ne_of_lt hb
      have b2 : b ≠ (s.heap.push (setO #[] 0 (.fresh 0 0 (!byT w)))).objs.size := by rw [Heap.size_push]; exact Nat.ne_of_lt (Nat.lt_succ_of_lt hb)
      exact hm.heap b o (by simp only [List.mem_cons, List.not_mem_nil, or_false, not_or]; exact ⟨b1, b2⟩) (Heap.get?_push_of_some _ (Heap.get?_push_of_some _ e))
   ·cases r₂ with
    | error e => exact hr₂
    | ok fl₂ =>
     cases fl₂ with
     | ret r =>
      obtain ⟨rfl, h', tk, L, rfl, q1, q2, q3, q4⟩ := hr₂
      repeat (any_goals (first | assumption | wp_step))
      exact h _ _ L q1 q2 q3 q4
     | _ => exact hr₂.elim
  | _ => exact hr.elim
end
end Sm
set_option maxHeartbeats 4100000
namespace L2
open PySem PySem.Spec PyProof.Rows Sm
def SetV (w : World) (a : Addr) (d : Bool) (L : List Nat) : HO := .ext fun h => SetAt (byT w) h a L ∧ (d = true → Dense h a)
def Small (ns : List Int) : Prop := ∀ n ∈ ns, 0 ≤ n ∧ n < 16
def upF (p : Int → Bool) : List Int := ((List.range 16).map fun i => ((i : Nat) : Int)).filter p
theorem upF_up (p : Int → Bool) : (upF p).Pairwise (· < ·) := by
 unfold upF
 refine List.Pairwise.filter _ ?_
 rw [List.pairwise_map]
 exact List.pairwise_lt_range.imp fun h => by omega
theorem mem_upF {p : Int → Bool} {v : Int} : v ∈ upF p ↔ 0 ≤ v ∧ v < 16 ∧ p v = true := by
 unfold upF
 rw [List.mem_filter, List.mem_map]
 constructor
 ·rintro ⟨⟨i, hi, rfl⟩, h⟩
  have := List.mem_range.mp hi
  exact ⟨by omega, by omega, h⟩
 ·rintro ⟨h0, h1, h⟩
  exact ⟨⟨v.toNat, List.mem_range.mpr (by omega), by omega⟩, h⟩
theorem up_eq : ∀ {xs ys : List Int}, xs.Pairwise (· < ·) → ys.Pairwise (· < ·) → (∀ v, v ∈ xs ↔ v ∈ ys) → xs = ys
 | [], [], _, _, _ => rfl
 | [], y :: ys, _, _, h => absurd ((h y).mpr List.mem_cons_self) List.not_mem_nil
 | x :: xs, [], _, _, h => absurd ((h x).mp List.mem_cons_self) List.not_mem_nil
 | x :: xs, y :: ys, hx, hy, h => by
  obtain ⟨x1, x2⟩ := List.pairwise_cons.mp hx
  obtain ⟨y1, y2⟩ := List.pairwise_cons.mp hy
  have e : x = y := by
   rcases List.mem_cons.mp ((h x).mp List.mem_cons_self) with e | e
   ·exact e
   ·rcases List.mem_cons.mp ((h y).mpr List.mem_cons_self) with f | f
    ·exact f.symm
    ·have a := y1 x e
     have b := x1 y f
     omega
  subst e
  congr 1
  refine up_eq x2 y2 fun v => ?_
  constructor
  ·intro q
   rcases List.mem_cons.mp ((h v).mp (List.mem_cons_of_mem _ q)) with e | e
   ·subst e; have := x1 v q; omega
   ·exact e
  ·intro q
   rcases List.mem_cons.mp ((h v).mpr (List.mem_cons_of_mem _ q)) with e | e
   ·subst e; have := y1 v q; omega
   ·exact e
def rSetS (w : World) (K : PySem.W.Frag) : List V → Hp → VK → Prop := fun xs H Q => ∃ l ns, xs = [.ref l] ∧ SqL K H l (List.map V.int ns) ∧ Small ns ∧ ∀ p L H', New H p (SetV w p true L) H' → (∀ u : Nat, u ∈ L ↔ (u : Int) ∈ ns) → Q (.ref p) H'
def rOrS (w : World) : R2 := fun x y H Q => ∃ a b L1 L2, x = .ref a ∧ y = .ref b ∧ a ≠ b ∧ H a = some (SetV w a true L1) ∧ H b = some (SetV w b true L2) ∧ ∀ p L H', New H p (SetV w p false L) H' → (∀ u : Nat, u ∈ L ↔ u ∈ L1 ∨ u ∈ L2) → Q (.ref p) H'
def rSortS (w : World) : List V → Hp → VK → Prop := fun xs H Q => ∃ a d L, xs = [.ref a] ∧ H a = some (SetV w a d L) ∧ ∀ p H', New H p (.lst ((upF fun v => decide (v.toNat ∈ L)).map V.int)) H' → Q (.ref p) H'
def rSortI (K : PySem.W.Frag) : List V → Hp → VK → Prop := fun xs H Q => ∃ l ns, xs = [.ref l] ∧ SqL K H l (List.map V.int ns) ∧ ns.length < 64 ∧ ∀ p H' zs, New H p (.lst (List.map V.int zs)) H' → zs.Perm ns → zs.Pairwise (· ≤ ·) → Q (.ref p) H'
theorem ints_from : ∀ {vs : List Value} {ns : List Int}, IntsAre vs ns → Vals (ns.map V.int) vs
 | _, _, .nil => .nil
 | _, _, .cons n t r => .cons ⟨t, rfl⟩ (ints_from r)
theorem up_small {xs : List Int} {L : List Nat} (pm : xs.Perm (L.map fun v => ((v : Nat) : Int))) (nd : L.Nodup) (lt : ∀ v ∈ L, v < 16) (le : xs.Pairwise (· ≤ ·)) : xs = upF fun v => decide (v.toNat ∈ L) := by
 have nd2 : xs.Nodup := pm.nodup_iff.mpr (by
  unfold List.Nodup
  rw [List.pairwise_map]
  exact nd.imp fun h e => h (by omega))
 have lt2 : xs.Pairwise (· < ·) := by
  unfold List.Nodup at nd2
  exact (le.and nd2).imp fun h => by omega
 refine up_eq lt2 (upF_up _) fun v => ?_
 rw [pm.mem_iff, mem_upF, List.mem_map]
 constructor
 ·rintro ⟨u, hu, rfl⟩
  have := lt u hu
  exact ⟨by omega, by omega, decide_eq_true (by rw [Int.toNat_natCast]; exact hu)⟩
 ·rintro ⟨h0, h1, h⟩
  exact ⟨v.toNat, of_decide_eq_true h, by omega⟩
section
variable {X : Cx} {K : PySem.W.Frag} {w : World}
theorem setV_ok {H : Hp} {h : Heap} {a : Addr} {d : Bool} {L : List Nat} {P : Program} {w' : World} (S : SetAt (byT w) h a L) (D : d = true → Dense h a) : ObjOk P w' H h a (SetV w a d L) := by
 refine ⟨⟨S, D⟩, ?_, ?_⟩
 ·obtain ⟨_, _, _, ho, _⟩ := S
  exact ⟨_, ho⟩
 ·rintro h1 h2 ⟨s1, d1⟩ k
  exact ⟨s1.keep k, fun e => (d1 e).keep k⟩
theorem call_setS (ek : X.K = K) (ew : X.w = w) (cm : X.calm = true) : CallR X (.type "set") (rSetS w K) := by
 subst ek; subst ew
 intro pins s σ H xs us Q I r h
 obtain ⟨l, ns, rfl, hL, sm, q⟩ := h
 obtain ⟨u, rfl, rx⟩ := vals1 r
 cases rx
 obtain ⟨its, r', pl, hz⟩ := I.list hL
 have hi := ints_of r'
 have e : (ns.map Int.toNat).map (fun v => ((v : Nat) : Int)) = ns := by
  rw [List.map_map]
  have : ∀ n ∈ ns, ((fun v => ((v : Nat) : Int)) ∘ Int.toNat) n = id n := fun n hn => by
   have := (sm n hn).1
   show ((n.toNat : Nat) : Int) = n
   omega
  rw [List.map_congr_left this, List.map_id]
 refine set_at (vals := ns.map Int.toNat) (I.ok.hd cm) pl.isList (by rw [e]; simpa using hi) (fun v hv => ?_) fun h' tk L S D mem k => ?_
 ·obtain ⟨n, hn, rfl⟩ := List.mem_map.mp hv
  have := sm n hn
  omega
 ·have hf : H s.heap.objs.size = none := I.hok.fresh (Nat.le_refl _)
  refine ⟨.ref s.heap.objs.size, _, I.laid (t' := tk) (o := SetV X.w s.heap.objs.size true L) (fun b o eo => k b o (Heap.lt_size eo) eo) (Nat.le_refl _) (setV_ok S fun _ => D), rfl, q _ L _ (New.mk0 hf) fun u => ?_⟩
  rw [mem u, List.mem_map]
  constructor
  ·rintro ⟨n, hn, rfl⟩
   have := (sm n hn).1
   have e2 : ((n.toNat : Nat) : Int) = n := by omega
   rw [e2]; exact hn
  ·intro hn
   exact ⟨_, hn, by omega⟩
theorem op_orS (ew : X.w = w) : OpR X (binaryOp .BitOr) (rOrS w) := by
 subst ew
 intro pins s σ H x y v u Q I rx ry h
 obtain ⟨a, b, L1, L2, rfl, rfl, ne, hA, hB, q⟩ := h
 cases rx
 cases ry
 obtain ⟨⟨S1, D1⟩, _⟩ := I.hok a _ hA
 obtain ⟨⟨S2, D2⟩, _⟩ := I.hok b _ hB
 refine or_at ne S1 (D1 rfl) S2 (D2 rfl) fun h' L k S mem => ?_
 have hf : H s.heap.objs.size = none := I.hok.fresh (Nat.le_refl _)
 exact ⟨.ref s.heap.objs.size, _, I.laid (t' := s.toks) (o := SetV X.w s.heap.objs.size false L) (fun b o eo => k b o eo) (Nat.le_refl _) (setV_ok S fun e => by cases e), rfl, q _ L _ (New.mk0 hf) mem⟩
theorem call_sortedS (ew : X.w = w) (cm : X.calm = true) : CallR X (.builtin "sorted") (rSortS w) := by
 subst ew
 intro pins s σ H xs us Q I r h
 obtain ⟨a, d, L, rfl, hA, q⟩ := h
 obtain ⟨u, rfl, rx⟩ := vals1 r
 cases rx
 obtain ⟨⟨S, _⟩, _⟩ := I.hok a _ hA
 obtain ⟨_, _, t, _, _, T⟩ := id S
 refine sorted_set (I.ok.hd cm) S fun h' tk p vs n ns k hp ho hi pm le => ?_
 have e := up_small pm T.nd T.lt le
 subst e
 have l16 : (upF fun v => decide (v.toNat ∈ L)).length ≤ 16 := by rw [pm.length_eq, List.length_map]; exact T.len
 have hf : H p = none := I.hok.fresh hp
 refine ⟨.ref p, _, I.laid (t' := tk) (o := .lst ((upF fun v => decide (v.toNat ∈ L)).map V.int)) k hp ⟨?_, vs, n, ints_from hi, ho⟩, rfl, q p _ (New.mk0 hf)⟩
 rw [List.length_map, sizeLine_eq]
 omega
theorem call_sortedI (e : X.K = K) : CallR X (.builtin "sorted") (rSortI K) := by
 subst e
 intro pins s σ H xs us Q I r h
 obtain ⟨l, ns, rfl, hL, h64, q⟩ := h
 obtain ⟨u, rfl, rx⟩ := vals1 r
 cases rx
 obtain ⟨its, r', pl, hz⟩ := I.list hL
 have hlen := r'.length
 rw [List.length_map] at hlen
 refine sorted_ints (ns := ns) pl.isList (ints_of r') (by omega) fun out zs hi pm le => ?_
 obtain ⟨c, hc⟩ := sortedAll_at s.heap its out
 refine ⟨.ref (s.heap.objs.size + 1), _, I.laid (t' := s.toks) (o := .lst (zs.map V.int)) (fun b o eo => sortedAll_old eo) (Nat.le_succ _) ⟨?_, out.toList, c, ints_from hi, by simpa using hc⟩, rfl, q _ _ zs (New.mk0 (I.hok.fresh (Nat.le_succ _))) pm le⟩
 rw [List.length_map, pm.length_eq, sizeLine_eq]
 omega
end
end L2
namespace L2
open PySem PySem.Spec PyProof.Rows
theorem us1 {A : Type} {us : List A} {P : List A → Prop} (h : us.length = 1) (f : ∀ a, P [a]) : P us := by
 match us, h with
 | [a], _ => exact f a
theorem us2 {A : Type} {us : List A} {P : List A → Prop} (h : us.length = 2) (f : ∀ a b, P [a, b]) : P us := by
 match us, h with
 | [a, b], _ => exact f a b
theorem us3 {A : Type} {us : List A} {P : List A → Prop} (h : us.length = 3) (f : ∀ a b c, P [a, b, c]) : P us := by
 match us, h with
 | [a, b, c], _ => exact f a b c
theorem us4 {A : Type} {us : List A} {P : List A → Prop} (h : us.length = 4) (f : ∀ a b c d, P [a, b, c, d]) : P us := by
 match us, h with
 | [a, b, c, d], _ => exact f a b c d
theorem dn_mk1 {K : PySem.W.Frag} {h : Heap} {mg : Str → Option Value} {x : Str} {st : Stmt} {ps : List Str} {f : Addr} {oc : Value} {od an : Option Addr} {osl : Array (Option Value)} {kV doc pm cdv ct : Value} (X : K.In h) (G : h.Ns mainGlobals mg)
  (a : PySem.W.nsIn K mainGlobals x = some (some (.ref f))) (l : K.lookup f = some ⟨oc, od, .func (PySem.W.fnOf x x (defArgs st) (defBody st) (defScope st) .none kV doc pm an cdv ct), osl⟩) (c : PySem.W.codeIn K cdv x = true) (k : PySem.W.keepIn K (.ref f) = true)
  (hp : ps.length = 1)
  (hb : ∀ (kV doc pm : Value) (an : Option Addr) (cdv ct : Value) (u0 : Value), bindArgs (PySem.W.fnOf x x (defArgs st) (defBody st) (defScope st) .none kV doc pm an cdv ct) ⟨[u0], []⟩ = pure (ps.zip [u0])) :
  Nonempty (Dn K mg x st ps) :=
 dn_mk X G a l c k fun kV doc pm an cdv ct us hl => us1 (P := fun us => bindArgs (PySem.W.fnOf x x (defArgs st) (defBody st) (defScope st) .none kV doc pm an cdv ct) ⟨us, []⟩ = pure (ps.zip us)) (hl.trans hp) fun u0 => hb kV doc pm an cdv ct u0
theorem dn_mk2 {K : PySem.W.Frag} {h : Heap} {mg : Str → Option Value} {x : Str} {st : Stmt} {ps : List Str} {f : Addr} {oc : Value} {od an : Option Addr} {osl : Array (Option Value)} {kV doc pm cdv ct : Value} (X : K.In h) (G : h.Ns mainGlobals mg)
  (a : PySem.W.nsIn K mainGlobals x = some (some (.ref f))) (l : K.lookup f = some ⟨oc, od, .func (PySem.W.fnOf x x (defArgs st) (defBody st) (defScope st) .none kV doc pm an cdv ct), osl⟩) (c : PySem.W.codeIn K cdv x = true) (k : PySem.W.keepIn K (.ref f) = true)
  (hp : ps.length = 2)
  (hb : ∀ (kV doc pm : Value) (an : Option Addr) (cdv ct : Value) (u0 u1 : Value), bindArgs (PySem.W.fnOf x x (defArgs st) (defBody st) (defScope st) .none kV doc pm an cdv ct) ⟨[u0, u1], []⟩ = pure (ps.zip [u0, u1])) :
  Nonempty (Dn K mg x st ps) :=
 dn_mk X G a l c k fun kV doc pm an cdv ct us hl => us2 (P := fun us => bindArgs (PySem.W.fnOf x x (defArgs st) (defBody st) (defScope st) .none kV doc pm an cdv ct) ⟨us, []⟩ = pure (ps.zip us)) (hl.trans hp) fun u0 u1 => hb kV doc pm an cdv ct u0 u1
theorem dn_mk3 {K : PySem.W.Frag} {h : Heap} {mg : Str → Option Value} {x : Str} {st : Stmt} {ps : List Str} {f : Addr} {oc : Value} {od an : Option Addr} {osl : Array (Option Value)} {kV doc pm cdv ct : Value} (X : K.In h) (G : h.Ns mainGlobals mg)
  (a : PySem.W.nsIn K mainGlobals x = some (some (.ref f))) (l : K.lookup f = some ⟨oc, od, .func (PySem.W.fnOf x x (defArgs st) (defBody st) (defScope st) .none kV doc pm an cdv ct), osl⟩) (c : PySem.W.codeIn K cdv x = true) (k : PySem.W.keepIn K (.ref f) = true)
  (hp : ps.length = 3)
  (hb : ∀ (kV doc pm : Value) (an : Option Addr) (cdv ct : Value) (u0 u1 u2 : Value), bindArgs (PySem.W.fnOf x x (defArgs st) (defBody st) (defScope st) .none kV doc pm an cdv ct) ⟨[u0, u1, u2], []⟩ = pure (ps.zip [u0, u1, u2])) :
  Nonempty (Dn K mg x st ps) :=
 dn_mk X G a l c k fun kV doc pm an cdv ct us hl => us3 (P := fun us => bindArgs (PySem.W.fnOf x x (defArgs st) (defBody st) (defScope st) .none kV doc pm an cdv ct) ⟨us, []⟩ = pure (ps.zip us)) (hl.trans hp) fun u0 u1 u2 => hb kV doc pm an cdv ct u0 u1 u2
theorem dn_mk4 {K : PySem.W.Frag} {h : Heap} {mg : Str → Option Value} {x : Str} {st : Stmt} {ps : List Str} {f : Addr} {oc : Value} {od an : Option Addr} {osl : Array (Option Value)} {kV doc pm cdv ct : Value} (X : K.In h) (G : h.Ns mainGlobals mg)
  (a : PySem.W.nsIn K mainGlobals x = some (some (.ref f))) (l : K.lookup f = some ⟨oc, od, .func (PySem.W.fnOf x x (defArgs st) (defBody st) (defScope st) .none kV doc pm an cdv ct), osl⟩) (c : PySem.W.codeIn K cdv x = true) (k : PySem.W.keepIn K (.ref f) = true)
  (hp : ps.length = 4)
  (hb : ∀ (kV doc pm : Value) (an : Option Addr) (cdv ct : Value) (u0 u1 u2 u3 : Value), bindArgs (PySem.W.fnOf x x (defArgs st) (defBody st) (defScope st) .none kV doc pm an cdv ct) ⟨[u0, u1, u2, u3], []⟩ = pure (ps.zip [u0, u1, u2, u3])) :
  Nonempty (Dn K mg x st ps) :=
 dn_mk X G a l c k fun kV doc pm an cdv ct us hl => us4 (P := fun us => bindArgs (PySem.W.fnOf x x (defArgs st) (defBody st) (defScope st) .none kV doc pm an cdv ct) ⟨us, []⟩ = pure (ps.zip us)) (hl.trans hp) fun u0 u1 u2 u3 => hb kV doc pm an cdv ct u0 u1 u2 u3
end L2
namespace L2
open PySem PySem.Spec PyProof.Rows
section
variable {κ : Type} [DecidableEq κ]
def valV (kvs : List (κ × V)) (k : κ) : Option V := (kvs.find? fun kv => decide (kv.1 = k)).map (·.2)
theorem valV_pos {p : κ × V} {r : List (κ × V)} {k : κ} (e : p.1 = k) : valV (p :: r) k = some p.2 := by simp [valV, List.find?_cons, e]
theorem valV_neg {p : κ × V} {r : List (κ × V)} {k : κ} (e : ¬ p.1 = k) : valV (p :: r) k = valV r k := by simp [valV, List.find?_cons, e]
theorem KV.val {kvs : List (κ × V)} {vs : List (κ × Value)} (r : KV kvs vs) (k : κ) : RelO (valV kvs k) (valueAt vs k) := by
 unfold KV at r
 induction r with
 | nil => exact True.intro
 | @cons p q ps qs h t ih =>
  obtain ⟨h1, h2⟩ := h
  by_cases e : p.1 = k
  ·have e' : q.1 = k := h1.symm.trans e
   have b : valueAt (q :: qs) k = some q.2 := by simp [valueAt, List.find?_cons, e']
   rw [valV_pos e, b]; exact h2
  ·have e' : ¬ q.1 = k := fun z => e (h1.trans z)
   have b : valueAt (q :: qs) k = valueAt qs k := by simp [valueAt, List.find?_cons, e']
   rw [valV_neg e, b]; exact ih
end
theorem kV_is {P : Program} {w : World} {k : Key} {u : Value} (r : RelV (kV k) u) : (mixKind P w).is k u = true := by
 cases k with
 | inl i => obtain ⟨t, e⟩ := (show ∃ t, u = Value.int i t from r); subst e; exact mixKind_int P w i t
 | inr x => obtain ⟨t, e⟩ := (show ∃ t, u = Value.str x t from r); subst e; exact mixKind_str P w x t
section
variable {P : Program} {w : World} {H : Hp} {h : Heap} {a : Addr}
end
section
variable {X : Cx} {pins : List (Addr × Obj)} {σ : St} {H : Hp} {s : Shared} {a : Addr} {y v : V} {u r : Value} {o : Option V} {A : Around} {E : Value → Shared → Prop}
end
section
variable {X : Cx} {pins : List (Addr × Obj)} {σ : St} {H : Hp} {s : Shared} {a : Addr} {kvs : List (Key × V)} {k : Key} {u : Value} {A : Around} {E : Value → Shared → Prop}
end
def NoSl (i : Expr) : Prop := ∀ ov iv, subscripted i false ov iv = operate [ov, iv] (getItem ov iv)
theorem subD_of {prog : Program} {w : World} {A : Around} {E : Value → Shared → Prop} {s : Shared} {env : Env} {value slice : Expr} {pos : Pos} {T id : String} {Q : Value → Shared → Prop}
  (hl : typeLookup (.type T) "__getitem__" = pure (some (.builtin id))) (hs : NoSl slice)
  (h : wpAny (model prog w) A (eval value env) (fun o s₁ => wpAny (model prog w) A (eval slice env) (fun i s₂ => s₂.TypeIs o T ∧ wpAny (model prog w) A (getItem o i) Q E s₂) E s₁) E s) :
  wpAny (model prog w) A (eval (.Subscript value slice pos) env) Q E s := by
 refine Subscript_ (wpAny_mono h (fun o s₁ h₁ => wpAny_mono h₁ (fun i s₂ h₂ => ?_) fun _ _ x => x) fun _ _ x => x)
 obtain ⟨hT, h₂⟩ := h₂
 unfold subscriptTail
 refine wpAny_bind ?_
 rw [getitemInPython_of_ne hT.not_modules]
 refine wpAny_bind (wpAny_specialOf hT hl ?_)
 have fin : wpAny (model prog w) A (subscripted slice false o i) (fun r s₃ => wpAny (model prog w) A (letTemporaryGo value o r >>= fun _ => pure r) Q E s₃) E s₂ := by
  rw [hs o i]
  exact wpAny_operating (wpAny_mono h₂ (fun r s₃ h₃ => wpAny_bind (wpAny_letTemporaryGo (wpAny_pure h₃))) fun _ _ x => x)
 first
  | exact wpAny_pure (wpAny_bind fin)
  | exact wpAny_bind (wpAny_pure (wpAny_bind fin))
  | exact wpAny_bind fin
section
variable {X : Cx} {o i e value : Expr} {pos pos' tpos : Pos} {td ty tv : TE}
end
section
variable {X : Cx} {pos : Pos}
end
end L2
namespace L2
open PySem PySem.Spec PyProof.Rows
section
variable {X : Cx}
def rPopN : V → List V → Hp → VK → Prop := fun x vs H Q => ∃ l xs y, x = .ref l ∧ vs = [] ∧ H l = some (.lst (xs ++ [y])) ∧ ∀ H', Chg H l (.lst xs) H' → Q y H'
theorem mt_popN : MtM X "list.pop" rPopN := mt_pop.weak fun x vs H Q ⟨l, xs, y, e1, e2, h, q⟩ => ⟨l, xs ++ [y], y, e1, e2, h, (by simp), (by
 have := q _ (Chg.mk0 (H := H) (l := l) (o := .lst xs))
 rw [List.dropLast_concat]
 exact this)⟩
end
end L2
set_option maxHeartbeats 4100000
namespace Ls
open PySem PyProof.Rows PySem.Calls PySem.W PySem.SeqAt
open AutoSeq1 (wpAny_loadPart')
open MeetsSeq MeetsSeq2 MeetsSeq3
section
variable {prog : Program} {w : World} {A : Around} {E : Value → Shared → Prop} {s : Shared}
end
end Ls
set_option maxHeartbeats 4100000
namespace Srt
open PySem PyProof.Rows PySem.Calls PySem.W
section
variable {prog : Program} {wo : World} {A : Around} {E : Value → Shared → Prop} {s : Shared}
end
end Srt
namespace L2
open PySem PySem.Spec PyProof.Rows Bg Srt
def LstV (K : PySem.W.Frag) (H : Hp) (v : V) (ns : List Int) : Prop := ∃ p, v = .ref p ∧ SqL K H p (ns.map V.int)
section
variable {X : Cx} {K : PySem.W.Frag}
end
end L2
namespace L2
open PySem PySem.Spec PyProof.Rows
def usedF : List (Key × V) := [(.inr "leaf", .int 0), (.inr "in", .int 1), (.inr "tie", .int 1), (.inr "out", .int 1), (.inr "join", .int 2)]
structure Used (w : World) (K : PySem.W.Frag) (mg : Str → Option Value) where
 d : Addr
 m : mg "USED" = some (.ref d)
 es : Array DictEntry
 ep : Nat
 l : K.lookup d = some ⟨.type "dict", none, .dict es ep, #[]⟩
 ks : ∃ t0 t1 t2 t3 t4 t5 t6 t7 t8 t9 : Tok, es = #[⟨PyData.keyHash w.params "leaf", .str "leaf" t0, .int 0 t1⟩, ⟨PyData.keyHash w.params "in", .str "in" t2, .int 1 t3⟩, ⟨PyData.keyHash w.params "tie", .str "tie" t4, .int 1 t5⟩, ⟨PyData.keyHash w.params "out", .str "out" t6, .int 1 t7⟩, ⟨PyData.keyHash w.params "join", .str "join" t8, .int 2 t9⟩]
theorem used_mk {w : World} {K : PySem.W.Frag} {h : Heap} {mg : Str → Option Value} {d : Addr} {es : Array DictEntry} {ep : Nat} (X : K.In h) (G : h.Ns mainGlobals mg)
  (a : PySem.W.nsIn K mainGlobals "USED" = some (some (.ref d))) (l : K.lookup d = some ⟨.type "dict", none, .dict es ep, #[]⟩)
  (ks : ∃ t0 t1 t2 t3 t4 t5 t6 t7 t8 t9 : Tok, es = #[⟨PyData.keyHash w.params "leaf", .str "leaf" t0, .int 0 t1⟩, ⟨PyData.keyHash w.params "in", .str "in" t2, .int 1 t3⟩, ⟨PyData.keyHash w.params "tie", .str "tie" t4, .int 1 t5⟩, ⟨PyData.keyHash w.params "out", .str "out" t6, .int 1 t7⟩, ⟨PyData.keyHash w.params "join", .str "join" t8, .int 2 t9⟩]) : Nonempty (Used w K mg) :=
 ⟨⟨d, PySem.W.mg_of X G a, es, ep, l, ks⟩⟩
theorem Used.dict {P : Program} {w : World} {K : PySem.W.Frag} {mg : Str → Option Value} {h : Heap} (U : Used w K mg) (X : K.In h) : ∃ vs, KV usedF vs ∧ h.DictOf (mixKind P w) U.d vs := by
 obtain ⟨t0, t1, t2, t3, t4, t5, t6, t7, t8, t9, e⟩ := U.ks
 refine ⟨[(.inr "leaf", .int 0 t1), (.inr "in", .int 1 t3), (.inr "tie", .int 1 t5), (.inr "out", .int 1 t7), (.inr "join", .int 2 t9)], ?_, _, U.es, U.ep, X _ _ U.l, ⟨rfl, rfl, rfl⟩, rfl, ?_, ?_, ?_⟩
 ·exact .cons ⟨rfl, t1, rfl⟩ (.cons ⟨rfl, t3, rfl⟩ (.cons ⟨rfl, t5, rfl⟩ (.cons ⟨rfl, t7, rfl⟩ (.cons ⟨rfl, t9, rfl⟩ .nil))))
 ·rw [e]
  intro x hx
  simp only [Array.mem_def, List.mem_cons, List.not_mem_nil, or_false] at hx
  rcases hx with rfl | rfl | rfl | rfl | rfl
  ·exact ⟨.inr "leaf", mixKind_str P w _ _, rfl⟩
  ·exact ⟨.inr "in", mixKind_str P w _ _, rfl⟩
  ·exact ⟨.inr "tie", mixKind_str P w _ _, rfl⟩
  ·exact ⟨.inr "out", mixKind_str P w _ _, rfl⟩
  ·exact ⟨.inr "join", mixKind_str P w _ _, rfl⟩
 ·rw [e]
  exact .cons (mixKind_str P w _ _) rfl (.cons (mixKind_str P w _ _) rfl (.cons (mixKind_str P w _ _) rfl (.cons (mixKind_str P w _ _) rfl (.cons (mixKind_str P w _ _) rfl .nil))))
 ·show ([.inr "leaf", .inr "in", .inr "tie", .inr "out", .inr "join"] : List Key).Nodup
  decide +kernel
def tUsed (ty : TE) : TE := fun σ H Q => ty σ H fun y H1 => ∃ k v, y = kV k ∧ valV usedF k = some v ∧ Q v H1
section
variable {X : Cx} {i : Expr} {pos np : Pos} {ty : TE}
theorem pe_used (U : Used X.w X.K X.mg) (hg : Gl X "USED") (hi : PE X i ty) (hs : NoSl i) : PE X (.Subscript (.Name "USED" np) i pos) (tUsed ty) := by
 intro pins s σ H Q I h
 refine subD_of PySem.F.slot_dict_getitem.lookup hs (ld_glob I hg U.m (thn (hi pins s σ H _ I h) fun iv s2 ⟨y, H2, I2, ry, k, v, ey, hv, q2⟩ => ?_))
 subst ey
 obtain ⟨vs, rel, dd⟩ := U.dict (P := X.prog) I2.kIn
 obtain ⟨w', hw, rw'⟩ := RelO.some_of (v := v) (o := valueAt vs k) (by rw [← hv]; exact rel.val k)
 exact ⟨dd.typeIs, wpAny_getItem_of (kV_is ry) dd.mapOf hw ⟨v, H2, I2.tok _, rw', q2⟩⟩
end
end L2
namespace L2
open PySem PySem.Spec PyProof.Rows
section
variable {X : Cx} {pos : Pos}
end
end L2
namespace L2
open PySem PySem.Spec PyProof.Rows
section
variable {X : Cx}
end
end L2
namespace Dq
open PySem PySem.Spec PyProof.Rows
variable {prog : Program} {w : World} {A : Around} {E : Value → Shared → Prop} {s : Shared}
end Dq
namespace L2
open PySem PySem.Spec PyProof.Rows Bg Srt
section
variable {X : Cx}
end
end L2
set_option maxHeartbeats 4100000
namespace L2
open PySem PySem.Spec PyProof.Rows
def Itd (lo : Int) (n : Nat) : It := ⟨fun i _ => i < n, fun i H x H' => H' = H ∧ x = .int (lo - i), fun i _ => n ≤ i⟩
theorem turn_down {P : Program} {w : World} {K : PySem.W.Frag} {tg : Expr} (it : Addr) (lo : Int) (n : Nat) : Turn P w K tg (Itd lo n) [it] it (fun i h => IsRangeIter h it (lo + (i : Nat) * (-1)) ((n : Int) - (i : Nat)) (-1)) where
 mem := List.mem_cons_self
 obj := fun i h st b hb => by
  obtain rfl : b = it := by simpa using hb
  exact ⟨_, st, fun v z => by
   have z2 : Data.fields _ = Data.cell v := z
   cases z2⟩
 keep := fun i h h' st k => k it List.mem_cons_self _ st
 item := by
  intro X hP hw hK hc i pins s σ H E I hf st hg
  subst hP hw hK; obtain ⟨f0, f1, f2, f3, f4, f5⟩ := hf it List.mem_cons_self
  have W := Walks.range (prog := X.prog) (w := X.w) (I.ok.hd hc) it lo (-1) n
  refine W.item i s _ _ hg st fun v h' tk hv st' kk => ?_; obtain ⟨t, rfl⟩ := hv
  have I1 : Inv X pins σ H { s with heap := h', toks := tk } := I.turned (fun b o hb e => kk b o (by simpa using hb) e) f0 f1 f3 f4 f5
  refine ⟨_, rfl, go_of (s := { s with heap := h', toks := tk }) (n := "range_iterator") st' rfl rfl (by decide) ⟨.int (lo - i), H, I1, ⟨t, ?_⟩, ⟨rfl, rfl⟩, st', fun b hb => (hf b hb).1⟩⟩
  rw [show lo + (i : Int) * (-1) = lo - i by omega]
 done := by
  intro X hP hw hK hc i pins s σ H E I hf st hg
  subst hP hw hK; obtain ⟨f0, f1, f2, f3, f4, f5⟩ := hf it List.mem_cons_self
  exact wpAny_pyNext_range_end (I.ok.hd hc) st (by have hg2 : n ≤ i := hg; omega) fun h' eb => ⟨rfl, I.turned (t' := s.toks) (fun b o hb e => eb b o hb e) f0 f1 f3 f4 f5⟩
 self := fun _ _ _ _ _ st h => wpAny_pyIter_rangeiter st h
section
variable {X : Cx} {tg : Expr}
theorem range_itd {pins : List (Addr × Obj)} {σ : St} {H : Hp} {s : Shared} {R : It → Hp → Prop} {E : Value → Shared → Prop} {lo hi : Int} {t u v : Tok} {tk : Nat} (I : Inv X pins σ H s) (h1 : -(2 ^ 62) ≤ lo) (h2 : lo < 2 ^ 62) (h3 : -(2 ^ 62) ≤ hi) (h4 : hi < 2 ^ 62)
  (q : R (Itd lo (lo - hi).toNat) H) : wpAny (model X.prog X.w) X.A (pyIter (.ref s.heap.objs.size)) (PIE X pins σ tg R) E { s with heap := s.heap.push { cls := .type "range", data := .fields #[.int lo t, .int hi u, .int (-1) v] }, toks := tk } := by
 refine wpAny_pyIter_range (IsRange.new ..) (PySem.W.small_down h1 h2 h3 h4) ?_
 have I1 : Inv X pins σ H { s with heap := s.heap.push { cls := .type "range", data := .fields #[.int lo t, .int hi u, .int (-1) v] }, toks := tk } := I.kept fun b o e => Heap.get?_push_of_some _ e
 refine ⟨(s.heap.push { cls := .type "range", data := .fields #[.int lo t, .int hi u, .int (-1) v] }).objs.size, [(s.heap.push { cls := .type "range", data := .fields #[.int lo t, .int hi u, .int (-1) v] }).objs.size], _, _, H, rfl, I1.kept (t' := tk) fun b o e => Heap.get?_push_of_some _ e, turn_down _ lo (lo - hi).toNat, ?_, fun b hb => ?_, q⟩
 ·have e1 : lo + ((0 : Nat) : Int) * (-1) = lo := by simp
  have e2 : (((lo - hi).toNat : Nat) : Int) - ((0 : Nat) : Int) = Builtin.Range.rangeSize lo hi (-1) := by rw [PySem.W.rangeSize_downNat]; omega
  show IsRangeIter _ _ (lo + ((0 : Nat) : Int) * (-1)) ((((lo - hi).toNat : Nat) : Int) - ((0 : Nat) : Int)) (-1)
  rw [e1, e2]; exact Heap.get?_push_size _ rfl
 ·obtain rfl : b = (s.heap.push { cls := .type "range", data := .fields #[.int lo t, .int hi u, .int (-1) v] }).objs.size := by simpa using hb
  exact I1.fpOk (Nat.le_refl _) (I1.hok.fresh (Nat.le_refl _))
def iRngD (ta : TA) : TI := fun σ H R => ta σ H fun vs H1 => ∃ i j : Int, vs = [.int i, .int j, .int (-1)] ∧ (-(2 ^ 30) ≤ i ∧ i < 2 ^ 30 ∧ -(2 ^ 30) ≤ j ∧ j < 2 ^ 30) ∧ R (Itd i (i - j).toNat) H1
theorem pi_range3 {a b c : Expr} {ta : TA} {p pos : Pos} (hg : Gl X "range") (hm : X.mg "range" = none) (ha : PA X [a, b, c] ta) (hs : starEach [a, b, c] X.env = [(false, eval a X.env), (false, eval b X.env), (false, eval c X.env)] := by rfl) (hs2 : starEach [b, c] X.env = [(false, eval b X.env), (false, eval c X.env)] := by rfl) :
  PI X tg (.Call (.Name "range" p) [a, b, c] [] pos) (iRngD ta) := by
 intro pins s σ H R I h
 refine Call_ (ld_blt I hg hm boot_range (PyProof.Rows.callWith_type1 (thn (ha pos pins s σ H _ I h) fun us s1 ⟨vs, H1, I1, r1, q1⟩ => ?_) (by rw [hs, hs2]) (by rw [hs2]; rfl)))
 obtain ⟨i, j, e, ⟨q1, q2, q3, q4⟩, q⟩ := q1; subst e
 cases r1 with
 | cons r rr =>
 cases rr with
 | cons r' rr =>
 cases rr with
 | cons r'' rr =>
  cases rr; obtain ⟨t, rfl⟩ := r; obtain ⟨t', rfl⟩ := r'; obtain ⟨t'', rfl⟩ := r''
  refine call_range_3 (by decide) (range_itd I1 (by omega) (by omega) (by omega) (by omega) q) (Or.inl (PyProof.noPylong_small ?_))
  omega
end
section
variable {ix : List (Option Nat)} {g : TG} {tt : TT} {te : TE} {σ : St} {H1 : Hp} {Q : VK}
theorem lc_down {lo : Int} {n : Nat} (Pv : Nat → List V → Hp → Prop) (h0 : Pv 0 [] H1) (hl : ∀ i ys H, i ≤ n → Pv i ys H → ys.length ≤ sizeLine)
  (hs : ∀ i ys H, i < n → Pv i ys H → g (.int (lo - i)) (capt ix σ) H fun σ2 H2 => tt σ2 H2 fun b H3 => if b = true then te σ2 H3 fun v H4 => Pv (i + 1) (ys ++ [v]) H4 else Pv (i + 1) ys H3)
  (hd : ∀ ys H, Pv n ys H → ∀ p, H p = none → Q (.ref p) (upd H p (.lst ys))) : LcGoal ix g tt te σ H1 Q (Itd lo n) := by
 refine ⟨fun i m ys H => m = n - i ∧ i ≤ n ∧ Pv i ys H, ⟨n, by simp, Nat.zero_le _, h0⟩, ?_⟩
 rintro i m ys H ⟨rfl, hi, p⟩; have z := hl i ys H hi p
 by_cases hlt : i < n
 ·refine .inr ⟨hlt, z, Pv (i + 1), fun ys' H' p' => ⟨n - (i + 1), by omega, rfl, hlt, p'⟩, fun x H' y => ?_⟩
  obtain ⟨e, y⟩ := y; subst e y
  exact hs i ys _ hlt p
 ·obtain rfl : i = n := by omega
  exact .inl ⟨Nat.le_refl _, z, hd ys H p⟩
end
section
variable {X : Cx}
end
end L2
namespace K
open PySem L2 Lw Bg
def top (i : Nat) : Stmt := PySem.Challenge.pw_bagwood_k58_whole_steps_and_trees.main.body.getD i (.Pass ⟨0, 0, 0, 0⟩)
abbrev s_is_whole : Stmt := top 6
theorem sc_is_whole : FnScope ["thing"] ["thing"] (defScope s_is_whole) := ⟨rfl, rfl, rfl, by decide +kernel, rfl, by decide +kernel, by decide +kernel⟩
abbrev s_is_below : Stmt := top 7
theorem sc_is_below : FnScope ["n", "thing"] ["n", "thing"] (defScope s_is_below) := ⟨rfl, rfl, rfl, by decide +kernel, rfl, by decide +kernel, by decide +kernel⟩
abbrev s_is_set : Stmt := top 8
theorem sc_is_set : FnScope ["n", "places"] ["n", "places"] (defScope s_is_set) := ⟨rfl, rfl, rfl, by decide +kernel, rfl, by decide +kernel, by decide +kernel⟩
def spWhole (K : PySem.W.Frag) : Sp := fun vs H Q _ => ∃ (x : V) (t : Value) (bi bb : Bool), vs = [x] ∧ TyOf K H x t ∧ PySem.W.kitOne K t (.type "int") = some bi ∧ PySem.W.kitOne K t (.type "bool") = some bb ∧ Q (.bl (bi && !bb)) H
def spBelow : Sp := fun vs H Q _ => ∃ (n : Int) (o : Option Int), vs = [.int n, upV o] ∧ Q (.bl (belowF n o)) H
def spSet (K : PySem.W.Frag) : Sp := fun vs H Q _ => ∃ (n : Int) (a : Addr) (ns : List Int), vs = [.int n, .ref a] ∧ SqL K H a (ns.map V.int) ∧ ns.length ≤ 1000 ∧ ∀ H', Same H H' → Q (.bl (setF n ns)) H'
section
variable {P : Program} {w : World} {K : PySem.W.Frag} {mg : Str → Option Value} {base : Heap}
set_option maxHeartbeats 4000000 in
theorem ok_is_whole (B : Bl mg) (d_is_whole : Dn K mg "is_whole" s_is_whole ["thing"]) : FnOk P w K mg base CX0 1 d_is_whole.f d_is_whole.fd ["thing"] (spWhole K) := by
 refine d_is_whole.F.ok sc_is_whole (fun vs H Q E h => ?_) (fun cdv A outer s H vs Q E hr h => ?_)
 ·obtain ⟨x, t, bi, bb, rfl, _⟩ := h
  rfl
 obtain ⟨x, t, bi, bb, rfl, ty, h1, h2, q⟩ := h
 refine ⟨_, (pss_one (ps_ret (pe_and (pe_callB (call_isinstK (K := K) rfl) rfl B.isinstance (by decide +kernel) (pa_cons (pv 0) (pa_cons (pe_bltn (v := .ty "int") (u := .type "int") rfl B.int (by decide +kernel) rfl) pa_nil))) (pe_one (pe_not (pe_callB (call_isinstK (K := K) rfl) rfl B.isinstance (by decide +kernel) (pa_cons (pv 0) (pa_cons (pe_bltn (v := .ty "bool") (u := .type "bool") rfl B.bool (by decide +kernel) rfl) pa_nil)))))))), ?_⟩
 refine ⟨_, rfl, _, _, _, _, _, rfl, rfl, ty, h1, _, rfl, ?_⟩
 cases bi with
 | true =>
  refine iteT ?_
  exact ⟨_, rfl, _, _, _, _, _, rfl, rfl, ty, h2, _, rfl, q⟩
 | false => exact iteF q
set_option maxHeartbeats 4000000 in
theorem ok_is_below (B : Bl mg) (d_is_whole : Dn K mg "is_whole" s_is_whole ["thing"]) (d_is_below : Dn K mg "is_below" s_is_below ["n", "thing"]) : FnOk P w K mg base CX0 2 d_is_below.f d_is_below.fd ["n", "thing"] spBelow := by
 have G_is_whole : FnOk P w K mg base CX0 1 _ _ _ _ := ok_is_whole B d_is_whole
 refine d_is_below.F.ok sc_is_below (fun vs H Q E h => ?_) (fun cdv A outer s H vs Q E hr h => ?_)
 ·obtain ⟨n, i, rfl, _⟩ := h
  rfl
 obtain ⟨n, o, rfl, q⟩ := h
 refine ⟨_, (pss_one (ps_ret (pe_and (pe_call G_is_whole hr rfl d_is_whole.m d_is_whole.F.kp d_is_whole.b .nil pass0 (pa_cons (pv 1) pa_nil)) (pe_one (pe_chain op_le op_lt pe_int (pv 1) (pv 0)))))), ?_⟩
 cases o with
 | none => exact ⟨_, rfl, _, _, _, _, rfl, TyOf.non, kit_non_int, kit_non_bool, _, rfl, iteF q⟩
 | some i =>
  refine ⟨_, rfl, _, _, _, _, rfl, TyOf.int i, kit_int_int, kit_int_bool, _, rfl, ?_⟩
  refine iteT ?_
  refine ⟨_, rfl, _, _, rfl, rfl, _, rfl, ?_⟩
  refine ite2 (fun c => ?_) (fun c => ?_)
  ·have c' : 0 ≤ i := of_decide_eq_true c
   refine ⟨_, rfl, _, _, rfl, rfl, ?_⟩
   have e : belowF n (some i) = decide (i < n) := by unfold belowF; simp [c']
   rw [e] at q; exact q
  ·have c' : ¬ 0 ≤ i := of_decide_eq_false (Bool.eq_false_iff.mpr c)
   have e : belowF n (some i) = false := by unfold belowF; simp [c']
   rw [e] at q; exact q
set_option maxHeartbeats 4000000 in
theorem ok_is_set (B : Bl mg) (d_is_whole : Dn K mg "is_whole" s_is_whole ["thing"]) (d_is_below : Dn K mg "is_below" s_is_below ["n", "thing"]) (d_is_set : Dn K mg "is_set" s_is_set ["n", "places"]) : FnOk P w K mg base CX0 3 d_is_set.f d_is_set.fd ["n", "places"] (spSet K) := by
 have G_is_below : FnOk P w K mg base CX0 2 _ _ _ _ := ok_is_below B d_is_whole d_is_below
 refine d_is_set.F.ok sc_is_set (fun vs H Q E h => ?_) (fun cdv A outer s H vs Q E hr h => ?_)
 ·obtain ⟨n, a, ns, rfl, _⟩ := h
  rfl
 obtain ⟨n, a, ns, rfl, hS, hz, q⟩ := h
 refine ⟨_, (pss_cons (ps_if (pt_not (pt_truthK (K := K) rfl (pe_callB (call_allK (K := K) rfl rfl) rfl B.all (by decide +kernel) (pa_cons (pe_lc ["v", "n"] [none, some 0]  (by kernel_rfl) rfl (pi_listK (K := K) rfl (pv 1)) (fun _ _ _ _ _ => (pg_name (i := 0) (show (["v", "n"] : List Str).Nodup by decide +kernel) rfl (Or.inl rfl))) (fun _ _ _ _ _ => pts_nil) (fun _ _ _ _ _ => (pe_call G_is_below hr rfl d_is_below.m d_is_below.F.kp d_is_below.b .nil pass0 (pa_cons (pv 1) (pa_cons (pv 0) pa_nil))))) pa_nil)) (fun _ => rfl)))
   (pss_one (ps_ret pe_bl))
   pss_nil)
   (pss_one (ps_ret (pe_callB (call_allK (K := K) rfl rfl) rfl B.all (by decide +kernel) (pa_cons (pe_lc ["k", "places"] [none, some 1]  (by kernel_rfl) rfl (pi_range2 rfl B.range (pa_cons pe_int (pa_cons (pe_callB (call_lenK (K := K) rfl) rfl B.len (by decide +kernel) (pa_cons (pv 1) pa_nil)) pa_nil))) (fun _ _ _ _ _ => (pg_name (i := 0) (show (["k", "places"] : List Str).Nodup by decide +kernel) rfl (Or.inl rfl))) (fun _ _ _ _ _ => pts_nil) (fun _ _ _ _ _ => (pe_cmpR op_lt (pe_ix (ix_listK (K := K) rfl) (pv 1) (pe_op op_sub (pv 0) pe_int) (fun _ _ => rfl)) (pe_ix (ix_listK (K := K) rfl) (pv 1) (pv 0) (fun _ _ => rfl)) (nomark _)))) pa_nil))))), ?_⟩
 refine ⟨_, rfl, a, rfl, ⟨_, hS⟩, ?_⟩
 refine lc_fmN (fun x => match x with | .int v => some (.bl (decide (0 ≤ v ∧ v < n))) | _ => none) hS (by rw [List.length_map]; exact hz) (fun x H1 N hx sm hN => ?_) (fun H1 p H1' sm hp => ?_)
 ·obtain ⟨v, hv, rfl⟩ := List.mem_map.mp hx
  exact ⟨_, rfl, _, rfl, n, some v, rfl, hN H1 sm⟩
 have e1 : (ns.map V.int).filterMap (fun x => match x with | .int v => some (V.bl (decide (0 ≤ v ∧ v < n))) | _ => none) = (ns.map fun v => decide (0 ≤ v ∧ v < n)).map V.bl := by
  rw [List.map_map]
  exact fm_ints fun v _ => rfl
 rw [e1] at hp
 refine ⟨p, _, _, rfl, SqL.of hp.here, Truths.bls _, _, rfl, ?_⟩
 have s1 : Same H H1' := sm.trans hp.same
 have e2 : ((ns.map fun v => decide (0 ≤ v ∧ v < n)).all id) = ns.all fun v => decide (0 ≤ v ∧ v < n) := by rw [List.all_map]; rfl
 rw [e2]
 cases c : ns.all fun v => decide (0 ≤ v ∧ v < n) with
 | false =>
  refine iteT ?_
  have e : setF n ns = false := by unfold setF; rw [c]; rfl
  rw [e] at q
  exact q _ s1
 | true =>
  refine iteF ?_
  have hl : ((ns.map V.int).length : Int) = ns.length := by rw [List.length_map]
  refine ⟨_, rfl, a, _, rfl, .inl (s1.seq hS), 1, _, rfl, ⟨by decide, by decide, by omega, by omega⟩, ?_⟩
  have en : ((((ns.map V.int).length : Nat) : Int) - 1).toNat = ns.length - 1 := by rw [List.length_map]; omega
  rw [en]
  refine lc_fmRN (fun i => some (.bl (decide (ns.getD i 0 < ns.getD (i + 1) 0)))) (by omega) (fun i H2 N hi sm2 hN => ?_) (fun H2 p2 H2' sm2 hp2 => ?_)
  ·refine ⟨_, rfl, _, rfl, _, _, rfl, rfl, a, _, _, _, rfl, rfl, sm2.seq (s1.seq hS), at_ints (by omega) (by omega), _, rfl, _, rfl, a, _, _, _, rfl, rfl, sm2.seq (s1.seq hS), at_ints (by omega) (by omega), _, _, rfl, rfl, ?_⟩
   have z1 : (1 + (i : Int) - 1).toNat = i := by omega
   have z2 : (1 + (i : Int)).toNat = i + 1 := by omega
   rw [z1, z2]
   exact hN H2 sm2
  ·have e3 : (List.range (ns.length - 1)).filterMap (fun i => some (V.bl (decide (ns.getD i 0 < ns.getD (i + 1) 0)))) = ((List.range (ns.length - 1)).map fun i => decide (ns.getD i 0 < ns.getD (i + 1) 0)).map V.bl := by
    rw [List.map_map]
    exact fm_some fun _ _ => rfl
   rw [e3] at hp2
   refine ⟨p2, _, _, rfl, SqL.of hp2.here, Truths.bls _, ?_⟩
   have e : setF n ns = ((List.range (ns.length - 1)).map fun i => decide (ns.getD i 0 < ns.getD (i + 1) 0)).all id := by
    unfold setF riseF; rw [c, List.all_map]; rfl
   rw [e] at q
   exact q _ (s1.trans (sm2.trans hp2.same))
end
abbrev s_fault : Stmt := top 12
theorem sc_fault : FnScope ["graph", "rows", "told"] ["graph", "rows"] (defScope s_fault) := ⟨rfl, rfl, rfl, by decide +kernel, rfl, by decide +kernel, by decide +kernel⟩
abbrev s_row_fault : Stmt := top 13
theorem sc_row_fault : FnScope ["n", "rows", "k", "row"] ["n", "rows"] (defScope s_row_fault) := ⟨rfl, rfl, rfl, by decide +kernel, rfl, by decide +kernel, by decide +kernel⟩
abbrev s_is_up : Stmt := top 14
theorem sc_is_up : FnScope ["k", "up"] ["k", "up"] (defScope s_is_up) := ⟨rfl, rfl, rfl, by decide +kernel, rfl, by decide +kernel, by decide +kernel⟩
abbrev s_place_fault : Stmt := top 15
theorem sc_place_fault : FnScope ["n", "rows", "v"] ["n", "rows"] (defScope s_place_fault) := ⟨rfl, rfl, rfl, by decide +kernel, rfl, by decide +kernel, by decide +kernel⟩
abbrev s_tie_fault : Stmt := top 16
theorem sc_tie_fault : FnScope ["ties", "rows", "a", "b"] ["ties", "rows"] (defScope s_tie_fault) := ⟨rfl, rfl, rfl, by decide +kernel, rfl, by decide +kernel, by decide +kernel⟩
abbrev s_apart_fault : Stmt := top 17
theorem sc_apart_fault : FnScope ["n", "rows", "v", "tops"] ["n", "rows"] (defScope s_apart_fault) := ⟨rfl, rfl, rfl, by decide +kernel, rfl, by decide +kernel, by decide +kernel⟩
abbrev s_is_held : Stmt := top 18
theorem sc_is_held : FnScope ["rows", "up", "v"] ["rows", "up", "v"] (defScope s_is_held) := ⟨rfl, rfl, rfl, by decide +kernel, rfl, by decide +kernel, by decide +kernel⟩
def spUp : Sp := fun vs H Q _ => ∃ (k : Nat) (o : Option Int), vs = [.int k, upV o] ∧ Q (.bl (upOk k o)) H
def spRowFault (K : PySem.W.Frag) : Sp := fun vs H Q _ => ∃ (n : Nat) (a : Addr) (rs : List Row), vs = [.int n, .ref a] ∧ RowsAt K H a rs ∧
 ∀ v H', Same H H' → FltV H' v (match rowFaultF n rs with | some k => .row k | none => .ok) → Q v H'
def spPlaceFault (K : PySem.W.Frag) : Sp := fun vs H Q _ => ∃ (n : Nat) (a : Addr) (rs : List Row), vs = [.int n, .ref a] ∧ n ≤ 1000 ∧ RowsAt K H a rs ∧
 ∀ v H', Same H H' → FltV H' v (match placeFaultF n rs with | some k => .place k | none => .ok) → Q v H'
def spTieFault (K : PySem.W.Frag) : Sp := fun vs H Q _ => ∃ (t a : Addr) (ts : List (Int × Int)) (rs : List Row), vs = [.ref t, .ref a] ∧ TiesAt K H t ts ∧ RowsAt K H a rs ∧
 ∀ v H', Same H H' → FltV H' v (match tieFaultF ts rs with | some k => .tie k.1 k.2 | none => .ok) → Q v H'
def upsIn (rs : List Row) : Prop := ∀ k i, (rowAt rs k).1 = some i → k < rs.length → 0 ≤ i ∧ i < (rs.length : Int)
def spHeld (K : PySem.W.Frag) : Sp := fun vs H Q _ => ∃ (a : Addr) (rs : List Row) (u : Option Int) (v : Int), vs = [.ref a, upV u, .int v] ∧ RowsAt K H a rs ∧ (∀ i, u = some i → 0 ≤ i ∧ i < (rs.length : Int)) ∧ Q (.bl (heldF rs u v)) H
def spApart (K : PySem.W.Frag) : Sp := fun vs H Q _ => ∃ (n : Nat) (a : Addr) (rs : List Row), vs = [.int n, .ref a] ∧ n ≤ 1000 ∧ RowsAt K H a rs ∧ upsIn rs ∧
 ∀ v H', Same H H' → FltV H' v (match apartFaultF n rs with | some k => .apart k.1 k.2.1 k.2.2 | none => .ok) → Q v H'
def spFault (K : PySem.W.Frag) : Sp := fun vs H Q _ => ∃ (g : V) (n : Nat) (ts : List (Int × Int)) (a : Addr) (rs : List Row), vs = [g, .ref a] ∧ n ≤ 1000 ∧ GraphV K H g n ts ∧ RowsAt K H a rs ∧
 ∀ v H', Same H H' → FltV H' v (faultF n ts rs) → Q v H'
theorem ups_of {n : Int} {rs : List Row} (h : rowFaultF n rs = none) : upsIn rs := by
 unfold rowFaultF at h
 split at h
 ·cases h
 ·intro k i e hk
  have q := List.find?_eq_none.mp h k (List.mem_range.mpr hk)
  have q' : rowOk n rs k = true := by simpa using q
  unfold rowOk at q'
  rw [Bool.and_eq_true] at q'
  have u := q'.1
  unfold upOk at u
  rw [e] at u
  split at u
  ·cases u
  ·have u' : 0 ≤ i ∧ i < (k : Int) := of_decide_eq_true u
   omega
theorem tops_fm (rs : List Row) (v : Int) : (List.range rs.length).filterMap (fun i => if isTop rs v i then some (V.int i) else none) = (topsF rs v).map fun k => V.int (k : Nat) := by
 unfold topsF
 induction (List.range rs.length) with
 | nil => rfl
 | cons a r ih =>
  rw [List.filter_cons]
  cases c : isTop rs v a with
  | true => rw [List.filterMap_cons_some (by rw [if_pos c]), ih]; simp
  | false => rw [List.filterMap_cons_none (by rw [c]; rfl), ih]; simp
section
variable {P : Program} {w : World} {K : PySem.W.Frag} {mg : Str → Option Value} {base : Heap}
set_option maxHeartbeats 4000000 in
theorem ok_is_up (B : Bl mg) (d_is_whole : Dn K mg "is_whole" s_is_whole ["thing"]) (d_is_below : Dn K mg "is_below" s_is_below ["n", "thing"]) (d_is_up : Dn K mg "is_up" s_is_up ["k", "up"]) : FnOk P w K mg base CX0 3 d_is_up.f d_is_up.fd ["k", "up"] spUp := by
 have G_is_below : FnOk P w K mg base CX0 2 _ _ _ _ := ok_is_below B d_is_whole d_is_below
 refine d_is_up.F.ok sc_is_up (fun vs H Q E h => ?_) (fun cdv A outer s H vs Q E hr h => ?_)
 ·obtain ⟨k, o, rfl, _⟩ := h
  rfl
 obtain ⟨k, o, rfl, q⟩ := h
 refine ⟨_, (pss_cons (ps_if (pt_cmpR op_eq (pv 0) pe_int (nomark _))
   (pss_one (ps_ret (pe_cmpR op_isN (pv 1) pe_non (nomark _))))
   pss_nil)
   (pss_one (ps_ret (pe_call G_is_below hr rfl d_is_below.m d_is_below.F.kp d_is_below.b .nil pass0 (pa_cons (pv 0) (pa_cons (pv 1) pa_nil)))))), ?_⟩
 refine ⟨_, rfl, rfl, _, rfl, ?_⟩
 refine ite2 (fun c => ?_) (fun c => ?_)
 ·have c' : V.int (k : Int) = V.int 0 := of_decide_eq_true c
  have k0 : k = 0 := by
   have z : (k : Int) = 0 := by injection c'
   omega
  refine ⟨_, rfl, rfl, ?_⟩
  have e : upOk k o = decide (upV o = V.non) := by unfold upOk; rw [if_pos k0]; cases o <;> simp [upV]
  rw [e] at q
  exact q
 ·have c' : ¬ V.int (k : Int) = V.int 0 := of_decide_eq_false (Bool.eq_false_iff.mpr c)
  have k0 : ¬ k = 0 := fun z => c' (by rw [z]; rfl)
  refine ⟨_, rfl, _, rfl, k, o, rfl, ?_⟩
  have e : upOk k o = belowF k o := by unfold upOk; rw [if_neg k0]
  rw [e] at q
  exact q
set_option maxHeartbeats 4000000 in
theorem ok_row_fault (B : Bl mg) (d_is_whole : Dn K mg "is_whole" s_is_whole ["thing"]) (d_is_below : Dn K mg "is_below" s_is_below ["n", "thing"]) (d_is_set : Dn K mg "is_set" s_is_set ["n", "places"]) (d_is_up : Dn K mg "is_up" s_is_up ["k", "up"]) (d_row_fault : Dn K mg "row_fault" s_row_fault ["n", "rows"]) : FnOk P w K mg base CX0 4 d_row_fault.f d_row_fault.fd ["n", "rows"] (spRowFault K) := by
 have G_is_up : FnOk P w K mg base CX0 3 _ _ _ _ := ok_is_up B d_is_whole d_is_below d_is_up
 have G_is_set : FnOk P w K mg base CX0 3 _ _ _ _ := ok_is_set B d_is_whole d_is_below d_is_set
 refine d_row_fault.F.ok sc_row_fault (fun vs H Q E h => ?_) (fun cdv A outer s H vs Q E hr h => ?_)
 ·obtain ⟨n, a, rs, rfl, _⟩ := h
  rfl
 obtain ⟨n, a, rs, rfl, hR, q⟩ := h
 refine ⟨_, (pss_cons (ps_if (pt_not (pt_truthK (K := K) rfl (pv 1) (fun _ => rfl)))
   (pss_one (ps_ret (pe_tupN (pa_cons pe_str (pa_cons pe_int pa_nil)))))
   pss_nil)
   (pss_cons (ps_for PassesOwn.never rfl (pi_enum (K := K) rfl rfl B.enumerate (pa_cons (pv 1) pa_nil)) (pg_tupK (K := K) (n := 2) rfl rfl (pgs_cons (pg_name (i := 2) sc_row_fault.nd rfl (Or.inl rfl)) (pgs_cons (pg_name (i := 3) sc_row_fault.nd rfl (Or.inl rfl)) pgs_nil)))
   (pss_one (ps_if (PW.pt (pw_or (pt_not (pt_truthK (K := K) rfl (pe_call G_is_up hr rfl d_is_up.m d_is_up.F.kp d_is_up.b .nil pass0 (pa_cons (pv 2) (pa_cons (pe_ix (ix_tupK (K := K) rfl) (pv 3) pe_int (fun _ _ => rfl)) pa_nil))) (fun _ => rfl))) (pw_or1 (pt_not (pt_truthK (K := K) rfl (pe_call G_is_set hr rfl d_is_set.m d_is_set.F.kp d_is_set.b .nil pass0 (pa_cons (pv 0) (pa_cons (pe_ix (ix_tupK (K := K) rfl) (pv 3) pe_int (fun _ _ => rfl)) pa_nil))) (fun _ => rfl))))))
   (pss_one (ps_ret (pe_tupN (pa_cons pe_str (pa_cons (pv 2) pa_nil)))))
   pss_nil)))
   (pss_one (ps_ret pe_non)))), ?_⟩
 obtain ⟨xs, hx, hp, hz⟩ := id hR
 have hl : xs.length = rs.length := Paired.length hp
 refine ⟨_, rfl, _, .inl ⟨xs, hx, rfl⟩, ?_⟩
 cases xs with
 | nil =>
  cases hp
  refine iteT ?_
  refine ⟨(by show 2 ≤ 1000; decide), fun p H1 nw => ?_⟩
  exact q _ H1 nw.same ⟨p, rfl, nw.here⟩
 | cons x0 xr =>
  refine iteF ?_
  have hne : rs.isEmpty = false := by cases hp; rfl
  have ef : rowFaultF n rs = (List.range rs.length).find? fun k => !rowOk n rs k := by unfold rowFaultF; rw [hne]; rfl
  refine ⟨_, rfl, a, rfl, ⟨_, hx⟩, ?_⟩
  refine for_enum (xs := x0 :: xr) (fun i σ H2 => ∃ (kk rr : Option V), σ = [some (.int n), some (.ref a), kk, rr] ∧ Same H H2 ∧ (∀ j < i, rowOk n rs j = true)) ⟨none, none, rfl, Same.refl _, fun j hj => absurd hj (Nat.not_lt_zero _)⟩ (fun i σ H2 _ ⟨_, _, _, sm, _⟩ => sm.seq hx) ?_ ?_
  ·rintro i x σ H2 p H3 hi ⟨kk, rr, rfl, sm, ok⟩ nw
   obtain ⟨r, hr1, ⟨pr, b, rfl, hT, hb, hbl⟩⟩ := paired_get hp hi
   have s3 : Same H H3 := sm.trans nw.same
   have er : rowAt rs i = r := rowAt_get hr1
   refine ⟨p, _, rfl, SqT.of nw.here, rfl, _, _, rfl, _, _, rfl, rfl, ?_⟩
   have il : i < rs.length := (List.getElem?_eq_some_iff.mp hr1).1
   have bad : rowOk n rs i = false → rowFaultF n rs = some i := fun c => by
    rw [ef]
    refine List.find?_range_eq_some.mpr ⟨by rw [c]; rfl, List.mem_range.mpr il, fun j hj => ?_⟩
    rw [ok j hj]; rfl
   have ret : ∀ H4 : Hp, Same H H4 → rowOk n rs i = false → ∀ p5 H5, New H4 p5 (.tup [.str "row", .int (i : Nat)]) H5 → Q (.ref p5) H5 := fun H4 s4 c p5 H5 n5 => by
    refine q _ H5 (s4.trans n5.same) ?_
    rw [bad c]
    exact ⟨p5, rfl, n5.here⟩
   refine ⟨_, rfl, _, rfl, pr, _, _, _, rfl, rfl, s3.tupq hT, rfl, i, r.1, rfl, _, rfl, ?_⟩
   cases c1 : upOk i r.1 with
   | false =>
    refine iteT ?_
    have cb : rowOk n rs i = false := by unfold rowOk; rw [er, c1]; rfl
    exact ⟨_, rfl, (by show 2 ≤ 1000; decide), ret H3 s3 cb⟩
   | true =>
    refine iteF ?_
    refine ⟨_, rfl, _, rfl, pr, _, _, _, rfl, rfl, s3.tupq hT, rfl, n, b, r.2, rfl, s3.seq hb, hbl, fun H4 s4 => ?_⟩
    refine ⟨_, rfl, ?_⟩
    cases c2 : setF n r.2 with
    | false =>
     refine iteT ?_
     have cb : rowOk n rs i = false := by unfold rowOk; rw [er, c1, c2]; rfl
     exact ⟨_, rfl, (by show 2 ≤ 1000; decide), ret H4 (s3.trans s4) cb⟩
    | true =>
     refine iteF ?_
     refine ⟨_, _, rfl, s3.trans s4, fun j hj => ?_⟩
     by_cases hji : j = i
     ·subst hji; unfold rowOk; rw [er, c1, c2]; rfl
     ·exact ok j (by omega)
  ·rintro σ H2 ⟨kk, rr, rfl, sm, ok⟩
   have en : rowFaultF n rs = none := by
    rw [ef]
    refine List.find?_eq_none.mpr fun j hj => ?_
    rw [ok j (by rw [hl]; exact List.mem_range.mp hj)]; simp
   exact q _ H2 sm (by rw [en]; rfl)
set_option maxHeartbeats 4000000 in
theorem ok_place_fault (B : Bl mg) (d_place_fault : Dn K mg "place_fault" s_place_fault ["n", "rows"]) : FnOk P w K mg base CX0 2 d_place_fault.f d_place_fault.fd ["n", "rows"] (spPlaceFault K) := by
 refine d_place_fault.F.ok sc_place_fault (fun vs H Q E h => ?_) (fun cdv A outer s H vs Q E hr h => ?_)
 ·obtain ⟨n, a, rs, rfl, _⟩ := h
  rfl
 obtain ⟨n, a, rs, rfl, hn, hR, q⟩ := h
 have hv : (A.deeper (PyProof.Rows.envOfC "place_fault" (defScope s_place_fault) s.heap.objs.size d_place_fault.f cdv)).units + 65 < cLine := by have := hr.un; omega
 refine ⟨_, (pss_cons (ps_for PassesOwn.never rfl (pi_range1 rfl B.range (pa_cons (pv 0) pa_nil)) (pg_name (i := 2) sc_place_fault.nd rfl (Or.inr rfl))
   (pss_one (ps_if (pt_not (pt_truthK (K := K) rfl (pe_callB (call_anyK (K := K) rfl rfl) rfl B.any (by decide +kernel) (pa_cons (pe_lc ["up", "places", "v"] [none, none, some 2]  (by kernel_rfl) rfl (pi_listK (K := K) rfl (pv 1)) (fun _ _ _ _ _ => (pg_tupK (K := K) (n := 2) rfl rfl (pgs_cons (pg_name (i := 0) (show (["up", "places", "v"] : List Str).Nodup by decide +kernel) rfl (Or.inl rfl)) (pgs_cons (pg_name (i := 1) (show (["up", "places", "v"] : List Str).Nodup by decide +kernel) rfl (Or.inl rfl)) pgs_nil)))) (fun _ _ _ _ _ => pts_nil) (fun _ _ _ _ _ => (pe_cmpR (op_inDK (K := K) rfl hv) (pv 2) (pv 1) (by with_unfolding_all rfl)))) pa_nil)) (fun _ => rfl)))
   (pss_one (ps_ret (pe_tupN (pa_cons pe_str (pa_cons (pv 2) pa_nil)))))
   pss_nil)))
   (pss_one (ps_ret pe_non))), ?_⟩
 obtain ⟨xs, hx, hp, hz⟩ := id hR
 have hl : xs.length = rs.length := Paired.length hp
 refine ⟨_, rfl, _, rfl, by omega, by omega, ?_⟩
 have en : ((n : Nat) : Int).toNat = n := by omega
 rw [en]
 refine for_range (n := n) (fun i σ H2 => ∃ vv : Option V, σ = [some (.int n), some (.ref a), vv] ∧ Same H H2 ∧ ∀ j < i, rs.any (has (j : Nat)) = true) ⟨none, rfl, Same.refl _, fun j hj => absurd hj (Nat.not_lt_zero _)⟩ ?_ ?_
 ·rintro i σ H2 hi ⟨vv, rfl, sm, ok⟩
  refine ⟨_, rfl, a, rfl, ⟨_, sm.seq hx⟩, ?_⟩
  refine lc_ixN (fun j => some (.bl (has (0 + (i : Int)) (rowAt rs j)))) (sm.seq hx) (by omega) (fun j x H3 N hj s3 hN => ?_) (fun H3 p H4 s3 nw => ?_)
  ·obtain ⟨r, hr1, ⟨pr, b, rfl, hT, hb, hbl⟩⟩ := paired_get hp hj
   have s4 := sm.trans s3
   rw [rowAt_get hr1] at hN
   exact ⟨pr, _, rfl, s4.tupq hT, rfl, _, _, rfl, _, _, rfl, rfl, _, rfl, _, rfl, inInts (s4.seq hb) (hN H3 s3)⟩
  ·have e1 : (List.range xs.length).filterMap (fun j => some (V.bl (has (0 + (i : Int)) (rowAt rs j)))) = ((List.range rs.length).map fun j => has (0 + (i : Int)) (rowAt rs j)).map V.bl := by
    rw [hl, List.map_map]
    exact fm_some fun _ _ => rfl
   rw [e1] at nw
   have e2 := any_range rs (has (0 + (i : Int)))
   refine ⟨p, _, _, rfl, SqL.of nw.here, Truths.bls _, _, rfl, ?_⟩
   rw [e2]
   have s4 := sm.trans (s3.trans nw.same)
   have ei : (0 + (i : Int)) = ((i : Nat) : Int) := by omega
   rw [ei]
   cases c : rs.any (has ((i : Nat) : Int)) with
   | false =>
    refine iteT ?_
    refine ⟨_, rfl, (by show 2 ≤ 1000; decide), fun p5 H5 n5 => ?_⟩
    refine q _ H5 (s4.trans n5.same) ?_
    have ef : placeFaultF n rs = some i := List.find?_range_eq_some.mpr ⟨by rw [c]; rfl, List.mem_range.mpr hi, fun j hj => by rw [ok j hj]; rfl⟩
    rw [ef]
    exact ⟨p5, rfl, n5.here⟩
   | true =>
    refine iteF ?_
    refine ⟨_, rfl, s4, fun j hj => ?_⟩
    by_cases hji : j = i
    ·subst hji; exact c
    ·exact ok j (by omega)
 ·rintro σ H2 ⟨vv, rfl, sm, ok⟩
  have ef : placeFaultF n rs = none := List.find?_eq_none.mpr fun j hj => by rw [ok j (List.mem_range.mp hj)]; simp
  exact q _ H2 sm (by rw [ef]; rfl)
set_option maxHeartbeats 4000000 in
theorem ok_tie_fault (B : Bl mg) (d_tie_fault : Dn K mg "tie_fault" s_tie_fault ["ties", "rows"]) : FnOk P w K mg base CX0 2 d_tie_fault.f d_tie_fault.fd ["ties", "rows"] (spTieFault K) := by
 refine d_tie_fault.F.ok sc_tie_fault (fun vs H Q E h => ?_) (fun cdv A outer s H vs Q E hr h => ?_)
 ·obtain ⟨t, a, ts, rs, rfl, _⟩ := h
  rfl
 obtain ⟨t, a, ts, rs, rfl, hT, hR, q⟩ := h
 have hv : (A.deeper (PyProof.Rows.envOfC "tie_fault" (defScope s_tie_fault) s.heap.objs.size d_tie_fault.f cdv)).units + 65 < cLine := by have := hr.un; omega
 refine ⟨_, (pss_cons (ps_for PassesOwn.never rfl (pi_listK (K := K) rfl (pv 0)) (pg_tupK (K := K) (n := 2) rfl rfl (pgs_cons (pg_name (i := 2) sc_tie_fault.nd rfl (Or.inr rfl)) (pgs_cons (pg_name (i := 3) sc_tie_fault.nd rfl (Or.inr rfl)) pgs_nil)))
   (pss_one (ps_if (pt_not (pt_truthK (K := K) rfl (pe_callB (call_anyK (K := K) rfl rfl) rfl B.any (by decide +kernel) (pa_cons (pe_lc ["up", "places", "a", "b"] [none, none, some 2, some 3]  (by kernel_rfl) rfl (pi_listK (K := K) rfl (pv 1)) (fun _ _ _ _ _ => (pg_tupK (K := K) (n := 2) rfl rfl (pgs_cons (pg_name (i := 0) (show (["up", "places", "a", "b"] : List Str).Nodup by decide +kernel) rfl (Or.inl rfl)) (pgs_cons (pg_name (i := 1) (show (["up", "places", "a", "b"] : List Str).Nodup by decide +kernel) rfl (Or.inl rfl)) pgs_nil)))) (fun _ _ _ _ _ => pts_nil) (fun _ _ _ _ _ => (pe_and (pe_cmpR (op_inDK (K := K) rfl hv) (pv 2) (pv 1) (by with_unfolding_all rfl)) (pe_one (pe_cmpR (op_inDK (K := K) rfl hv) (pv 3) (pv 1) (by with_unfolding_all rfl)))))) pa_nil)) (fun _ => rfl)))
   (pss_one (ps_ret (pe_tupN (pa_cons pe_str (pa_cons (pv 2) (pa_cons (pv 3) pa_nil))))))
   pss_nil)))
   (pss_one (ps_ret pe_non))), ?_⟩
 obtain ⟨xs, hx, hp, hz⟩ := id hR
 obtain ⟨ys, hy, hq, hzt⟩ := id hT
 have hl : xs.length = rs.length := Paired.length hp
 have hlt : ys.length = ts.length := Paired.length hq
 let pt : Int × Int → Bool := fun t => rs.any fun r => has t.1 r && has t.2 r
 have ef : tieFaultF ts rs = ts.find? fun t => !pt t := rfl
 refine ⟨_, rfl, t, rfl, ⟨_, hy⟩, ?_⟩
 refine for_list (xs := ys) (fun i σ H2 => ∃ aa bb : Option V, σ = [some (.ref t), some (.ref a), aa, bb] ∧ Same H H2 ∧ ∀ j z, j < i → ts[j]? = some z → pt z = true) ⟨none, none, rfl, Same.refl _, fun j z hj => absurd hj (Nat.not_lt_zero _)⟩ (fun i σ H2 _ ⟨_, _, _, sm, _⟩ => sm.seq hy) ?_ ?_
 ·rintro i x σ H2 hi ⟨aa, bb, rfl, sm, ok⟩
  obtain ⟨tt, ht1, ⟨p0, rfl, hT0⟩⟩ := paired_get hq hi
  refine ⟨p0, _, rfl, sm.tupq hT0, rfl, _, _, rfl, _, _, rfl, rfl, ?_⟩
  refine ⟨_, rfl, a, rfl, ⟨_, sm.seq hx⟩, ?_⟩
  refine lc_ixN (fun j => some (.bl (has tt.1 (rowAt rs j) && has tt.2 (rowAt rs j)))) (sm.seq hx) (by omega) (fun j x H3 N hj s3 hN => ?_) (fun H3 p H4 s3 nw => ?_)
  ·obtain ⟨r, hr1, ⟨pr, b, rfl, hTr, hb, hbl⟩⟩ := paired_get hp hj
   have s4 := sm.trans s3
   rw [rowAt_get hr1] at hN
   refine ⟨pr, _, rfl, s4.tupq hTr, rfl, _, _, rfl, _, _, rfl, rfl, _, rfl, _, rfl, inInts (s4.seq hb) ⟨_, rfl, ?_⟩⟩
   cases c : decide (tt.1 ∈ r.2) with
   | false =>
    refine iteF ?_
    have z := hN H3 s3
    have ez : (has tt.1 r && has tt.2 r) = false := by unfold has; rw [c]; rfl
    rw [ez] at z; exact z
   | true =>
    refine iteT ?_
    have z := hN H3 s3
    have ez : (has tt.1 r && has tt.2 r) = decide (tt.2 ∈ r.2) := by unfold has; rw [c]; rfl
    rw [ez] at z
    exact ⟨_, rfl, _, rfl, inInts (s4.seq hb) z⟩
  ·have e1 : (List.range xs.length).filterMap (fun j => some (V.bl (has tt.1 (rowAt rs j) && has tt.2 (rowAt rs j)))) = ((List.range rs.length).map fun j => (fun r => has tt.1 r && has tt.2 r) (rowAt rs j)).map V.bl := by
    rw [hl, List.map_map]
    exact fm_some fun _ _ => rfl
   rw [e1] at nw
   have e2 := any_range rs (fun r => has tt.1 r && has tt.2 r)
   refine ⟨p, _, _, rfl, SqL.of nw.here, Truths.bls _, _, rfl, ?_⟩
   rw [e2]
   have s4 := sm.trans (s3.trans nw.same)
   cases c : rs.any fun r => has tt.1 r && has tt.2 r with
   | false =>
    refine iteT ?_
    refine ⟨_, rfl, _, rfl, (by show 3 ≤ 1000; decide), fun p5 H5 n5 => ?_⟩
    refine q _ H5 (s4.trans n5.same) ?_
    have ef2 : tieFaultF ts rs = some tt := find_at ht1 (by show (!pt tt) = true; show (!(rs.any fun r => has tt.1 r && has tt.2 r)) = true; rw [c]; rfl) fun j z hj hz => by show (!pt z) = false; rw [ok j z hj hz]; rfl
    rw [ef2]
    exact ⟨p5, rfl, n5.here⟩
   | true =>
    refine iteF ?_
    refine ⟨_, _, rfl, s4, fun j z hj hz => ?_⟩
    by_cases hji : j = i
    ·subst hji
     rw [ht1] at hz; cases hz
     exact c
    ·exact ok j z (by omega) hz
 ·rintro σ H2 ⟨aa, bb, rfl, sm, ok⟩
  have ef2 : tieFaultF ts rs = none := List.find?_eq_none.mpr fun z hz => by
   obtain ⟨j, hj, rfl⟩ := List.getElem_of_mem hz
   have := ok j ts[j] (by rw [hlt]; exact hj) (List.getElem?_eq_getElem hj)
   show ¬ (!pt ts[j]) = true
   rw [this]; simp
  exact q _ H2 sm (by rw [ef2]; rfl)
set_option maxHeartbeats 4000000 in
theorem ok_is_held (B : Bl mg) (d_is_held : Dn K mg "is_held" s_is_held ["rows", "up", "v"]) : FnOk P w K mg base CX0 1 d_is_held.f d_is_held.fd ["rows", "up", "v"] (spHeld K) := by
 refine d_is_held.F.ok sc_is_held (fun vs H Q E h => ?_) (fun cdv A outer s H vs Q E hr h => ?_)
 ·obtain ⟨a, rs, u, v, rfl, _⟩ := h
  rfl
 obtain ⟨a, rs, u, v, rfl, hR, hu, q⟩ := h
 have hv : (A.deeper (PyProof.Rows.envOfC "is_held" (defScope s_is_held) s.heap.objs.size d_is_held.f cdv)).units + 65 < cLine := by have := hr.un; omega
 refine ⟨_, (pss_one (ps_ret (pe_and (pe_cmpR op_notN (pv 1) pe_non (nomark _)) (pe_one (pe_cmpR (op_inDK (K := K) rfl hv) (pv 2) (pe_ix (ix_tupK (K := K) rfl) (pe_ix (ix_listK (K := K) rfl) (pv 0) (pv 1) (fun _ _ => rfl)) pe_int (fun _ _ => rfl)) (by with_unfolding_all rfl)))))), ?_⟩
 obtain ⟨xs, hx, hp, hz⟩ := id hR
 have hl : xs.length = rs.length := Paired.length hp
 refine ⟨_, rfl, rfl, _, rfl, ?_⟩
 cases u with
 | none => exact iteF q
 | some i =>
  obtain ⟨i0, i1⟩ := hu i rfl
  refine iteT ?_
  have il : i.toNat < rs.length := by omega
  obtain ⟨x, hx1, ⟨pr, b, rfl, hT, hb, hbl⟩⟩ := paired_getr hp (rowAt_lt il)
  have ei : i = ((i.toNat : Nat) : Int) := by omega
  have hat : atI xs i = some (.ref pr) := by rw [ei]; exact atI_nat hx1
  exact ⟨_, rfl, _, rfl, _, rfl, a, _, _, _, rfl, rfl, hx, hat, pr, _, _, _, rfl, rfl, hT, rfl, inInts hb q⟩
set_option maxHeartbeats 4000000 in
theorem ok_apart_fault (B : Bl mg) (d_is_held : Dn K mg "is_held" s_is_held ["rows", "up", "v"]) (d_apart_fault : Dn K mg "apart_fault" s_apart_fault ["n", "rows"]) : FnOk P w K mg base CX0 2 d_apart_fault.f d_apart_fault.fd ["n", "rows"] (spApart K) := by
 have G_is_held : FnOk P w K mg base CX0 1 _ _ _ _ := ok_is_held B d_is_held
 refine d_apart_fault.F.ok sc_apart_fault (fun vs H Q E h => ?_) (fun cdv A outer s H vs Q E hr h => ?_)
 ·obtain ⟨n, a, rs, rfl, _⟩ := h
  rfl
 obtain ⟨n, a, rs, rfl, hn, hR, hU, q⟩ := h
 have hv : (A.deeper (PyProof.Rows.envOfC "apart_fault" (defScope s_apart_fault) s.heap.objs.size d_apart_fault.f cdv)).units + 65 < cLine := by have := hr.un; omega
 refine ⟨_, (pss_cons (ps_for PassesOwn.never rfl (pi_range1 rfl B.range (pa_cons (pv 0) pa_nil)) (pg_name (i := 2) sc_apart_fault.nd rfl (Or.inr rfl))
   (pss_cons (ps_setLC (i := 3) ["k", "row", "v", "rows"] [none, none, some 2, some 1] sc_apart_fault.nd rfl rfl (by kernel_rfl) rfl (pi_enum (K := K) rfl rfl B.enumerate (pa_cons (pv 1) pa_nil)) (fun _ _ _ _ _ => (pg_tupK (K := K) (n := 2) rfl rfl (pgs_cons (pg_name (i := 0) (show (["k", "row", "v", "rows"] : List Str).Nodup by decide +kernel) rfl (Or.inl rfl)) (pgs_cons (pg_name (i := 1) (show (["k", "row", "v", "rows"] : List Str).Nodup by decide +kernel) rfl (Or.inl rfl)) pgs_nil)))) (fun _ _ _ _ _ => (pts_one (PW.pt (pw_and (pt_cmpR (op_inDK (K := K) rfl hv) (pv 2) (pe_ix (ix_tupK (K := K) rfl) (pv 1) pe_int (fun _ _ => rfl)) (by with_unfolding_all rfl)) (pw_and1 (pt_not (pt_truthK (K := K) rfl (pe_call G_is_held hr rfl d_is_held.m d_is_held.F.kp d_is_held.b .nil pass0 (pa_cons (pv 3) (pa_cons (pe_ix (ix_tupK (K := K) rfl) (pv 1) pe_int (fun _ _ => rfl)) (pa_cons (pv 2) pa_nil)))) (fun _ => rfl)))))))) (fun _ _ _ _ _ => (pv 0)) (by rfl))
   (pss_one (ps_if (pt_cmpR op_gt (pe_callB (call_lenK (K := K) rfl) rfl B.len (by decide +kernel) (pa_cons (pv 3) pa_nil)) pe_int (nomark _))
   (pss_one (ps_ret (pe_tupN (pa_cons pe_str (pa_cons (pv 2) (pa_cons (pe_ix (ix_listK (K := K) rfl) (pv 3) pe_int (fun _ _ => rfl)) (pa_cons (pe_ix (ix_listK (K := K) rfl) (pv 3) pe_int (fun _ _ => rfl)) pa_nil)))))))
   pss_nil))))
   (pss_one (ps_ret pe_non))), ?_⟩
 obtain ⟨xs, hx, hp, hz⟩ := id hR
 have hl : xs.length = rs.length := Paired.length hp
 refine ⟨_, rfl, _, rfl, by omega, by omega, ?_⟩
 have en : ((n : Nat) : Int).toNat = n := by omega
 rw [en]
 refine for_range (n := n) (fun i σ H2 => ∃ vv tt : Option V, σ = [some (.int n), some (.ref a), vv, tt] ∧ Same H H2 ∧ ∀ j < i, apartAt rs ((j : Nat) : Int) = none) ⟨none, none, rfl, Same.refl _, fun j hj => absurd hj (Nat.not_lt_zero _)⟩ ?_ ?_
 ·rintro i σ H2 hi ⟨vv, tt, rfl, sm, ok⟩
  have ei : (0 + (i : Int)) = ((i : Nat) : Int) := by omega
  refine ⟨_, rfl, a, rfl, ⟨_, sm.seq hx⟩, ?_⟩
  refine lc_enum (fun j _ => if isTop rs ((i : Nat) : Int) j then some (.int j) else none) (sm.seq hx) (by omega) (fun j x H3 p H0 N hj s3 nw hN => ?_) (fun H3 p H4 s3 nw => ?_)
  ·obtain ⟨r, hr1, ⟨pr, b, rfl, hT, hb, hbl⟩⟩ := paired_get hp hj
   have s4 : Same H H0 := sm.trans (s3.trans nw.same)
   have jl : j < rs.length := (List.getElem?_eq_some_iff.mp hr1).1
   have er := rowAt_get hr1
   have hN' := hN H0 (s3.trans nw.same)
   refine ⟨p, _, rfl, SqT.of nw.here, rfl, _, _, rfl, _, _, rfl, rfl, _, rfl, _, rfl, pr, _, _, _, rfl, rfl, s4.tupq hT, rfl, inInts (s4.seq hb) ⟨_, rfl, ?_⟩⟩
   rw [ei]
   cases c : decide (((i : Nat) : Int) ∈ r.2) with
   | false =>
    refine iteF (iteF ?_)
    have ez : isTop rs ((i : Nat) : Int) j = false := by unfold isTop has; rw [er, c]; rfl
    rw [ez] at hN'; exact hN'
   | true =>
    refine iteT ?_
    refine ⟨_, rfl, _, rfl, pr, _, _, _, rfl, rfl, s4.tupq hT, rfl, _, rfl, a, rs, r.1, _, rfl, hR.same s4, (fun u hu => hU j u (by rw [er]; exact hu) jl), _, rfl, ?_⟩
    have ez : isTop rs ((i : Nat) : Int) j = !heldF rs r.1 ((i : Nat) : Int) := by unfold isTop has; rw [er, c]; rfl
    rw [ez] at hN'
    cases c2 : heldF rs r.1 ((i : Nat) : Int) with
    | true => rw [c2] at hN'; exact iteF hN'
    | false => rw [c2] at hN'; exact iteT ⟨_, rfl, hN'⟩
  ·have e1 : (List.range xs.length).filterMap (fun j => (xs[j]?).bind fun _ => if isTop rs ((i : Nat) : Int) j then some (V.int j) else none) = (topsF rs ((i : Nat) : Int)).map fun k => V.int (k : Nat) := by
    rw [← tops_fm, hl]
    refine fm_congr fun j hj => ?_
    have jl : j < xs.length := by rw [hl]; exact List.mem_range.mp hj
    rw [List.getElem?_eq_getElem jl]; rfl
   rw [e1] at nw
   have s4 := sm.trans (s3.trans nw.same)
   refine ⟨_, rfl, p, _, rfl, .inl (SqL.of nw.here), _, _, rfl, rfl, _, rfl, ?_⟩
   refine ite2 (fun c => ?_) (fun c => ?_)
   ·have c' : (1 : Int) < (((topsF rs ((i : Nat) : Int)).map fun k => V.int (k : Nat)).length : Nat) := of_decide_eq_true c
    rw [List.length_map] at c'
    obtain ⟨j, k, rest, et⟩ : ∃ j k rest, topsF rs ((i : Nat) : Int) = j :: k :: rest := by
     match topsF rs ((i : Nat) : Int), c' with
     | [], c' => exact absurd c' (by simp)
     | [_], c' => exact absurd c' (by simp)
     | j :: k :: rest, _ => exact ⟨j, k, rest, rfl⟩
    rw [et] at nw
    refine ⟨_, rfl, _, rfl, p, _, _, _, rfl, rfl, SqL.of nw.here, (show atI _ (0 : Int) = _ from atI_nat (j := 0) rfl), _, rfl, p, _, _, _, rfl, rfl, SqL.of nw.here, (show atI _ (1 : Int) = _ from atI_nat (j := 1) rfl), (by show 4 ≤ 1000; decide), fun p5 H5 n5 => ?_⟩
    refine q _ H5 (s4.trans n5.same) ?_
    have ea : apartAt rs ((i : Nat) : Int) = some (j, k) := by unfold apartAt; rw [et]
    have ef : apartFaultF n rs = some (i, j, k) := findSome_range hi (by rw [ea]; rfl) fun m hm => by rw [ok m hm]; rfl
    rw [ef]
    refine ⟨p5, rfl, ?_⟩
    rw [n5.here, ei]
   ·have c' : ¬ (1 : Int) < (((topsF rs ((i : Nat) : Int)).map fun k => V.int (k : Nat)).length : Nat) := of_decide_eq_false (Bool.eq_false_iff.mpr c)
    rw [List.length_map] at c'
    refine ⟨_, _, rfl, s4, fun m hm => ?_⟩
    by_cases hmi : m = i
    ·subst hmi
     unfold apartAt
     match topsF rs ((m : Nat) : Int), c' with
     | [], _ => rfl
     | [_], _ => rfl
     | _ :: _ :: _, c' => exact absurd (show (1 : Int) < _ by simp only [List.length_cons]; omega) c'
    ·exact ok m (by omega)
 ·rintro σ H2 ⟨vv, tt, rfl, sm, ok⟩
  have ef : apartFaultF n rs = none := findSome_range_none fun m hm => by rw [ok m hm]; rfl
  exact q _ H2 sm (by rw [ef]; rfl)
set_option maxHeartbeats 4000000 in
theorem ok_fault (B : Bl mg) (d_is_whole : Dn K mg "is_whole" s_is_whole ["thing"]) (d_is_below : Dn K mg "is_below" s_is_below ["n", "thing"]) (d_is_set : Dn K mg "is_set" s_is_set ["n", "places"]) (d_is_up : Dn K mg "is_up" s_is_up ["k", "up"]) (d_row_fault : Dn K mg "row_fault" s_row_fault ["n", "rows"]) (d_place_fault : Dn K mg "place_fault" s_place_fault ["n", "rows"]) (d_tie_fault : Dn K mg "tie_fault" s_tie_fault ["ties", "rows"]) (d_is_held : Dn K mg "is_held" s_is_held ["rows", "up", "v"]) (d_apart_fault : Dn K mg "apart_fault" s_apart_fault ["n", "rows"]) (d_fault : Dn K mg "fault" s_fault ["graph", "rows"]) : FnOk P w K mg base CX0 5 d_fault.f d_fault.fd ["graph", "rows"] (spFault K) := by
 have G_row_fault : FnOk P w K mg base CX0 4 _ _ _ _ := ok_row_fault B d_is_whole d_is_below d_is_set d_is_up d_row_fault
 have G_place_fault : FnOk P w K mg base CX0 4 _ _ _ _ := (ok_place_fault B d_place_fault).mono (by decide)
 have G_tie_fault : FnOk P w K mg base CX0 4 _ _ _ _ := (ok_tie_fault B d_tie_fault).mono (by decide)
 have G_apart_fault : FnOk P w K mg base CX0 4 _ _ _ _ := (ok_apart_fault B d_is_held d_apart_fault).mono (by decide)
 refine d_fault.F.ok sc_fault (fun vs H Q E h => ?_) (fun cdv A outer s H vs Q E hr h => ?_)
 ·obtain ⟨g, n, ts, a, rs, rfl, _⟩ := h
  rfl
 obtain ⟨g, n, ts, a, rs, rfl, hn, hG, hR, q⟩ := h
 refine ⟨_, (pss_cons (ps_set (i := 2) sc_fault.nd rfl (Or.inl rfl) (pe_call G_row_fault hr rfl d_row_fault.m d_row_fault.F.kp d_row_fault.b .nil pass0 (pa_cons (pe_ix (ix_tupK (K := K) rfl) (pv 0) pe_int (fun _ _ => rfl)) (pa_cons (pv 1) pa_nil))))
   (pss_cut (ps_if (pt_cmpR op_isN (pv 2) pe_non (nomark _))
   (pss_one (ps_set (i := 2) sc_fault.nd rfl (Or.inl rfl) (pe_call G_place_fault hr rfl d_place_fault.m d_place_fault.F.kp d_place_fault.b .nil pass0 (pa_cons (pe_ix (ix_tupK (K := K) rfl) (pv 0) pe_int (fun _ _ => rfl)) (pa_cons (pv 1) pa_nil)))))
   pss_nil)
   (pss_cut (ps_if (pt_cmpR op_isN (pv 2) pe_non (nomark _))
   (pss_one (ps_set (i := 2) sc_fault.nd rfl (Or.inl rfl) (pe_call G_tie_fault hr rfl d_tie_fault.m d_tie_fault.F.kp d_tie_fault.b .nil pass0 (pa_cons (pe_ix (ix_tupK (K := K) rfl) (pv 0) pe_int (fun _ _ => rfl)) (pa_cons (pv 1) pa_nil)))))
   pss_nil)
   (pss_cut (ps_if (pt_cmpR op_isN (pv 2) pe_non (nomark _))
   (pss_one (ps_set (i := 2) sc_fault.nd rfl (Or.inl rfl) (pe_call G_apart_fault hr rfl d_apart_fault.m d_apart_fault.F.kp d_apart_fault.b .nil pass0 (pa_cons (pe_ix (ix_tupK (K := K) rfl) (pv 0) pe_int (fun _ _ => rfl)) (pa_cons (pv 1) pa_nil)))))
   pss_nil)
   (pss_one (ps_ret (pv 2))))))), ?_⟩
 obtain ⟨pg, tl, rfl, hT, hTs⟩ := id hG
 refine ⟨_, rfl, pg, _, _, _, rfl, rfl, hT, rfl, _, rfl, n, a, rs, rfl, hR, fun v1 H1 s1 f1 => ?_⟩
 refine ⟨fun σ' H' => ∃ v, σ' = [some (.ref pg), some (.ref a), some v] ∧ Same H H' ∧ FltV H' v (match rowFaultF n rs with | some k => .row k | none => (match placeFaultF n rs with | some v => .place v | none => .ok)), ?_, ?_⟩
 ·refine ⟨_, rfl, rfl, _, rfl, ?_⟩
  cases c : rowFaultF n rs with
  | some k =>
   rw [c] at f1
   obtain ⟨p, rfl, e⟩ := id f1
   exact iteF ⟨_, rfl, s1, f1⟩
  | none =>
   rw [c] at f1
   cases (show v1 = V.non from f1)
   refine iteT ?_
   refine ⟨_, rfl, pg, _, _, _, rfl, rfl, s1.tupq hT, rfl, _, rfl, n, a, rs, rfl, hn, hR.same s1, fun v2 H2 s2 f2 => ?_⟩
   exact ⟨v2, rfl, s1.trans s2, f2⟩
 rintro σ2 H2 ⟨v2, rfl, s2, f2⟩
 refine ⟨fun σ' H' => ∃ v, σ' = [some (.ref pg), some (.ref a), some v] ∧ Same H H' ∧ FltV H' v (match rowFaultF n rs with | some k => .row k | none => (match placeFaultF n rs with | some v => .place v | none => (match tieFaultF ts rs with | some t => .tie t.1 t.2 | none => .ok))), ?_, ?_⟩
 ·refine ⟨_, rfl, rfl, _, rfl, ?_⟩
  cases c : rowFaultF n rs with
  | some k =>
   rw [c] at f2
   obtain ⟨p, rfl, e⟩ := id f2
   exact iteF ⟨_, rfl, s2, f2⟩
  | none =>
   rw [c] at f2
   cases c2 : placeFaultF n rs with
   | some k =>
    rw [c2] at f2
    obtain ⟨p, rfl, e⟩ := id f2
    exact iteF ⟨_, rfl, s2, f2⟩
   | none =>
    rw [c2] at f2
    cases (show v2 = V.non from f2)
    refine iteT ?_
    refine ⟨_, rfl, pg, _, _, _, rfl, rfl, s2.tupq hT, rfl, _, rfl, tl, a, ts, rs, rfl, hTs.same s2, hR.same s2, fun v3 H3 s3 f3 => ?_⟩
    exact ⟨v3, rfl, s2.trans s3, f3⟩
 rintro σ3 H3 ⟨v3, rfl, s3, f3⟩
 refine ⟨fun σ' H' => ∃ v, σ' = [some (.ref pg), some (.ref a), some v] ∧ Same H H' ∧ FltV H' v (faultF n ts rs), ?_, ?_⟩
 ·refine ⟨_, rfl, rfl, _, rfl, ?_⟩
  unfold faultF
  cases c : rowFaultF n rs with
  | some k =>
   rw [c] at f3
   obtain ⟨p, rfl, e⟩ := id f3
   exact iteF ⟨_, rfl, s3, f3⟩
  | none =>
   rw [c] at f3
   cases c2 : placeFaultF n rs with
   | some k =>
    rw [c2] at f3
    obtain ⟨p, rfl, e⟩ := id f3
    exact iteF ⟨_, rfl, s3, f3⟩
   | none =>
    rw [c2] at f3
    cases c3 : tieFaultF ts rs with
    | some k =>
     rw [c3] at f3
     obtain ⟨p, rfl, e⟩ := id f3
     exact iteF ⟨_, rfl, s3, f3⟩
    | none =>
     rw [c3] at f3
     cases (show v3 = V.non from f3)
     refine iteT ?_
     refine ⟨_, rfl, pg, _, _, _, rfl, rfl, s3.tupq hT, rfl, _, rfl, n, a, rs, rfl, hn, hR.same s3, ups_of c, fun v4 H4 s4 f4 => ?_⟩
     exact ⟨v4, rfl, s3.trans s4, f4⟩
 rintro σ4 H4 ⟨v4, rfl, s4, f4⟩
 exact ⟨_, rfl, q v4 H4 s4 f4⟩
end
def lessF (xs ys : List Int) : List Int := xs.filter fun v => !decide (v ∈ ys)
def spLess (K : PySem.W.Frag) : Sp := fun vs H Q _ => ∃ (a b : Addr) (xs ys : List Int), vs = [.ref a, .ref b] ∧ SqL K H a (xs.map V.int) ∧ SqL K H b (ys.map V.int) ∧ xs.length ≤ 1000 ∧
 ∀ H0 p H', Same H H0 → New H0 p (.lst ((lessF xs ys).map V.int)) H' → Q (.ref p) H'
theorem fm_ifI (xs : List Int) (c : Int → Bool) : (xs.map V.int).filterMap (fun x => match x with | .int v => if c v then some (.int v) else none | _ => none) = (xs.filter c).map V.int := by
 induction xs with
 | nil => rfl
 | cons x r ih =>
  rw [List.map_cons, List.filter_cons]
  cases e : c x with
  | true => rw [List.filterMap_cons_some (by simp only [e]; rfl), ih]; simp
  | false => rw [List.filterMap_cons_none (by simp only [e]; rfl), ih]; simp
abbrev s_less : Stmt := top 10
theorem sc_less : FnScope ["one", "other"] ["one", "other"] (defScope s_less) := ⟨rfl, rfl, rfl, by decide +kernel, rfl, by decide +kernel, by decide +kernel⟩
section
variable {P : Program} {w : World} {K : PySem.W.Frag} {mg : Str → Option Value} {base : Heap}
set_option maxHeartbeats 4000000 in
theorem ok_less (B : Bl mg) (d_less : Dn K mg "less" s_less ["one", "other"]) : FnOk P w K mg base CX0 1 d_less.f d_less.fd ["one", "other"] (spLess K) := by
 refine d_less.F.ok sc_less (fun vs H Q E h => ?_) (fun cdv A outer s H vs Q E hr h => ?_)
 ·obtain ⟨a, b, xs, ys, rfl, _⟩ := h
  rfl
 obtain ⟨a, b, xs, ys, rfl, hA, hB, hz, q⟩ := h
 have hv : (A.deeper (PyProof.Rows.envOfC "less" (defScope s_less) s.heap.objs.size d_less.f cdv)).units + 65 < cLine := by have := hr.un; omega
 refine ⟨_, (pss_one (ps_ret (pe_lc ["v", "other"] [none, some 1]  (by kernel_rfl) rfl (pi_listK (K := K) rfl (pv 0)) (fun _ _ _ _ _ => (pg_name (i := 0) (show (["v", "other"] : List Str).Nodup by decide +kernel) rfl (Or.inl rfl))) (fun _ _ _ _ _ => (pts_one (pt_cmpR (op_notInDK (K := K) rfl hv) (pv 0) (pv 1) (by with_unfolding_all rfl)))) (fun _ _ _ _ _ => (pv 0))))), ?_⟩
 refine ⟨_, rfl, a, rfl, ⟨_, hA⟩, ?_⟩
 refine lc_fmN (fun x => match x with | .int v => if !decide (v ∈ ys) then some (.int v) else none | _ => none) hA (by rw [List.length_map]; exact hz) (fun x H1 N hx sm hN => ?_) (fun H1 p H1' sm hp => ?_)
 ·obtain ⟨v, hv, rfl⟩ := List.mem_map.mp hx
  have hN' := hN H1 sm
  refine ⟨_, rfl, _, rfl, notInInts (sm.seq hB) ⟨_, rfl, ?_⟩⟩
  dsimp only at hN'
  cases c : decide (v ∈ ys) with
  | true => rw [c] at hN'; exact iteF hN'
  | false => rw [c] at hN'; exact iteT ⟨_, rfl, hN'⟩
 ·rw [fm_ifI] at hp
  exact q _ _ _ sm hp
end
inductive Stp where
 | leaf
 | inn (v : Int)
 | tie (a b : Int)
 | out (v : Int)
 | join
deriving DecidableEq
def Stp.vs : Stp → List V
 | .leaf => [.str "leaf"]
 | .inn v => [.str "in", .int v]
 | .tie a b => [.str "tie", .int a, .int b]
 | .out v => [.str "out", .int v]
 | .join => [.str "join"]
def Stp.d : Stp → PyData
 | .leaf => .tuple [.str "leaf"]
 | .inn v => .tuple [.str "in", .int v]
 | .tie a b => .tuple [.str "tie", .int a, .int b]
 | .out v => .tuple [.str "out", .int v]
 | .join => .tuple [.str "join"]
def Stp.word : Stp → Str
 | .leaf => "leaf"
 | .inn _ => "in"
 | .tie _ _ => "tie"
 | .out _ => "out"
 | .join => "join"
def Stp.need : Stp → Nat
 | .leaf => 0
 | .join => 2
 | _ => 1
def StpV (K : PySem.W.Frag) (H : Hp) (v : V) (s : Stp) : Prop := ∃ p, v = .ref p ∧ SqT K H p s.vs
theorem StpV.same {K : PySem.W.Frag} {H H' : Hp} {v : V} {s : Stp} (e : Same H H') (h : StpV K H v s) : StpV K H' v s := by
 obtain ⟨p, rfl, h⟩ := h
 exact ⟨p, rfl, e.tupq h⟩
theorem StpV.isD {K : PySem.W.Frag} {H : Hp} {v : V} {s : Stp} (h : StpV K H v s) : IsD K H v s.d := by
 obtain ⟨p, rfl, h⟩ := h
 cases s with
 | leaf => exact .tup h (.cons (.str _) .nil)
 | inn v => exact .tup h (.cons (.str _) (.cons (.int _) .nil))
 | tie a b => exact .tup h (.cons (.str _) (.cons (.int _) (.cons (.int _) .nil)))
 | out v => exact .tup h (.cons (.str _) (.cons (.int _) .nil))
 | join => exact .tup h (.cons (.str _) .nil)
theorem used_leaf : valV usedF (.inr "leaf") = some (.int 0) := by decide +kernel
theorem used_in : valV usedF (.inr "in") = some (.int 1) := by decide +kernel
theorem used_tie : valV usedF (.inr "tie") = some (.int 1) := by decide +kernel
theorem used_out : valV usedF (.inr "out") = some (.int 1) := by decide +kernel
theorem used_join : valV usedF (.inr "join") = some (.int 2) := by decide +kernel
theorem used_at (s : Stp) : valV usedF (.inr s.word) = some (.int (s.need : Int)) := by
 cases s with
 | leaf => exact used_leaf
 | inn v => exact used_in
 | tie a b => exact used_tie
 | out v => exact used_out
 | join => exact used_join
theorem word_at (s : Stp) : atI s.vs ((0 : Nat) : Int) = some (.str s.word) := by cases s <;> rfl
theorem str_ok : ∀ x ∈ ["leaf", "in", "tie", "out", "join"], PyData.strOk (Str.ofString x) = true := by decide +kernel
theorem stp_can (s : Stp) : s.d.canLay0 = true := by
 have h := str_ok
 cases s with
 | leaf => simp [Stp.d, PyData.canLay0, PyData.canLayAll0, h]
 | inn v => simp [Stp.d, PyData.canLay0, PyData.canLayAll0, h]
 | tie a b => simp [Stp.d, PyData.canLay0, PyData.canLayAll0, h]
 | out v => simp [Stp.d, PyData.canLay0, PyData.canLayAll0, h]
 | join => simp [Stp.d, PyData.canLay0, PyData.canLayAll0, h]
theorem stp_depth (s : Stp) : s.d.depth ≤ 1 := by cases s <;> simp [Stp.d, PyData.depth, PyData.depthAll]
theorem shaped_stp (s : Stp) : SeqAt.shaped s.d = true := by
 unfold SeqAt.shaped
 rw [stp_can, Bool.true_and]
 exact decide_eq_true (by have := stp_depth s; omega)
theorem shaped_stps (ss : List Stp) : SeqAt.shaped (.list (ss.map Stp.d)) = true := by
 unfold SeqAt.shaped
 rw [PyData.canLay0, can_all stp_can, PyData.depth, Bool.true_and]
 exact decide_eq_true (by have := depth_all stp_depth ss; omega)
def Stp.tag : Stp → Nat
 | .leaf => 0
 | .inn _ => 1
 | .tie _ _ => 2
 | .out _ => 3
 | .join => 4
def Stp.args : Stp → List Int
 | .leaf => []
 | .inn v => [v]
 | .tie a b => [a, b]
 | .out v => [v]
 | .join => []
def wordT (i : Nat) : Str := Str.ofString (["leaf", "in", "tie", "out", "join"].getD i "")
theorem wordT_eq : ∀ i, i < 5 → ∀ j, j < 5 → (wordT i == wordT j) = decide (i = j) := by decide +kernel
theorem word_tag (s : Stp) : s.word = wordT s.tag := by cases s <;> rfl
theorem tag_lt (s : Stp) : s.tag < 5 := by cases s <;> simp [Stp.tag]
theorem stp_d (s : Stp) : s.d = .tuple (.str s.word :: s.args.map PyData.int) := by cases s <;> rfl
theorem stp_eq {s t : Stp} (h : s.tag = t.tag) (a : s.args = t.args) : s = t := by
 cases s <;> cases t <;> simp_all [Stp.tag, Stp.args]
theorem eqvAll_ints : ∀ xs ys : List Int, PyData.eqvAll (xs.map PyData.int) (ys.map PyData.int) = decide (xs = ys)
 | [], [] => by simp [PyData.eqvAll]
 | [], _ :: _ => by simp [PyData.eqvAll]
 | _ :: _, [] => by simp [PyData.eqvAll]
 | x :: xs, y :: ys => by
  rw [List.map_cons, List.map_cons, PyData.eqvAll, eqvAll_ints xs ys, PyData.eqv, Bool.eq_iff_iff]
  simp
theorem eqv_stp (s t : Stp) : PyData.eqv s.d t.d = decide (s = t) := by
 rw [stp_d, stp_d, PyData.eqv, PyData.eqvAll, eqvAll_ints, PyData.eqv, word_tag, word_tag, wordT_eq _ (tag_lt s) _ (tag_lt t), Bool.eq_iff_iff, Bool.and_eq_true, decide_eq_true_iff, decide_eq_true_iff, decide_eq_true_iff]
 exact ⟨fun h => stp_eq h.1 h.2, fun h => by rw [h]; exact ⟨rfl, rfl⟩⟩
theorem any_stp (ss : List Stp) (t : Stp) : (ss.map Stp.d).any (fun e => PyData.eqv e t.d) = decide (t ∈ ss) := by
 rw [List.any_map, Bool.eq_iff_iff, List.any_eq_true, decide_eq_true_iff]
 constructor
 ·rintro ⟨x, hx, e⟩
  have : PyData.eqv x.d t.d = true := e
  rw [eqv_stp] at this
  exact of_decide_eq_true this ▸ hx
 ·exact fun h => ⟨t, h, by show PyData.eqv t.d t.d = true; rw [eqv_stp]; exact decide_eq_true rfl⟩
end K
namespace K
open PySem L2 Lw Bg
abbrev natV (l : List Nat) : List V := l.map fun (x : Nat) => V.int (x : Int)
theorem nodup_le : ∀ {m : Nat} {l : List Nat}, l.Nodup → (∀ x ∈ l, x < m) → l.length ≤ m
 | 0, l, _, lt => by
  cases l with
  | nil => exact Nat.le_refl _
  | cons x r => exact absurd (lt x List.mem_cons_self) (Nat.not_lt_zero _)
 | m + 1, l, nd, lt => by
  have ih := nodup_le (m := m) (nd.erase m) fun x hx => by
   obtain ⟨h1, h2⟩ := nd.mem_erase_iff.mp hx
   have := lt x h2
   omega
  rw [List.length_erase] at ih
  split at ih <;> omega
theorem natV_at {l : List Nat} {j : Nat} (h : j < l.length) : atI (natV l) (j : Int) = some (.int ((l.getD j 0 : Nat) : Int)) := atI_nat (by
 unfold natV
 rw [List.getElem?_map, List.getElem?_eq_getElem h, List.getD_eq_getElem?_getD, List.getElem?_eq_getElem h]; rfl)
structure Tree (n : Nat) (rs : List Row) : Prop where
 pos : 0 < rs.length
 len : rs.length ≤ 40
 ok : ∀ k < rs.length, rowOk n rs k = true
 cov : ∀ v : Int, 0 ≤ v → v < (n : Int) → ∃ r ∈ rs, v ∈ r.2
 tops : ∀ v : Int, (topsF rs v).length ≤ 1
theorem fault_tree {n : Nat} {ts : List (Int × Int)} {rs : List Row} (T : Tree n rs) (ht : ∀ t ∈ ts, ∃ r ∈ rs, t.1 ∈ r.2 ∧ t.2 ∈ r.2) : faultF n ts rs = .ok := by
 have e1 : rowFaultF n rs = none := by
  unfold rowFaultF
  have hne : rs.isEmpty = false := by
   have := T.pos
   cases rs with
   | nil => exact absurd this (Nat.not_lt_zero _)
   | cons _ _ => rfl
  rw [hne]
  exact List.find?_eq_none.mpr fun j hj => by rw [T.ok j (List.mem_range.mp hj)]; simp
 have e2 : placeFaultF n rs = none := by
  unfold placeFaultF
  refine List.find?_eq_none.mpr fun j hj => ?_
  have hj' := List.mem_range.mp hj
  obtain ⟨r, hr, hv⟩ := T.cov (j : Int) (by omega) (by omega)
  have : (rs.any (has (j : Int))) = true := List.any_eq_true.mpr ⟨r, hr, decide_eq_true hv⟩
  rw [this]
  simp
 have e3 : tieFaultF ts rs = none := by
  unfold tieFaultF
  refine List.find?_eq_none.mpr fun t hm => ?_
  obtain ⟨r, hr, h1, h2⟩ := ht t hm
  have : (rs.any fun r => has t.1 r && has t.2 r) = true := List.any_eq_true.mpr ⟨r, hr, by unfold has; rw [decide_eq_true h1, decide_eq_true h2]; rfl⟩
  rw [this]
  simp
 have e4 : apartFaultF n rs = none := by
  unfold apartFaultF
  refine findSome_none fun v hv => ?_
  have := T.tops (v : Int)
  unfold apartAt
  match e : topsF rs (v : Int), this with
  | [], _ => rfl
  | [x], _ => rfl
 unfold faultF
 rw [e1, e2, e3, e4]
theorem rowAt_snoc_lt {rs : List Row} {r : Row} {k : Nat} (h : k < rs.length) : rowAt (rs ++ [r]) k = rowAt rs k := by
 unfold rowAt
 rw [List.getD_eq_getElem?_getD, List.getD_eq_getElem?_getD, List.getElem?_append_left h]
theorem rowAt_snoc_eq {rs : List Row} {r : Row} : rowAt (rs ++ [r]) rs.length = r := by
 unfold rowAt
 rw [List.getD_eq_getElem?_getD, List.getElem?_append_right (Nat.le_refl _)]
 simp
theorem rowAt_set {rs : List Row} {r : Row} {i j : Nat} (hi : i < rs.length) : rowAt (rs.set i r) j = if j = i then r else rowAt rs j := by
 unfold rowAt
 rw [List.getD_eq_getElem?_getD, List.getD_eq_getElem?_getD, List.getElem?_set]
 by_cases h : i = j
 ·subst h; rw [if_pos rfl, if_pos hi, if_pos rfl]; rfl
 ·rw [if_neg h, if_neg (Ne.symm h)]
theorem mem_rowAt {rs : List Row} {r : Row} (h : r ∈ rs) : ∃ k, k < rs.length ∧ rowAt rs k = r := by
 obtain ⟨k, hk, e⟩ := List.getElem_of_mem h
 exact ⟨k, hk, rowAt_get (by rw [List.getElem?_eq_getElem hk, e])⟩
def dueF (p : Int → Bool) (i : Nat) : List Int := ((List.range i).map fun j => ((j : Nat) : Int)).filter p
theorem due_len (p : Int → Bool) (i : Nat) : (dueF p i).length ≤ i := by
 unfold dueF
 refine Nat.le_trans (List.length_filter_le _ _) ?_
 simp
theorem due_up (p : Int → Bool) (i : Nat) : (dueF p i).Pairwise (· < ·) := by
 unfold dueF
 refine List.Pairwise.filter _ ?_
 rw [List.pairwise_map]
 exact List.pairwise_lt_range.imp fun h => by omega
theorem mem_due {p : Int → Bool} {i : Nat} {v : Int} : v ∈ dueF p i ↔ 0 ≤ v ∧ v < i ∧ p v = true := by
 unfold dueF
 rw [List.mem_filter, List.mem_map]
 constructor
 ·rintro ⟨⟨j, hj, rfl⟩, h⟩
  have := List.mem_range.mp hj
  exact ⟨by omega, by omega, h⟩
 ·rintro ⟨h0, h1, h⟩
  exact ⟨⟨v.toNat, List.mem_range.mpr (by omega), by omega⟩, h⟩
theorem few_up {n : Nat} {xs : List Int} (hn : n ≤ 10) (h : setF n xs = true) : xs.length ≤ 10 := by
 obtain ⟨h1, h2⟩ := (set_iff _ _).mp h
 have e : xs = dueF (fun v => decide (v ∈ xs)) n := up_eq h2 (due_up _ _) fun v => by
  rw [mem_due]
  constructor
  ·intro hv
   have := h1 v hv
   exact ⟨this.1, this.2, decide_eq_true hv⟩
  ·rintro ⟨_, _, hv⟩; exact of_decide_eq_true hv
 rw [e]
 exact Nat.le_trans (due_len _ _) hn
def UpsOk (rs : List Row) : Prop := ∀ j, j < rs.length → ∀ u, (rowAt rs j).1 = some u → 0 ≤ u ∧ u.toNat < j
theorem ups_ok {n : Int} {rs : List Row} (ok : ∀ k < rs.length, rowOk n rs k = true) : UpsOk rs := fun j hj u e => by
 have o := ok j hj
 unfold rowOk upOk at o
 rw [Bool.and_eq_true] at o
 by_cases z : j = 0
 ·rw [if_pos z, e] at o; cases o.1
 ·rw [if_neg z, e] at o
  have b := of_decide_eq_true o.1
  omega
theorem isTop_iff {rs : List Row} {v : Int} {j : Nat} : isTop rs v j = true ↔ v ∈ (rowAt rs j).2 ∧ heldF rs (rowAt rs j).1 v = false := by
 unfold isTop has
 rw [Bool.and_eq_true, decide_eq_true_iff]
 constructor
 ·rintro ⟨a, b⟩; exact ⟨a, by simpa using b⟩
 ·rintro ⟨a, b⟩; exact ⟨a, by rw [b]; rfl⟩
theorem one_top {rs : List Row} {v : Int} (h : (topsF rs v).length ≤ 1) {s t : Nat} (hs : s < rs.length) (ts : isTop rs v s = true) (ht : t < rs.length) (tt : isTop rs v t = true) : s = t := by
 have m1 : s ∈ topsF rs v := List.mem_filter.mpr ⟨List.mem_range.mpr hs, ts⟩
 have m2 : t ∈ topsF rs v := List.mem_filter.mpr ⟨List.mem_range.mpr ht, tt⟩
 match e : topsF rs v, h with
 | [], _ => rw [e] at m1; cases m1
 | [x], _ =>
  rw [e] at m1 m2
  rw [List.mem_singleton.mp m1, List.mem_singleton.mp m2]
theorem to_top {rs : List Row} {v : Int} (U : UpsOk rs) : ∀ j, j < rs.length → v ∈ (rowAt rs j).2 → ∃ t, t ≤ j ∧ isTop rs v t = true := by
 intro j
 induction j using Nat.strongRecOn with
 | ind j ih =>
  intro hj hv
  cases h : heldF rs (rowAt rs j).1 v with
  | false => exact ⟨j, Nat.le_refl _, isTop_iff.mpr ⟨hv, h⟩⟩
  | true =>
   cases e : (rowAt rs j).1 with
   | none => rw [e] at h; cases h
   | some w =>
    have b := U j hj w e
    have hw : v ∈ (rowAt rs w.toNat).2 := by
     rw [e] at h
     exact of_decide_eq_true h
    obtain ⟨t, ht, top⟩ := ih w.toNat b.2 (by omega) hw
    exact ⟨t, by omega, top⟩
theorem up_has {rs : List Row} {v : Int} (U : UpsOk rs) (h1 : (topsF rs v).length ≤ 1) {j k u : Nat} (hj : j < rs.length) (hk : k < j) (vj : v ∈ (rowAt rs j).2) (vk : v ∈ (rowAt rs k).2) (eu : (rowAt rs j).1 = some (u : Int)) : v ∈ (rowAt rs u).2 := by
 apply Classical.byContradiction
 intro c
 have hf : heldF rs (rowAt rs j).1 v = false := by
  rw [eu]
  unfold heldF
  dsimp only
  rw [Int.toNat_natCast]
  exact decide_eq_false c
 obtain ⟨t, ht, top⟩ := to_top U k (by omega) vk
 have := one_top h1 hj (isTop_iff.mpr ⟨vj, hf⟩) (by omega) top
 omega
theorem pigT {α : Type} [DecidableEq α] : ∀ {l U : List α}, l.Nodup → (∀ x ∈ l, x ∈ U) → l.length ≤ U.length
 | [], _, _, _ => Nat.zero_le _
 | x :: r, U, h, s => by
  have h' := List.nodup_cons.mp h
  have hx := s x List.mem_cons_self
  have := List.length_erase_of_mem hx
  have p := List.length_pos_of_mem hx
  have ih := pigT (l := r) (U := U.erase x) h'.2 fun y hy => (List.mem_erase_of_ne (fun (e : y = x) => h'.1 (e ▸ hy))).mpr (s y (List.mem_cons_of_mem _ hy))
  rw [List.length_cons]; omega
structure Tidy (rs : List Row) (i : Nat) (R : List Row) (sp : List Nat) : Prop where
 len : sp.length = i
 few : R.length ≤ i
 lt : ∀ j, j < i → sp.getD j 0 < R.length
 mem : ∀ r, r < R.length → ∀ v, v ∈ (rowAt R r).2 ↔ ∃ j, j < i ∧ sp.getD j 0 = r ∧ v ∈ (rowAt rs j).2
 own : ∀ r, r < R.length → ∃ j, j < i ∧ sp.getD j 0 = r ∧ (rowAt R r).2 = (rowAt rs j).2
 up0 : 0 < R.length → (rowAt R 0).1 = none
 ups : ∀ r, r < R.length → r ≠ 0 → ∃ q : Nat, (rowAt R r).1 = some (q : Int) ∧ q < r
 hang : ∀ j, j < i → ∀ u : Nat, (rowAt rs j).1 = some (u : Int) → sp.getD u 0 = sp.getD j 0 ∨ (rowAt R (sp.getD j 0)).1 = some ((sp.getD u 0 : Nat) : Int)
 cross : ∀ r, r < R.length → ∀ q : Nat, (rowAt R r).1 = some (q : Int) → (∃ x ∈ (rowAt R r).2, x ∉ (rowAt R q).2) ∧ ∃ y ∈ (rowAt R q).2, y ∉ (rowAt R r).2
theorem getD_snoc_lt {sp : List Nat} {x j : Nat} (h : j < sp.length) : (sp ++ [x]).getD j 0 = sp.getD j 0 := by
 rw [List.getD_eq_getElem?_getD, List.getD_eq_getElem?_getD, List.getElem?_append_left h]
theorem getD_snoc_eq {sp : List Nat} {x : Nat} : (sp ++ [x]).getD sp.length 0 = x := by
 rw [List.getD_eq_getElem?_getD, List.getElem?_append_right (Nat.le_refl _), Nat.sub_self]; rfl
theorem tidy_nil (rs : List Row) : Tidy rs 0 [] [] :=
 ⟨rfl, Nat.le_refl _, fun j h => absurd h (Nat.not_lt_zero _), fun r h => absurd h (Nat.not_lt_zero _), fun r h => absurd h (Nat.not_lt_zero _), fun h => absurd h (Nat.not_lt_zero _), fun r h => absurd h (Nat.not_lt_zero _), fun j h => absurd h (Nat.not_lt_zero _), fun r h => absurd h (Nat.not_lt_zero _)⟩
theorem tidy_new {rs : List Row} {i : Nat} {R : List Row} {sp : List Nat} {u : Option Int} (D : Tidy rs i R sp) (U : UpsOk rs) (hi : i < rs.length)
  (hu : match u with | none => R.length = 0 ∧ (rowAt rs i).1 = none | some s => ∃ w : Nat, w < i ∧ (rowAt rs i).1 = some (w : Int) ∧ s = ((sp.getD w 0 : Nat) : Int) ∧ (∃ x ∈ (rowAt rs i).2, x ∉ (rowAt R (sp.getD w 0)).2) ∧ ∃ y ∈ (rowAt R (sp.getD w 0)).2, y ∉ (rowAt rs i).2) :
  Tidy rs (i + 1) (R ++ [(u, (rowAt rs i).2)]) (sp ++ [R.length]) := by
 have l := D.len
 have old : ∀ j, j < i → (sp ++ [R.length]).getD j 0 = sp.getD j 0 := fun j hj => getD_snoc_lt (by omega)
 have new : (sp ++ [R.length]).getD i 0 = R.length := by rw [← l]; exact getD_snoc_eq
 have L : (R ++ [(u, (rowAt rs i).2)]).length = R.length + 1 := by rw [List.length_append]; rfl
 refine ⟨by rw [List.length_append, l]; rfl, by rw [L]; have := D.few; omega, fun j hj => ?_, fun r hr v => ?_, fun r hr => ?_, fun _ => ?_, fun r hr r0 => ?_, fun j hj w ew => ?_, fun r hr q eq => ?_⟩
 ·rw [L]
  by_cases c : j = i
  ·subst c; rw [new]; omega
  ·rw [old j (by omega)]; have := D.lt j (by omega); omega
 ·rw [L] at hr
  by_cases c : r = R.length
  ·subst c
   rw [rowAt_snoc_eq]
   constructor
   ·intro h; exact ⟨i, by omega, new, h⟩
   ·rintro ⟨j, hj, e, h⟩
    by_cases d : j = i
    ·subst d; exact h
    ·rw [old j (by omega)] at e
     have := D.lt j (by omega)
     omega
  ·rw [rowAt_snoc_lt (by omega), D.mem r (by omega)]
   constructor
   ·rintro ⟨j, hj, e, h⟩; exact ⟨j, by omega, by rw [old j hj]; exact e, h⟩
   ·rintro ⟨j, hj, e, h⟩
    by_cases d : j = i
    ·subst d; rw [new] at e; omega
    ·exact ⟨j, by omega, by rw [← old j (by omega)]; exact e, h⟩
 ·rw [L] at hr
  by_cases c : r = R.length
  ·subst c
   exact ⟨i, by omega, new, by rw [rowAt_snoc_eq]⟩
  ·obtain ⟨j, hj, e, h⟩ := D.own r (by omega)
   exact ⟨j, by omega, by rw [old j hj]; exact e, by rw [rowAt_snoc_lt (by omega)]; exact h⟩
 ·by_cases c : R.length = 0
  ·have e : R = [] := List.eq_nil_of_length_eq_zero c
   subst e
   cases u with
   | none => rfl
   | some s =>
    obtain ⟨w, hw, _⟩ := hu
    have := D.lt w hw
    exact absurd this (Nat.not_lt_zero _)
  ·rw [rowAt_snoc_lt (by omega)]; exact D.up0 (by omega)
 ·rw [L] at hr
  by_cases c : r = R.length
  ·subst c
   rw [rowAt_snoc_eq]
   cases u with
   | none => exact absurd hu.1 r0
   | some s =>
    obtain ⟨w, hw, _, rfl, _⟩ := hu
    exact ⟨_, rfl, D.lt w hw⟩
  ·rw [rowAt_snoc_lt (by omega)]; exact D.ups r (by omega) r0
 ·by_cases d : j = i
  ·subst d
   right
   rw [new, rowAt_snoc_eq]
   cases u with
   | none => rw [hu.2] at ew; cases ew
   | some s =>
    obtain ⟨w', hw, e1, e2, _⟩ := hu
    rw [e1] at ew
    have : w' = w := by injection ew with ew; omega
    subst this
    rw [old w' hw, e2]
  ·have b := U j (by omega) _ ew
   have hw : w < j := by omega
   rw [old j (by omega), old w (by omega)]
   rcases D.hang j (by omega) w ew with h | h
   ·exact .inl h
   ·exact .inr (by rw [rowAt_snoc_lt (D.lt j (by omega))]; exact h)
 ·rw [L] at hr
  by_cases c : r = R.length
  ·subst c
   rw [rowAt_snoc_eq] at eq ⊢
   cases u with
   | none => cases eq
   | some s =>
    obtain ⟨w, hw, _, e2, hx, hy⟩ := hu
    have eq' : s = (q : Int) := by injection eq
    have : q = sp.getD w 0 := by omega
    subst this
    rw [rowAt_snoc_lt (D.lt w hw)]
    exact ⟨hx, hy⟩
  ·rw [rowAt_snoc_lt (by omega)] at eq ⊢
   have ql : q < R.length := by
    by_cases r0 : r = 0
    ·subst r0; rw [D.up0 (by omega)] at eq; cases eq
    ·obtain ⟨q', e, h⟩ := D.ups r (by omega) r0
     rw [e] at eq
     injection eq with eq
     omega
   rw [rowAt_snoc_lt ql]
   exact D.cross r (by omega) q eq
theorem tidy_lay {n : Nat} {rs : List Row} {i w : Nat} {R R' : List Row} {sp : List Nat} (T : Tree n rs) (D : Tidy rs i R sp) (hi : i < rs.length) (hw : w < i) (ew : (rowAt rs i).1 = some (w : Int))
  (hR : (R' = R ∧ ∀ v ∈ (rowAt rs i).2, v ∈ (rowAt R (sp.getD w 0)).2) ∨ (R' = R.set (sp.getD w 0) ((rowAt R (sp.getD w 0)).1, (rowAt rs i).2) ∧ ∀ v ∈ (rowAt R (sp.getD w 0)).2, v ∈ (rowAt rs i).2)) :
  Tidy rs (i + 1) R' (sp ++ [sp.getD w 0]) := by
 have U := ups_ok T.ok
 have l := D.len
 have hs := D.lt w hw
 have old : ∀ j, j < i → (sp ++ [sp.getD w 0]).getD j 0 = sp.getD j 0 := fun j hj => getD_snoc_lt (by omega)
 have new : (sp ++ [sp.getD w 0]).getD i 0 = sp.getD w 0 := by rw [← l]; exact getD_snoc_eq
 have L : R'.length = R.length := by rcases hR with ⟨rfl, _⟩ | ⟨rfl, _⟩ <;> simp
 have one : ∀ r, (rowAt R' r).1 = (rowAt R r).1 := fun r => by
  rcases hR with ⟨rfl, _⟩ | ⟨rfl, _⟩
  ·rfl
  ·rw [rowAt_set hs]; split
   ·rename_i c; rw [c]
   ·rfl
 have away : ∀ r, r ≠ sp.getD w 0 → (rowAt R' r).2 = (rowAt R r).2 := fun r c => by
  rcases hR with ⟨rfl, _⟩ | ⟨rfl, _⟩
  ·rfl
  ·rw [rowAt_set hs, if_neg c]
 have here : ∀ v, v ∈ (rowAt R' (sp.getD w 0)).2 ↔ v ∈ (rowAt R (sp.getD w 0)).2 ∨ v ∈ (rowAt rs i).2 := fun v => by
  rcases hR with ⟨rfl, h⟩ | ⟨rfl, h⟩
  ·exact ⟨.inl, fun z => z.elim id (h v)⟩
  ·rw [rowAt_set hs, if_pos rfl]
   exact ⟨.inr, fun z => z.elim (h v) id⟩
 have near : ∀ r, r < R.length → r ≠ sp.getD w 0 → ∀ y ∈ (rowAt R r).2, y ∉ (rowAt R (sp.getD w 0)).2 → y ∉ (rowAt R' (sp.getD w 0)).2 := fun r hr c y hy ny z => by
  rcases (here y).mp z with z | z
  ·exact ny z
  ·obtain ⟨j, hj, _, hyj⟩ := (D.mem r hr y).mp hy
   have := up_has U (T.tops y) hi hj z hyj ew
   exact ny ((D.mem _ hs y).mpr ⟨w, hw, rfl, this⟩)
 refine ⟨by rw [List.length_append, l]; rfl, by rw [L]; have := D.few; omega, fun j hj => ?_, fun r hr v => ?_, fun r hr => ?_, fun h => ?_, fun r hr r0 => ?_, fun j hj u eu => ?_, fun r hr q eq => ?_⟩
 ·rw [L]
  by_cases c : j = i
  ·subst c; rw [new]; exact hs
  ·rw [old j (by omega)]; exact D.lt j (by omega)
 ·rw [L] at hr
  have st : (∃ j, j < i + 1 ∧ (sp ++ [sp.getD w 0]).getD j 0 = r ∧ v ∈ (rowAt rs j).2) ↔ (∃ j, j < i ∧ sp.getD j 0 = r ∧ v ∈ (rowAt rs j).2) ∨ (r = sp.getD w 0 ∧ v ∈ (rowAt rs i).2) := by
   constructor
   ·rintro ⟨j, hj, e, h⟩
    by_cases d : j = i
    ·subst d; rw [new] at e; exact .inr ⟨e.symm, h⟩
    ·exact .inl ⟨j, by omega, by rw [← old j (by omega)]; exact e, h⟩
   ·rintro (⟨j, hj, e, h⟩ | ⟨e, h⟩)
    ·exact ⟨j, by omega, by rw [old j hj]; exact e, h⟩
    ·exact ⟨i, by omega, by rw [new, e], h⟩
  rw [st, ← D.mem r hr]
  by_cases c : r = sp.getD w 0
  ·subst c
   rw [here]
   constructor
   ·rintro (h | h)
    ·exact .inl h
    ·exact .inr ⟨rfl, h⟩
   ·rintro (h | ⟨_, h⟩)
    ·exact .inl h
    ·exact .inr h
  ·rw [away r c]
   exact ⟨.inl, fun z => z.elim id fun z => absurd z.1 c⟩
 ·rw [L] at hr
  obtain ⟨j, hj, e, h⟩ := D.own r hr
  by_cases c : r = sp.getD w 0
  ·rcases hR with ⟨rfl, _⟩ | ⟨rfl, _⟩
   ·exact ⟨j, by omega, by rw [old j hj]; exact e, h⟩
   ·refine ⟨i, by omega, by rw [new, c], ?_⟩
    rw [c, rowAt_set hs, if_pos rfl]
  ·exact ⟨j, by omega, by rw [old j hj]; exact e, by rw [away r c]; exact h⟩
 ·rw [one]; exact D.up0 (by omega)
 ·rw [one]; exact D.ups r (by omega) r0
 ·by_cases d : j = i
  ·subst d
   rw [ew] at eu
   have : w = u := by injection eu with eu; omega
   subst this
   left
   rw [new, old w hw]
  ·have b := U j (by omega) _ eu
   have hu : u < j := by omega
   rw [old j (by omega), old u (by omega), one]
   exact D.hang j (by omega) u eu
 ·rw [L] at hr
  rw [one] at eq
  have ql : q < r := by
   by_cases r0 : r = 0
   ·subst r0; rw [D.up0 (by omega)] at eq; cases eq
   ·obtain ⟨q', e, h⟩ := D.ups r (by omega) r0
    rw [e] at eq
    injection eq with eq
    omega
  obtain ⟨⟨x, hx, nx⟩, y, hy, ny⟩ := D.cross r hr q eq
  by_cases c : r = sp.getD w 0
  ·have cq : q ≠ sp.getD w 0 := by omega
   rw [away q cq]
   subst c
   exact ⟨⟨x, (here x).mpr (.inl hx), nx⟩, y, hy, near q (by omega) cq y hy ny⟩
  ·rw [away r c]
   by_cases d : q = sp.getD w 0
   ·subst d
    exact ⟨⟨x, hx, near r hr c x hx nx⟩, y, (here y).mpr (.inl hy), ny⟩
   ·rw [away q d]
    exact ⟨⟨x, hx, nx⟩, y, hy, ny⟩
theorem tidy_tops {n : Nat} {rs : List Row} {R : List Row} {sp : List Nat} (T : Tree n rs) (D : Tidy rs rs.length R sp) (v : Int) {r : Nat} (hr : r < R.length) (ht : isTop R v r = true) : ∃ j, j < rs.length ∧ sp.getD j 0 = r ∧ isTop rs v j = true := by
 obtain ⟨h1, h2⟩ := isTop_iff.mp ht
 obtain ⟨j0, hj0, e0, hv0⟩ := (D.mem r hr v).mp h1
 have U := ups_ok T.ok
 have go : ∀ j, j < rs.length → sp.getD j 0 = r → v ∈ (rowAt rs j).2 → ∃ j, j < rs.length ∧ sp.getD j 0 = r ∧ isTop rs v j = true := by
  intro j
  induction j using Nat.strongRecOn with
  | ind j ih =>
   intro hj ej hv
   cases h : heldF rs (rowAt rs j).1 v with
   | false => exact ⟨j, hj, ej, isTop_iff.mpr ⟨hv, h⟩⟩
   | true =>
    cases e : (rowAt rs j).1 with
    | none => rw [e] at h; cases h
    | some w =>
     have b := U j hj w e
     have hw : v ∈ (rowAt rs w.toNat).2 := by
      rw [e] at h
      exact of_decide_eq_true h
     have e' : (rowAt rs j).1 = some ((w.toNat : Nat) : Int) := by rw [e]; congr 1; omega
     rcases D.hang j hj w.toNat e' with z | z
     ·exact ih w.toNat b.2 (by omega) (z.trans ej) hw
     ·exfalso
      rw [ej] at z
      rw [z] at h2
      have m := (D.mem _ (D.lt w.toNat (by omega)) v).mpr ⟨w.toNat, by omega, rfl, hw⟩
      have : heldF R (some ((sp.getD w.toNat 0 : Nat) : Int)) v = true := by
       show has v (rowAt R (((sp.getD w.toNat 0 : Nat) : Int)).toNat) = true
       rw [Int.toNat_natCast]
       exact decide_eq_true m
      rw [this] at h2
      cases h2
 exact go j0 hj0 e0 hv0
theorem tidy_tree {n : Nat} {rs : List Row} {R : List Row} {sp : List Nat} (T : Tree n rs) (D : Tidy rs rs.length R sp) : Tree n R := by
 have pos := D.lt 0 T.pos
 refine ⟨by omega, by have := D.few; have := T.len; omega, fun k hk => ?_, fun v h0 h1 => ?_, fun v => ?_⟩
 ·unfold rowOk
  rw [Bool.and_eq_true]
  constructor
  ·unfold upOk
   by_cases c : k = 0
   ·subst c; rw [if_pos rfl, D.up0 hk]; rfl
   ·obtain ⟨q, e, h⟩ := D.ups k hk c
    rw [if_neg c, e]
    exact decide_eq_true ⟨by omega, by omega⟩
  ·obtain ⟨j, hj, _, e⟩ := D.own k hk
   rw [e]
   have o := T.ok j hj
   unfold rowOk at o
   rw [Bool.and_eq_true] at o
   exact o.2
 ·obtain ⟨r, hr, h⟩ := T.cov v h0 h1
  obtain ⟨k, hk, e⟩ := mem_rowAt hr
  have hs := D.lt k hk
  exact ⟨_, List.mem_of_getElem? (rowAt_lt hs), (D.mem _ hs v).mpr ⟨k, hk, rfl, by rw [e]; exact h⟩⟩
 ·have nd : (topsF R v).Nodup := List.nodup_range.sublist List.filter_sublist
  have same : ∀ a ∈ topsF R v, ∀ b ∈ topsF R v, a = b := fun a ha b hb => by
   obtain ⟨a1, a2⟩ := List.mem_filter.mp ha
   obtain ⟨b1, b2⟩ := List.mem_filter.mp hb
   obtain ⟨j, hj, ej, tj⟩ := tidy_tops T D v (List.mem_range.mp a1) a2
   obtain ⟨k, hk, ek, tk⟩ := tidy_tops T D v (List.mem_range.mp b1) b2
   have := one_top (T.tops v) hj tj hk tk
   rw [← ej, ← ek, this]
  match e : topsF R v, nd, same with
  | [], _, _ => exact Nat.zero_le _
  | [_], _, _ => exact Nat.le_refl _
  | a :: b :: r, nd, same =>
   have := same a (by simp) b (by simp)
   rw [this] at nd
   exact absurd List.mem_cons_self (List.nodup_cons.mp nd).1
theorem tidy_few {n : Nat} {rs : List Row} {R : List Row} {sp : List Nat} (T : Tree n rs) (D : Tidy rs rs.length R sp) : R.length ≤ max 1 n := by
 have TR := tidy_tree T D
 by_cases c : R.length ≤ 1
 ·omega
 have pick : ∀ r, r < R.length → ∃ x : Int, isTop R x r = true := fun r hr => by
  by_cases r0 : r = 0
  ·subst r0
   obtain ⟨q, e, h⟩ := D.ups 1 (by omega) (by omega)
   have q0 : q = 0 := by omega
   subst q0
   obtain ⟨_, y, hy, _⟩ := D.cross 1 (by omega) 0 e
   exact ⟨y, isTop_iff.mpr ⟨hy, by rw [D.up0 (by omega)]; rfl⟩⟩
  ·obtain ⟨q, e, h⟩ := D.ups r hr r0
   obtain ⟨⟨x, hx, nx⟩, _⟩ := D.cross r hr q e
   refine ⟨x, isTop_iff.mpr ⟨hx, ?_⟩⟩
   rw [e]
   show has x (rowAt R ((q : Int)).toNat) = false
   rw [Int.toNat_natCast]
   exact decide_eq_false nx
 let f : Nat → Int := fun r => if h : r < R.length then Classical.choose (pick r h) else 0
 have ft : ∀ r, r < R.length → isTop R (f r) r = true := fun r h => by
  show isTop R (dite _ _ _) r = true
  rw [dif_pos h]
  exact Classical.choose_spec (pick r h)
 have nd : ((List.range R.length).map f).Nodup := by
  rw [List.nodup_iff_pairwise_ne, List.pairwise_map]
  refine List.pairwise_iff_getElem.mpr fun i j hi hj ij e => ?_
  rw [List.length_range] at hi hj
  rw [List.getElem_range, List.getElem_range] at e
  have a := ft i hi
  have b := ft j hj
  rw [e] at a
  have := one_top (TR.tops _) hi a hj b
  omega
 have := pigT nd (U := (List.range n).map fun (x : Nat) => (x : Int)) fun x hx => by
  obtain ⟨r, hr, rfl⟩ := List.mem_map.mp hx
  have hr' := List.mem_range.mp hr
  have m := (isTop_iff.mp (ft r hr')).1
  have o := TR.ok r hr'
  unfold rowOk at o
  rw [Bool.and_eq_true] at o
  have b := ((set_iff _ _).mp o.2).1 _ m
  exact List.mem_map.mpr ⟨(f r).toNat, List.mem_range.mpr (by omega), by show ((Int.toNat (f r) : Nat) : Int) = f r; omega⟩
 rw [List.length_map, List.length_map, List.length_range, List.length_range] at this
 omega
abbrev s_tidied : Stmt := top 20
theorem sc_tidied : FnScope ["tree", "rows", "spots", "up", "places", "spot"] ["tree"] (defScope s_tidied) := ⟨rfl, rfl, rfl, by decide +kernel, rfl, by decide +kernel, by decide +kernel⟩
abbrev s_are_crossed : Stmt := top 21
theorem sc_are_crossed : FnScope ["one", "other"] ["one", "other"] (defScope s_are_crossed) := ⟨rfl, rfl, rfl, by decide +kernel, rfl, by decide +kernel, by decide +kernel⟩
def spCrossed (K : PySem.W.Frag) : Sp := fun vs H Q _ => ∃ (a b : Addr) (xs ys : List Int), vs = [.ref a, .ref b] ∧ SqL K H a (xs.map V.int) ∧ SqL K H b (ys.map V.int) ∧ xs.length ≤ 1000 ∧ ys.length ≤ 1000 ∧ ∀ H', Same H H' → Q (.bl (!(lessF xs ys).isEmpty && !(lessF ys xs).isEmpty)) H'
def RowF (H : Hp) (L : List Addr) (H' : Hp) (v : V) (r : Row) : Prop := ∃ p b, v = .ref p ∧ H' p = some (.tup [upV r.1, .ref b]) ∧ H' b = some (.lst (r.2.map V.int)) ∧ b ∉ L ∧ H b = none ∧ r.2.length ≤ 16
theorem RowF.same {H : Hp} {L : List Addr} {H1 H2 : Hp} {v : V} {r : Row} (s : Same H1 H2) (h : RowF H L H1 v r) : RowF H L H2 v r := by
 obtain ⟨p, b, e, q1, q2, n, f, z⟩ := h
 exact ⟨p, b, e, s _ _ q1, s _ _ q2, n, f, z⟩
theorem RowF.chg {H H1 H2 : Hp} {L : List Addr} {l : Addr} {xs ys : List V} {v : V} {r : Row} (hL : l ∈ L) (hl : H1 l = some (.lst xs)) (c : Chg H1 l (.lst ys) H2) (h : RowF H L H1 v r) : RowF H L H2 v r := by
 obtain ⟨p, b, e, q1, q2, n, f, z⟩ := h
 exact ⟨p, b, e, (c.rest p (ne_of q1 hl (by intro z; cases z))).trans q1, (c.rest b (fun z => n (z ▸ hL))).trans q2, n, f, z⟩
theorem RowF.sub {H : Hp} {L L' : List Addr} {H1 : Hp} {v : V} {r : Row} (s : ∀ x ∈ L', x ∈ L) (h : RowF H L H1 v r) : RowF H L' H1 v r := by
 obtain ⟨p, b, e, q1, q2, n, f, z⟩ := h
 exact ⟨p, b, e, q1, q2, fun z => n (s _ z), f, z⟩
theorem paired_setF {α β : Type} {R : α → β → Prop} {x : α} {y : β} : ∀ {xs : List α} {ys : List β} {i : Nat}, Paired R xs ys → R x y → Paired R (xs.set i x) (ys.set i y)
 | [], [], _, .nil, _ => .nil
 | _ :: _, _ :: _, 0, .cons _ r, h => .cons h r
 | _ :: _, _ :: _, _ + 1, .cons q r, h => .cons q (paired_setF r h)
theorem less_some {xs ys : List Int} (h : (!(lessF xs ys).isEmpty) = true) : ∃ x ∈ xs, x ∉ ys := by
 cases e : lessF xs ys with
 | nil => rw [e] at h; cases h
 | cons x r =>
  have : x ∈ xs.filter (fun v => !decide (v ∈ ys)) := by
   show x ∈ lessF xs ys
   rw [e]; exact List.mem_cons_self
  rw [List.mem_filter] at this
  exact ⟨x, this.1, by simpa using this.2⟩
theorem less_none {xs ys : List Int} (h : (!(lessF xs ys).isEmpty) = false) : ∀ x ∈ xs, x ∈ ys := fun x hx => by
 apply Classical.byContradiction
 intro c
 have m : x ∈ xs.filter (fun v => !decide (v ∈ ys)) := List.mem_filter.mpr ⟨hx, by simpa using c⟩
 have m' : x ∈ lessF xs ys := m
 cases e : lessF xs ys with
 | nil => rw [e] at m'; exact absurd m' List.not_mem_nil
 | cons y r => rw [e] at h; cases h
def spTidied (K : PySem.W.Frag) : Sp := fun vs H Q _ => ∃ (a : Addr) (rs : List Row) (n : Nat), vs = [.ref a] ∧ RowsAt K H a rs ∧ Tree n rs ∧ n ≤ 10 ∧
 ∀ p xs R sp H', Same H H' → H p = none → H' p = some (.lst xs) → Paired (RowF H [p] H') xs R → Tidy rs rs.length R sp → Q (.ref p) H'
section
variable {P : Program} {w : World} {K : PySem.W.Frag} {mg : Str → Option Value} {base : Heap}
set_option maxHeartbeats 4000000 in
theorem ok_are_crossed (B : Bl mg) (d_less : Dn K mg "less" s_less ["one", "other"]) (d_are_crossed : Dn K mg "are_crossed" s_are_crossed ["one", "other"]) : FnOk P w K mg base CX0 2 d_are_crossed.f d_are_crossed.fd ["one", "other"] (spCrossed K) := by
 have G_less : FnOk P w K mg base CX0 1 _ _ _ _ := ok_less B d_less
 refine d_are_crossed.F.ok sc_are_crossed (fun vs H Q E h => ?_) (fun cdv A outer s H vs Q E hr h => ?_)
 ·obtain ⟨a, b, xs, ys, rfl, _⟩ := h
  rfl
 obtain ⟨a, b, xs, ys, rfl, hA, hB, zx, zy, q⟩ := h
 refine ⟨_, (pss_one (ps_ret (pe_callTy (call_boolL (K := K) rfl) rfl B.bool (by decide +kernel) (pa_cons (pe_andL (K := K) rfl (pe_call G_less hr rfl d_less.m d_less.F.kp d_less.b .nil pass0 (pa_cons (pv 0) (pa_cons (pv 1) pa_nil))) (pe_one (pe_call G_less hr rfl d_less.m d_less.F.kp d_less.b .nil pass0 (pa_cons (pv 1) (pa_cons (pv 0) pa_nil))))) pa_nil)))), ?_⟩
 refine ⟨_, rfl, _, rfl, a, b, xs, ys, rfl, hA, hB, zx, fun H1 p1 H2 s1 n1 => ?_⟩
 refine ⟨_, .inl ⟨_, SqL.of n1.here, rfl⟩, ?_⟩
 have s12 := s1.trans n1.same
 have ei : ∀ l : List Int, (l.map V.int).isEmpty = l.isEmpty := fun l => by cases l <;> rfl
 rw [ei]
 cases c : (!(lessF xs ys).isEmpty) with
 | true =>
  refine iteT ⟨_, rfl, _, rfl, b, a, ys, xs, rfl, s12.seq hB, s12.seq hA, zy, fun H3 p2 H4 s3 n2 => ?_⟩
  refine ⟨p2, _, rfl, SqL.of n2.here, ?_⟩
  have := q H4 (s12.trans (s3.trans n2.same))
  rw [c, Bool.true_and] at this
  rw [ei]
  exact this
 | false =>
  refine iteF ⟨p1, _, rfl, SqL.of n1.here, ?_⟩
  have := q H2 s12
  rw [c, Bool.false_and] at this
  rw [ei, c]
  exact this
set_option maxHeartbeats 8000000 in
theorem ok_tidied (B : Bl mg) (d_less : Dn K mg "less" s_less ["one", "other"]) (d_are_crossed : Dn K mg "are_crossed" s_are_crossed ["one", "other"]) (d_tidied : Dn K mg "tidied" s_tidied ["tree"]) : FnOk P w K mg base CX0 3 d_tidied.f d_tidied.fd ["tree"] (spTidied K) := by
 have G_are_crossed : FnOk P w K mg base CX0 2 _ _ _ _ := ok_are_crossed B d_less d_are_crossed
 refine d_tidied.F.ok sc_tidied (fun vs H Q E h => ?_) (fun cdv A outer s H vs Q E hr h => ?_)
 ·obtain ⟨a, rs, n, rfl, _⟩ := h
  rfl
 obtain ⟨a, rs, n, rfl, hR, T, n10, q⟩ := h
 obtain ⟨ys, hy, hpr, hz⟩ := id hR
 have ly : ys.length = rs.length := Paired.length hpr
 have U := ups_ok T.ok
 have r20 := T.len
 refine ⟨_, (pss_cons (ps_set (i := 1) sc_tidied.nd rfl (Or.inl rfl) (pe_lstN pa_nil))
   (pss_cons (ps_set (i := 2) sc_tidied.nd rfl (Or.inl rfl) (pe_lstN pa_nil))
   (pss_cons (ps_for PassesOwn.never rfl (pi_listK (K := K) rfl (pv 0)) (pg_tupK (K := K) (n := 2) rfl rfl (pgs_cons (pg_name (i := 3) sc_tidied.nd rfl (Or.inl rfl)) (pgs_cons (pg_name (i := 4) sc_tidied.nd rfl (Or.inl rfl)) pgs_nil)))
   (pss_cons (ps_set (i := 5) sc_tidied.nd rfl (Or.inl rfl) (pe_ifExp (pt_cmpR op_isN (pv 3) pe_non (nomark _)) pe_non (pe_ix (ix_listK (K := K) rfl) (pv 2) (pv 3) (fun _ _ => rfl))))
   (pss_one (ps_if (PW.pt (pw_or (pt_cmpR op_isN (pv 5) pe_non (nomark _)) (pw_or1 (pt_truthK (K := K) rfl (pe_call G_are_crossed hr rfl d_are_crossed.m d_are_crossed.F.kp d_are_crossed.b .nil pass0 (pa_cons (pv 4) (pa_cons (pe_ix (ix_tupK (K := K) rfl) (pe_ix (ix_listK (K := K) rfl) (pv 1) (pv 5) (fun _ _ => rfl)) pe_int (fun _ _ => rfl)) pa_nil))) (fun _ => rfl)))))
   (pss_cons (ps_expr (pe_bmK (K := K) rfl PySem.F.plainAttrs_list PySem.F.slot_list_append PySem.F.type_list_append mt_appendN (pv 2) (pa_cons (pe_callB (call_lenK (K := K) rfl) rfl B.len (by decide +kernel) (pa_cons (pv 1) pa_nil)) pa_nil)))
   (pss_one (ps_expr (pe_bmK (K := K) rfl PySem.F.plainAttrs_list PySem.F.slot_list_append PySem.F.type_list_append mt_appendN (pv 1) (pa_cons (pe_tupN (pa_cons (pv 5) (pa_cons (pe_callTy (call_listN (K := K) rfl) rfl B.list (by decide +kernel) (pa_cons (pv 4) pa_nil)) pa_nil))) pa_nil)))))
   (pss_cut (ps_if (pt_cmpR op_gt (pe_callB (call_lenK (K := K) rfl) rfl B.len (by decide +kernel) (pa_cons (pv 4) pa_nil)) (pe_callB (call_lenK (K := K) rfl) rfl B.len (by decide +kernel) (pa_cons (pe_ix (ix_tupK (K := K) rfl) (pe_ix (ix_listK (K := K) rfl) (pv 1) (pv 5) (fun _ _ => rfl)) pe_int (fun _ _ => rfl)) pa_nil)) (nomark _))
   (pss_one (ps_asg (pe_tupN (pa_cons (pe_ix (ix_tupK (K := K) rfl) (pe_ix (ix_listK (K := K) rfl) (pv 1) (pv 5) (fun _ _ => rfl)) pe_int (fun _ _ => rfl)) (pa_cons (pe_callTy (call_listN (K := K) rfl) rfl B.list (by decide +kernel) (pa_cons (pv 4) pa_nil)) pa_nil))) (pg_sub (pv 1) (pv 5) set_listN)))
   pss_nil)
   (pss_one (ps_expr (pe_bmK (K := K) rfl PySem.F.plainAttrs_list PySem.F.slot_list_append PySem.F.type_list_append mt_appendN (pv 2) (pa_cons (pv 5) pa_nil)))))))))
   (pss_one (ps_ret (pv 1)))))), ?_⟩
 refine ⟨(by show 0 ≤ 1000; decide), fun pr H1 n1 => ?_⟩
 refine ⟨(by show 0 ≤ 1000; decide), fun ps H2 n2 => ?_⟩
 have s02 : Same H H2 := n1.same.trans n2.same
 have frr : H pr = none := n1.fresh
 have frs : H ps = none := n1.same.free n2.fresh
 have ne : pr ≠ ps := n2.ne n1.here
 refine ⟨_, rfl, a, rfl, ⟨_, s02.seq hy⟩, ?_⟩
 refine for_list (xs := ys) (fun i σ H' => ∃ (R : List Row) (sp : List Nat) (xs : List V) (uu pp ss : Option V), σ = [some (.ref a), some (.ref pr), some (.ref ps), uu, pp, ss] ∧ Same H H' ∧ H' pr = some (.lst xs) ∧ Paired (RowF H [pr, ps] H') xs R ∧ H' ps = some (.lst (natV sp)) ∧ Tidy rs i R sp) ⟨[], [], [], none, none, none, rfl, s02, n2.same _ _ n1.here, .nil, n2.here, tidy_nil rs⟩ (fun i σ H' _ ⟨_, _, _, _, _, _, _, s, _⟩ => s.seq hy) ?_ ?_
 ·rintro i x σ H3 hx ⟨R, sp, xs, uu, pp, ss, rfl, s3, h3, p3, hs3, D⟩
  obtain ⟨row, hrow, ⟨pt, b, rfl, hT, hb, _⟩⟩ := paired_get hpr hx
  obtain ⟨hil, hix⟩ := List.getElem?_eq_some_iff.mp hrow
  have er : rowAt rs i = row := by unfold rowAt; rw [List.getD_eq_getElem?_getD, hrow]; rfl
  have okr := T.ok i hil
  unfold rowOk at okr
  rw [Bool.and_eq_true, er] at okr
  have fewr := few_up n10 okr.2
  have lsp := D.len
  have lR := D.few
  have lxs : xs.length = R.length := Paired.length p3
  have hb3 : SqL K H3 b (row.2.map V.int) := s3.seq hb
  have memP : pr ∈ [pr, ps] := List.mem_cons_self
  have memS : ps ∈ [pr, ps] := List.mem_cons_of_mem _ List.mem_cons_self
  have fin : ∀ (u : Option Int) (sv : Option V) (H4 : Hp) (s34 : Same H3 H4), Tidy rs (i + 1) (R ++ [(u, row.2)]) (sp ++ [R.length]) → ∀ H5, Chg H4 ps (.lst (natV sp ++ [.int ((xs.length : Nat) : Int)])) H5 → ∀ p6 H6, New H5 p6 (.lst (row.2.map V.int)) H6 → ∀ p7 H7, New H6 p7 (.tup [upV u, .ref p6]) H7 → ∀ H8, Chg H7 pr (.lst (xs ++ [.ref p7])) H8 →
    ∃ (R : List Row) (sp : List Nat) (xs : List V) (uu pp ss : Option V), [some (V.ref a), some (.ref pr), some (.ref ps), some (upV row.1), some (.ref b), sv] = [some (V.ref a), some (.ref pr), some (.ref ps), uu, pp, ss] ∧ Same H H8 ∧ H8 pr = some (.lst xs) ∧ Paired (RowF H [pr, ps] H8) xs R ∧ H8 ps = some (.lst (natV sp)) ∧ Tidy rs (i + 1) R sp := fun u sv H4 s34 D' H5 c5 p6 H6 n6 p7 H7 n7 H8 c8 => by
   have hs4 := s34 _ _ hs3
   have s05 : Same H H5 := (s3.trans s34).chg frs c5
   have h5 : H5 pr = some (.lst xs) := (c5.rest pr ne).trans (s34 _ _ h3)
   have h7 : H7 pr = some (.lst xs) := n7.same _ _ (n6.same _ _ h5)
   have s57 := n6.same.trans n7.same
   have p5 : Paired (RowF H [pr, ps] H5) xs R := Paired.mapP p3 fun v r q => (RowF.same s34 q).chg memS hs4 c5
   have b6 : p6 ∉ [pr, ps] := fun z => by
    rcases List.mem_cons.mp z with z | z
    ·subst z; have := n6.fresh; rw [h5] at this; cases this
    ·have z := List.mem_singleton.mp z
     subst z; have := n6.fresh; rw [c5.here] at this; cases this
   refine ⟨R ++ [(u, row.2)], sp ++ [R.length], xs ++ [.ref p7], _, _, _, rfl, (s05.trans s57).chg frr c8, c8.here, ?_, ?_, D'⟩
   ·refine paired_snoc (Paired.mapP p5 fun v r q => (RowF.same s57 q).chg memP h7 c8) (RowF.chg memP h7 c8 ⟨p7, p6, rfl, n7.here, n7.same _ _ n6.here, b6, s05.free n6.fresh, by show row.2.length ≤ 16; omega⟩)
   ·rw [(c8.rest ps (Ne.symm ne)), s57 _ _ c5.here, lxs]
    unfold natV
    rw [List.map_append]
    rfl
  refine ⟨pt, _, rfl, s3.tupq hT, rfl, _, _, rfl, _, _, rfl, rfl, ?_⟩
  cases eu : row.1 with
  | none =>
   have i0 : i = 0 := by
    apply Classical.byContradiction
    intro z
    have o := okr.1
    rw [eu] at o
    unfold upOk at o
    rw [if_neg z] at o
    cases o
   have R0 : R.length = 0 := by omega
   refine ⟨_, rfl, rfl, _, rfl, iteT ?_⟩
   refine ⟨_, rfl, rfl, _, rfl, iteT (iteT ?_)⟩
   refine ⟨_, rfl, .inl ⟨rfl, _, SqL.of hs3⟩, _, rfl, pr, _, rfl, .inl (SqL.of h3), ps, _, _, rfl, rfl, hs3, (by rw [List.length_map]; omega), fun H5 c5 => ?_⟩
   have h5 : H5 pr = some (.lst xs) := (c5.rest pr ne).trans h3
   have hb5 : SqL K H5 b (row.2.map V.int) := (s3.chg frs c5).seq hb
   refine ⟨_, rfl, .inl ⟨rfl, _, SqL.of h5⟩, _, rfl, _, rfl, b, _, rfl, .inl hb5, fun p6 H6 n6 => ?_⟩
   refine ⟨(by show 2 ≤ 1000; decide), fun p7 H7 n7 => ?_⟩
   refine ⟨pr, _, _, rfl, rfl, n7.same _ _ (n6.same _ _ h5), by omega, fun H8 c8 => ?_⟩
   have D' := tidy_new (u := none) D U hil ⟨R0, by rw [er]; exact eu⟩
   rw [er] at D'
   have := fin none (some .non) H3 (Same.refl _) D' H5 c5 p6 H6 n6 p7 H7 n7 H8 c8
   rw [eu] at this
   exact this
  | some wi =>
   obtain ⟨i0, w, ew, wl⟩ : i ≠ 0 ∧ ∃ w : Nat, wi = (w : Int) ∧ w < i := by
    have o := okr.1
    rw [eu] at o
    unfold upOk at o
    by_cases z : i = 0
    ·rw [if_pos z] at o; cases o
    ·rw [if_neg z] at o
     have b := of_decide_eq_true o
     exact ⟨z, wi.toNat, by omega, by omega⟩
   subst ew
   have ew' : (rowAt rs i).1 = some (w : Int) := by rw [er]; exact eu
   have hsR := D.lt w wl
   obtain ⟨v, hv, ⟨pv', bs, rfl, t1, t2, nb, fb, zl⟩⟩ := paired_getr p3 (rowAt_lt hsR)
   refine ⟨_, rfl, rfl, _, rfl, iteF ?_⟩
   refine ⟨_, rfl, _, rfl, ps, _, _, _, rfl, rfl, SqL.of hs3, natV_at (by omega), ?_⟩
   refine ⟨_, rfl, rfl, _, rfl, iteF ?_⟩
   refine ⟨_, rfl, _, rfl, _, rfl, pr, _, _, _, rfl, rfl, SqL.of h3, atI_nat hv, pv', _, _, _, rfl, rfl, SqT.of t1, rfl, ?_⟩
   refine ⟨b, bs, row.2, (rowAt R (sp.getD w 0)).2, rfl, hb3, SqL.of t2, by omega, by omega, fun H4 s4 => ⟨_, rfl, ?_⟩⟩
   refine ite2 (fun c => ?_) (fun c => ?_)
   ·rw [Bool.and_eq_true] at c
    have hs4 := s4 _ _ hs3
    have h4 := s4 _ _ h3
    refine ⟨_, rfl, .inl ⟨rfl, _, SqL.of hs4⟩, _, rfl, pr, _, rfl, .inl (SqL.of h4), ps, _, _, rfl, rfl, hs4, (by rw [List.length_map]; omega), fun H5 c5 => ?_⟩
    have h5 : H5 pr = some (.lst xs) := (c5.rest pr ne).trans h4
    have hb5 : SqL K H5 b (row.2.map V.int) := ((s3.trans s4).chg frs c5).seq hb
    refine ⟨_, rfl, .inl ⟨rfl, _, SqL.of h5⟩, _, rfl, _, rfl, b, _, rfl, .inl hb5, fun p6 H6 n6 => ?_⟩
    refine ⟨(by show 2 ≤ 1000; decide), fun p7 H7 n7 => ?_⟩
    refine ⟨pr, _, _, rfl, rfl, n7.same _ _ (n6.same _ _ h5), by omega, fun H8 c8 => ?_⟩
    have D' := tidy_new (u := some ((sp.getD w 0 : Nat) : Int)) D U hil ⟨w, wl, ew', rfl, by rw [er]; exact less_some c.1, by rw [er]; exact less_some c.2⟩
    rw [er] at D'
    have := fin (some ((sp.getD w 0 : Nat) : Int)) (some (.int ((sp.getD w 0 : Nat) : Int))) H4 s4 D' H5 c5 p6 H6 n6 p7 H7 n7 H8 c8
    rw [eu] at this
    exact this
   ·have c' : (!(lessF row.2 (rowAt R (sp.getD w 0)).2).isEmpty) = false ∨ (!(lessF (rowAt R (sp.getD w 0)).2 row.2).isEmpty) = false := Bool.and_eq_false_iff.mp (Bool.eq_false_iff.mpr c)
    obtain ⟨jo, _, _, ejo⟩ := D.own _ hsR
    have ndS : (rowAt R (sp.getD w 0)).2.Nodup := by
     rw [ejo]
     have o := T.ok jo (by omega)
     unfold rowOk at o
     rw [Bool.and_eq_true] at o
     exact ((set_iff _ _).mp o.2).2.imp fun h => by omega
    have ndP : row.2.Nodup := ((set_iff _ _).mp okr.2).2.imp fun h => by omega
    have hs4 := s4 _ _ hs3
    have h4 := s4 _ _ h3
    have hb4 : SqL K H4 b (row.2.map V.int) := s4.seq hb3
    have t1' := s4 _ _ t1
    have t2' := s4 _ _ t2
    refine ⟨fun σ' H5 => ∃ (R' : List Row) (xs' : List V), σ' = [some (.ref a), some (.ref pr), some (.ref ps), some (upV row.1), some (.ref b), some (.int ((sp.getD w 0 : Nat) : Int))] ∧ Same H H5 ∧ H5 pr = some (.lst xs') ∧ Paired (RowF H [pr, ps] H5) xs' R' ∧ H5 ps = some (.lst (natV sp)) ∧ Tidy rs (i + 1) R' (sp ++ [sp.getD w 0]), ?_, ?_⟩
    ·refine ⟨_, rfl, b, _, rfl, .inl hb4, _, rfl, _, rfl, pr, _, _, _, rfl, rfl, SqL.of h4, atI_nat hv, pv', _, _, _, rfl, rfl, SqT.of t1', rfl, bs, _, rfl, .inl (SqL.of t2'), _, _, rfl, rfl, _, rfl, ?_⟩
     refine ite2 (fun d => ?_) (fun d => ?_)
     ·have d' : (((rowAt R (sp.getD w 0)).2.map V.int).length : Int) < ((row.2.map V.int).length : Int) := of_decide_eq_true d
      rw [List.length_map, List.length_map] at d'
      have sub : ∀ v ∈ (rowAt R (sp.getD w 0)).2, v ∈ row.2 := by
       rcases c' with c' | c'
       ·have := pigT ndP (less_none c')
        omega
       ·exact less_none c'
      refine ⟨_, rfl, _, rfl, pr, _, _, _, rfl, rfl, SqL.of h4, atI_nat hv, pv', _, _, _, rfl, rfl, SqT.of t1', rfl, _, rfl, b, _, rfl, .inl hb4, fun p6 H6 n6 => ?_⟩
      refine ⟨(by show 2 ≤ 1000; decide), fun p7 H7 n7 => ?_⟩
      have s47 := n6.same.trans n7.same
      have h7 := s47 _ _ h4
      refine ⟨_, rfl, _, rfl, pr, _, _, sp.getD w 0, rfl, rfl, h7, ixN_nat (by omega), fun H8 c8 => ?_⟩
      have b6 : p6 ∉ [pr, ps] := fun z => by
       rcases List.mem_cons.mp z with z | z
       ·subst z; have := n6.fresh; rw [h4] at this; cases this
       ·have z := List.mem_singleton.mp z
        subst z; have := n6.fresh; rw [hs4] at this; cases this
      have D' := tidy_lay T D hil wl ew' (.inr ⟨rfl, by rw [er]; exact sub⟩)
      rw [er] at D'
      refine ⟨_, _, (by rw [eu]; rfl), ((s3.trans s4).trans s47).chg frr c8, c8.here, ?_, (c8.rest ps (Ne.symm ne)).trans (s47 _ _ hs4), D'⟩
      refine paired_setF (Paired.mapP p3 fun v r q => (RowF.same (s4.trans s47) q).chg memP h7 c8) (RowF.chg memP h7 c8 ⟨p7, p6, rfl, n7.here, n7.same _ _ n6.here, b6, (s3.trans s4).free n6.fresh, by show row.2.length ≤ 16; omega⟩)
     ·have d' : ¬ (((rowAt R (sp.getD w 0)).2.map V.int).length : Int) < ((row.2.map V.int).length : Int) := of_decide_eq_false (Bool.eq_false_iff.mpr d)
      rw [List.length_map, List.length_map] at d'
      have sub : ∀ v ∈ row.2, v ∈ (rowAt R (sp.getD w 0)).2 := by
       rcases c' with c' | c'
       ·exact less_none c'
       ·intro v hv
        apply Classical.byContradiction
        intro z
        have := pigT (l := v :: (rowAt R (sp.getD w 0)).2) (U := row.2) (List.nodup_cons.mpr ⟨z, ndS⟩) fun x hx => by
         rcases List.mem_cons.mp hx with e | h
         ·rw [e]; exact hv
         ·exact less_none c' x h
        rw [List.length_cons] at this
        omega
      have D' := tidy_lay T D hil wl ew' (.inl ⟨rfl, by rw [er]; exact sub⟩)
      refine ⟨R, xs, ?_, s3.trans s4, h4, Paired.mapP p3 fun v r q => RowF.same s4 q, hs4, D'⟩
      rw [eu]; rfl
    ·rintro σ' H5 ⟨R', xs', rfl, s5, h5, p5, hs5, D'⟩
     refine ⟨_, rfl, .inl ⟨rfl, _, SqL.of hs5⟩, _, rfl, ps, _, _, rfl, rfl, hs5, (by rw [List.length_map]; omega), fun H6 c6 => ?_⟩
     refine ⟨R', _, xs', _, _, _, rfl, s5.chg frs c6, (c6.rest pr ne).trans h5, Paired.mapP p5 fun v r q => RowF.chg memS hs5 c6 q, ?_, D'⟩
     rw [c6.here]
     unfold natV
     rw [List.map_append]
     rfl
 ·rintro σ H3 ⟨R, sp, xs, uu, pp, ss, rfl, s3, h3, p3, hs3, D⟩
  rw [ly] at D
  exact ⟨_, rfl, q pr xs R sp H3 s3 frr h3 (Paired.mapP p3 fun v r q => RowF.sub (fun x hx => by rw [List.mem_singleton.mp hx]; exact List.mem_cons_self) q) D⟩
end
end K
namespace K
open PySem L2 Lw Bg
abbrev s_joint : Stmt := top 9
theorem sc_joint : FnScope ["one", "other"] ["one", "other"] (defScope s_joint) := ⟨rfl, rfl, rfl, by decide +kernel, rfl, by decide +kernel, by decide +kernel⟩
theorem upF_congr {p q : Int → Bool} (h : ∀ v, 0 ≤ v → v < 16 → p v = q v) : upF p = upF q := by
 unfold upF
 refine List.filter_congr fun v hv => ?_
 obtain ⟨i, hi, rfl⟩ := List.mem_map.mp hv
 have := List.mem_range.mp hi
 exact h _ (by omega) (by omega)
def jointF (xs ys : List Int) : List Int := upF fun v => decide (v ∈ xs ∨ v ∈ ys)
def spJoint (K : PySem.W.Frag) : Sp := fun vs H Q _ => ∃ (a b : Addr) (xs ys : List Int), vs = [.ref a, .ref b] ∧ SqL K H a (xs.map V.int) ∧ SqL K H b (ys.map V.int) ∧ Small xs ∧ Small ys ∧
 ∀ H0 p H', Same H H0 → New H0 p (.lst ((jointF xs ys).map V.int)) H' → Q (.ref p) H'
section
variable {P : Program} {w : World} {K : PySem.W.Frag} {mg : Str → Option Value} {base : Heap}
set_option maxHeartbeats 4000000 in
theorem ok_joint (B : Bl mg) (d_joint : Dn K mg "joint" s_joint ["one", "other"]) : FnOk P w K mg base CX0 1 d_joint.f d_joint.fd ["one", "other"] (spJoint K) := by
 refine d_joint.F.ok sc_joint (fun vs H Q E h => ?_) (fun cdv A outer s H vs Q E hr h => ?_)
 ·obtain ⟨a, b, xs, ys, rfl, _⟩ := h
  rfl
 obtain ⟨a, b, xs, ys, rfl, hA, hB, sA, sB, q⟩ := h
 refine ⟨_, (pss_one (ps_ret (pe_callB (call_sortedS (w := w) rfl rfl) rfl B.sorted (by decide +kernel) (pa_cons (pe_op (op_orS (w := w) rfl) (pe_callTy (call_setS (K := K) (w := w) rfl rfl rfl) rfl B.set (by decide +kernel) (pa_cons (pv 0) pa_nil)) (pe_callTy (call_setS (K := K) (w := w) rfl rfl rfl) rfl B.set (by decide +kernel) (pa_cons (pv 1) pa_nil))) pa_nil)))), ?_⟩
 refine ⟨_, rfl, a, xs, rfl, hA, sA, fun p1 L1 H1 n1 m1 => ?_⟩
 refine ⟨_, rfl, b, ys, rfl, n1.same.seq hB, sB, fun p2 L2 H2 n2 m2 => ?_⟩
 refine ⟨p1, p2, L1, L2, rfl, rfl, n2.ne n1.here, n2.same _ _ n1.here, n2.here, fun p3 L H3 n3 m3 => ?_⟩
 refine ⟨p3, false, L, rfl, n3.here, fun p4 H4 n4 => ?_⟩
 have e : (upF fun v => decide (v.toNat ∈ L)) = jointF xs ys := upF_congr fun v h0 h1 => by
  have ev : ((v.toNat : Nat) : Int) = v := by omega
  rw [decide_eq_decide, m3 v.toNat, m1 v.toNat, m2 v.toNat, ev]
 rw [e] at n4
 exact q H3 p4 H4 (n1.same.trans (n2.same.trans n3.same)) n4
end
end K
namespace K
open PySem L2 Lw Bg
def spLessT (K : PySem.W.Frag) : Sp := fun vs H Q _ => ∃ (a b : Addr) (xs ys : List Int), vs = [.ref a, .ref b] ∧ SqT K H a (xs.map V.int) ∧ SqL K H b (ys.map V.int) ∧ xs.length ≤ 1000 ∧
 ∀ H0 p H', Same H H0 → New H0 p (.lst ((lessF xs ys).map V.int)) H' → Q (.ref p) H'
section
variable {P : Program} {w : World} {K : PySem.W.Frag} {mg : Str → Option Value} {base : Heap}
set_option maxHeartbeats 4000000 in
theorem ok_lessT (B : Bl mg) (d_less : Dn K mg "less" s_less ["one", "other"]) : FnOk P w K mg base CX0 1 d_less.f d_less.fd ["one", "other"] (spLessT K) := by
 refine d_less.F.ok sc_less (fun vs H Q E h => ?_) (fun cdv A outer s H vs Q E hr h => ?_)
 ·obtain ⟨a, b, xs, ys, rfl, _⟩ := h
  rfl
 obtain ⟨a, b, xs, ys, rfl, hA, hB, hz, q⟩ := h
 have hv : (A.deeper (PyProof.Rows.envOfC "less" (defScope s_less) s.heap.objs.size d_less.f cdv)).units + 65 < cLine := by have := hr.un; omega
 refine ⟨_, (pss_one (ps_ret (pe_lc ["v", "other"] [none, some 1]  (by kernel_rfl) rfl (pi_tupK (K := K) rfl (pv 0)) (fun _ _ _ _ _ => (pg_name (i := 0) (show (["v", "other"] : List Str).Nodup by decide +kernel) rfl (Or.inl rfl))) (fun _ _ _ _ _ => (pts_one (pt_cmpR (op_notInDK (K := K) rfl hv) (pv 0) (pv 1) (by with_unfolding_all rfl)))) (fun _ _ _ _ _ => (pv 0))))), ?_⟩
 refine ⟨_, rfl, a, rfl, ⟨_, hA⟩, ?_⟩
 refine lc_fmTN (fun x => match x with | .int v => if !decide (v ∈ ys) then some (.int v) else none | _ => none) hA (by rw [List.length_map]; exact hz) (fun x H1 N hx sm hN => ?_) (fun H1 p H1' sm hp => ?_)
 ·obtain ⟨v, hv, rfl⟩ := List.mem_map.mp hx
  have hN' := hN H1 sm
  refine ⟨_, rfl, _, rfl, notInInts (sm.seq hB) ⟨_, rfl, ?_⟩⟩
  dsimp only at hN'
  cases c : decide (v ∈ ys) with
  | true => rw [c] at hN'; exact iteF hN'
  | false => rw [c] at hN'; exact iteT ⟨_, rfl, hN'⟩
 ·have e : (xs.map V.int).filterMap (fun x => match x with | .int v => if !decide (v ∈ ys) then some (V.int v) else none | _ => none) = (lessF xs ys).map V.int := fm_filter fun v _ => rfl
  rw [e] at hp
  exact q _ _ _ sm hp
end
end K
namespace K
open PySem L2 Lw Bg
def spLessO (K : PySem.W.Frag) : Sp := fun vs H Q _ => ∃ (a b : Addr) (xs ys : List Int), vs = [.ref a, .ref b] ∧ SqL K H a (xs.map V.int) ∧ SqT K H b (ys.map V.int) ∧ xs.length ≤ 1000 ∧
 ∀ H0 p H', Same H H0 → New H0 p (.lst ((lessF xs ys).map V.int)) H' → Q (.ref p) H'
theorem inV_ints (v : Int) : ∀ ys : List Int, inV (.int v) (ys.map V.int) = decide (v ∈ ys)
 | [] => rfl
 | y :: r => by
  have ih := inV_ints v r
  unfold inV at ih ⊢
  rw [List.map_cons, List.any_cons, ih, Bool.eq_iff_iff, Bool.or_eq_true, decide_eq_true_iff, decide_eq_true_iff, List.mem_cons]
  have : eqV (V.int y) (V.int v) = decide (y = v) := rfl
  rw [this, decide_eq_true_iff]
  exact or_congr_left eq_comm
theorem flat_ints (ys : List Int) : (ys.map V.int).all flatV = true := List.all_eq_true.mpr fun x hx => by
 obtain ⟨y, _, rfl⟩ := List.mem_map.mp hx
 rfl
section
variable {P : Program} {w : World} {K : PySem.W.Frag} {mg : Str → Option Value} {base : Heap}
set_option maxHeartbeats 4000000 in
theorem ok_lessO (B : Bl mg) (d_less : Dn K mg "less" s_less ["one", "other"]) : FnOk P w K mg base CX0 1 d_less.f d_less.fd ["one", "other"] (spLessO K) := by
 refine d_less.F.ok sc_less (fun vs H Q E h => ?_) (fun cdv A outer s H vs Q E hr h => ?_)
 ·obtain ⟨a, b, xs, ys, rfl, _⟩ := h
  rfl
 obtain ⟨a, b, xs, ys, rfl, hA, hB, hz, q⟩ := h
 refine ⟨_, (pss_one (ps_ret (pe_lc ["v", "other"] [none, some 1]  (by kernel_rfl) rfl (pi_listK (K := K) rfl (pv 0)) (fun _ _ _ _ _ => (pg_name (i := 0) (show (["v", "other"] : List Str).Nodup by decide +kernel) rfl (Or.inl rfl))) (fun _ _ _ _ _ => (pts_one (pt_cmpR (op_notInSK (K := K) rfl) (pv 0) (pv 1) (by with_unfolding_all rfl)))) (fun _ _ _ _ _ => (pv 0))))), ?_⟩
 refine ⟨_, rfl, a, rfl, ⟨_, hA⟩, ?_⟩
 refine lc_fmN (fun x => match x with | .int v => if !decide (v ∈ ys) then some (.int v) else none | _ => none) hA (by rw [List.length_map]; exact hz) (fun x H1 N hx sm hN => ?_) (fun H1 p H1' sm hp => ?_)
 ·obtain ⟨v, hv, rfl⟩ := List.mem_map.mp hx
  have hN' := hN H1 sm
  refine ⟨_, rfl, _, rfl, b, _, rfl, .inr (sm.tupq hB), rfl, flat_ints _, _, rfl, ?_⟩
  rw [if_pos rfl, inV_ints]
  dsimp only at hN'
  cases c : decide (v ∈ ys) with
  | true => rw [c] at hN'; exact iteF hN'
  | false => rw [c] at hN'; exact iteT ⟨_, rfl, hN'⟩
 ·have e : (xs.map V.int).filterMap (fun x => match x with | .int v => if !decide (v ∈ ys) then some (V.int v) else none | _ => none) = (lessF xs ys).map V.int := fm_filter fun v _ => rfl
  rw [e] at hp
  exact q _ _ _ sm hp
end
end K
namespace K
open PySem L2 Lw Bg
theorem FnOk.either {P : Program} {w : World} {K : PySem.W.Frag} {mg : Str → Option Value} {base : Heap} {CX : CXT} {k : Nat} {f : Addr} {fd : FuncData} {ps : List Str} {sp sp' : Sp} (F : FnOk P w K mg base CX k f fd ps sp) (G : FnOk P w K mg base CX k f fd ps sp') : FnOk P w K mg base CX k f fd ps (fun vs H Q E => sp vs H Q E ∨ sp' vs H Q E) :=
 ⟨fun vs H Q E h => h.elim (F.len vs H Q E) (G.len vs H Q E), fun A outer s H args us vs Q E hr he hb hv hs => hs.elim (F.run A outer s H args us vs Q E hr he hb hv) (G.run A outer s H args us vs Q E hr he hb hv)⟩
theorem eqv_tie (s t : Int × Int) : PyData.eqv (tieD s) (tieD t) = decide (s = t) := by
 unfold tieD
 rw [PyData.eqv]
 have e := PySem.W.ked_eqvAll [s.1, s.2] [t.1, t.2]
 have e' : PyData.eqvAll [.int s.1, .int s.2] [.int t.1, .int t.2] = decide ([s.1, s.2] = [t.1, t.2]) := e
 rw [e']
 obtain ⟨a, b⟩ := s
 obtain ⟨c, d⟩ := t
 simp
theorem any_tie (ts : List (Int × Int)) (t : Int × Int) : (ts.map tieD).any (fun e => PyData.eqv e (tieD t)) = decide (t ∈ ts) := by
 rw [List.any_map]
 rw [Bool.eq_iff_iff, List.any_eq_true, decide_eq_true_iff]
 constructor
 ·rintro ⟨s, hs, e⟩
  have : PyData.eqv (tieD s) (tieD t) = true := e
  rw [eqv_tie] at this
  rw [← of_decide_eq_true this]; exact hs
 ·intro h
  exact ⟨t, h, by show PyData.eqv (tieD t) (tieD t) = true; rw [eqv_tie]; simp⟩
theorem shaped_tie (t : Int × Int) : SeqAt.shaped (tieD t) = true := by
 unfold SeqAt.shaped
 rw [can_tie, Bool.true_and]
 exact decide_eq_true (by have := depth_tie t; omega)
abbrev s_bag_behind : Stmt := top 27
theorem sc_bag_behind : FnScope ["graph", "done", "step", "used", "kind", "bag", "v"] ["graph", "done", "step", "used"] (defScope s_bag_behind) := ⟨rfl, rfl, rfl, by decide +kernel, rfl, by decide +kernel, by decide +kernel⟩
def bagF (n : Nat) (ts : List (Int × Int)) (done : List Stp) (s : Stp) (used : List (List Int)) : Option (List Int) :=
 match s with
 | .leaf => some []
 | .inn v => if (0 ≤ v ∧ v < (n : Int)) ∧ v ∉ used.getD 0 [] ∧ Stp.out v ∉ done then some (jointF (used.getD 0 []) [v]) else none
 | .tie a b => if (a, b) ∈ ts ∧ lessF [a, b] (used.getD 0 []) = [] ∧ Stp.tie a b ∉ done then some (used.getD 0 []) else none
 | .out v => if v ∈ used.getD 0 [] ∧ Stp.out v ∉ done then some (lessF (used.getD 0 []) [v]) else none
 | .join => if used.getD 0 [] = used.getD 1 [] then some (used.getD 0 []) else none
def BagN (K : PySem.W.Frag) (H : Hp) (ux : List V) (H' : Hp) (v : V) : Option (List Int) → Prop
 | none => v = .non
 | some b => ∃ p, v = .ref p ∧ SqL K H' p (b.map V.int) ∧ (H p = none ∨ V.ref p ∈ ux)
theorem atI_mem {ux : List V} {k : Nat} {v : V} (h : atI ux (k : Int) = some v) : v ∈ ux := by
 obtain ⟨j, _, e, _⟩ := atI_get h
 exact List.mem_of_getElem? e
def spBagB (K : PySem.W.Frag) : Sp := fun vs H Q _ => ∃ (g : V) (n : Nat) (ts : List (Int × Int)) (dn st us : Addr) (ds ux : List V) (done : List Stp) (s : Stp) (used : List (List Int)), vs = [g, .ref dn, .ref st, .ref us] ∧ GraphV K H g n ts ∧ n ≤ 10 ∧ SqL K H dn ds ∧ Paired (StpV K H) ds done ∧ SqT K H st s.vs ∧ SqL K H us ux ∧ Paired (LstV K H) ux used ∧ s.need ≤ used.length ∧ (∀ b ∈ used, Small b ∧ b.length ≤ 1000) ∧
 ∀ r H', Same H H' → BagN K H ux H' r (bagF n ts done s used) → Q r H'
theorem ne_word {i j : Nat} (hi : i < 5) (hj : j < 5) (h : i ≠ j) : decide (V.str (wordT i) = V.str (wordT j)) = false := decide_eq_false fun e => by
 have e' : wordT i = wordT j := by injection e
 have := wordT_eq i hi j hj
 rw [e', beq_self_eq_true, decide_eq_false h] at this
 cases this
theorem w10 : decide (V.str (Str.ofString "in") = V.str (Str.ofString "leaf")) = false := ne_word (i := 1) (j := 0) (by decide) (by decide) (by decide)
theorem w20 : decide (V.str (Str.ofString "tie") = V.str (Str.ofString "leaf")) = false := ne_word (i := 2) (j := 0) (by decide) (by decide) (by decide)
theorem w21 : decide (V.str (Str.ofString "tie") = V.str (Str.ofString "in")) = false := ne_word (i := 2) (j := 1) (by decide) (by decide) (by decide)
theorem w30 : decide (V.str (Str.ofString "out") = V.str (Str.ofString "leaf")) = false := ne_word (i := 3) (j := 0) (by decide) (by decide) (by decide)
theorem w31 : decide (V.str (Str.ofString "out") = V.str (Str.ofString "in")) = false := ne_word (i := 3) (j := 1) (by decide) (by decide) (by decide)
theorem w32 : decide (V.str (Str.ofString "out") = V.str (Str.ofString "tie")) = false := ne_word (i := 3) (j := 2) (by decide) (by decide) (by decide)
theorem w40 : decide (V.str (Str.ofString "join") = V.str (Str.ofString "leaf")) = false := ne_word (i := 4) (j := 0) (by decide) (by decide) (by decide)
theorem w41 : decide (V.str (Str.ofString "join") = V.str (Str.ofString "in")) = false := ne_word (i := 4) (j := 1) (by decide) (by decide) (by decide)
theorem w42 : decide (V.str (Str.ofString "join") = V.str (Str.ofString "tie")) = false := ne_word (i := 4) (j := 2) (by decide) (by decide) (by decide)
theorem w43 : decide (V.str (Str.ofString "join") = V.str (Str.ofString "out")) = false := ne_word (i := 4) (j := 3) (by decide) (by decide) (by decide)
theorem used0 {K : PySem.W.Frag} {H : Hp} {ux : List V} {used : List (List Int)} {k : Nat} (p : Paired (LstV K H) ux used) (h : k < used.length) : ∃ b, atI ux (k : Int) = some (.ref b) ∧ SqL K H b ((used.getD k []).map V.int) ∧ used.getD k [] ∈ used := by
 obtain ⟨x, hx, ⟨b, rfl, hb⟩⟩ := paired_getr p (List.getElem?_eq_getElem h)
 refine ⟨b, atI_nat hx, ?_, ?_⟩
 ·rw [List.getD_eq_getElem?_getD, List.getElem?_eq_getElem h]; exact hb
 ·rw [List.getD_eq_getElem?_getD, List.getElem?_eq_getElem h]; exact List.getElem_mem h
theorem notInStp {K : PySem.W.Frag} {H : Hp} {dn st : Addr} {ds : List V} {done : List Stp} {s : Stp} {Q : VK} (hD : SqL K H dn ds) (pD : Paired (StpV K H) ds done) (hS : SqT K H st s.vs) (q : Q (.bl (!decide (s ∈ done))) H) : rInD K true (.ref st) (.ref dn) H Q := by
 refine ⟨s.d, done.map Stp.d, StpV.isD ⟨st, rfl, hS⟩, .lst hD (isDs_of (fun _ _ h => StpV.isD h) pD), shaped_stp _, shaped_stps _, ?_⟩
 rw [if_pos rfl, any_stp]
 exact q
section
variable {P : Program} {w : World} {K : PySem.W.Frag} {mg : Str → Option Value} {base : Heap}
set_option maxHeartbeats 8000000 in
theorem ok_bag_behind (B : Bl mg) (d_is_whole : Dn K mg "is_whole" s_is_whole ["thing"]) (d_is_below : Dn K mg "is_below" s_is_below ["n", "thing"]) (d_joint : Dn K mg "joint" s_joint ["one", "other"]) (d_less : Dn K mg "less" s_less ["one", "other"]) (d_bag_behind : Dn K mg "bag_behind" s_bag_behind ["graph", "done", "step", "used"]) : FnOk P w K mg base CX0 3 d_bag_behind.f d_bag_behind.fd ["graph", "done", "step", "used"] (spBagB K) := by
 have G_is_below : FnOk P w K mg base CX0 2 _ _ _ _ := ok_is_below B d_is_whole d_is_below
 have G_joint : FnOk P w K mg base CX0 2 _ _ _ _ := (ok_joint B d_joint).mono (by decide)
 have G_less : FnOk P w K mg base CX0 2 _ _ _ _ := (FnOk.either (ok_lessT B d_less) (ok_lessO B d_less)).mono (by decide)
 refine d_bag_behind.F.ok sc_bag_behind (fun vs H Q E h => ?_) (fun cdv A outer s H vs Q E hr h => ?_)
 ·obtain ⟨g, n, ts, dn, st, us, ds, ux, done, s, used, rfl, _⟩ := h
  rfl
 obtain ⟨g, n, ts, dn, st, us, ds, ux, done, sp, used, rfl, hG, n10, hD, pD, hS, hU, pU, nu, sm, q⟩ := h
 have hu : (A.deeper (PyProof.Rows.envOfC "bag_behind" (defScope s_bag_behind) s.heap.objs.size d_bag_behind.f cdv)).units + 64 < cLine := by have := hr.un; omega
 have hv : (A.deeper (PyProof.Rows.envOfC "bag_behind" (defScope s_bag_behind) s.heap.objs.size d_bag_behind.f cdv)).units + 65 < cLine := by have := hr.un; omega
 obtain ⟨pg, ta, rfl, hP, hT⟩ := id hG
 refine ⟨_, (pss_cons (ps_set (i := 4) sc_bag_behind.nd rfl (Or.inl rfl) (pe_ix (ix_tupK (K := K) rfl) (pv 2) pe_int (fun _ _ => rfl)))
   (pss_cons (ps_if (pt_cmpR op_eq (pv 4) pe_str (nomark _))
   (pss_one (ps_ret (pe_lstN pa_nil)))
   pss_nil)
   (pss_cons (ps_set (i := 5) sc_bag_behind.nd rfl (Or.inl rfl) (pe_ix (ix_listK (K := K) rfl) (pv 3) pe_int (fun _ _ => rfl)))
   (pss_cons (ps_if (pt_cmpR op_eq (pv 4) pe_str (nomark _))
   (pss_cons (ps_set (i := 6) sc_bag_behind.nd rfl (Or.inl rfl) (pe_ix (ix_tupK (K := K) rfl) (pv 2) pe_int (fun _ _ => rfl)))
   (pss_one (ps_ret (pe_ifExp (PW.pt (pw_and (pt_truthK (K := K) rfl (pe_call G_is_below hr rfl d_is_below.m d_is_below.F.kp d_is_below.b .nil pass0 (pa_cons (pe_ix (ix_tupK (K := K) rfl) (pv 0) pe_int (fun _ _ => rfl)) (pa_cons (pv 6) pa_nil))) (fun _ => rfl)) (pw_and (pt_cmpR (op_notInDK (K := K) rfl hv) (pv 6) (pv 5) (by with_unfolding_all rfl)) (pw_and1 (pt_cmpR (op_notInDK (K := K) rfl hv) (pe_tupN (pa_cons pe_str (pa_cons (pv 6) pa_nil))) (pv 1) (by with_unfolding_all rfl)))))) (pe_call G_joint hr rfl d_joint.m d_joint.F.kp d_joint.b .nil pass0 (pa_cons (pv 5) (pa_cons (pe_lstN (pa_cons (pv 6) pa_nil)) pa_nil))) pe_non))))
   pss_nil)
   (pss_cons (ps_if (pt_cmpR op_eq (pv 4) pe_str (nomark _))
   (pss_one (ps_ret (pe_ifExp (PW.pt (pw_and (pt_cmpR (op_inDK (K := K) rfl hv) (pe_slice (sl_tupN (K := K) rfl) (pv 2) (po_some pe_int) po_none) (pe_ix (ix_tupK (K := K) rfl) (pv 0) pe_int (fun _ _ => rfl)) (by with_unfolding_all rfl)) (pw_and (pt_not (pt_truthK (K := K) rfl (pe_call G_less hr rfl d_less.m d_less.F.kp d_less.b .nil pass0 (pa_cons (pe_slice (sl_tupN (K := K) rfl) (pv 2) (po_some pe_int) po_none) (pa_cons (pv 5) pa_nil))) (fun _ => rfl))) (pw_and1 (pt_cmpR (op_notInDK (K := K) rfl hv) (pv 2) (pv 1) (by with_unfolding_all rfl)))))) (pv 5) pe_non)))
   pss_nil)
   (pss_cons (ps_if (pt_cmpR op_eq (pv 4) pe_str (nomark _))
   (pss_one (ps_ret (pe_ifExp (PW.pt (pw_and (pt_cmpR (op_inDK (K := K) rfl hv) (pe_ix (ix_tupK (K := K) rfl) (pv 2) pe_int (fun _ _ => rfl)) (pv 5) (by with_unfolding_all rfl)) (pw_and1 (pt_cmpR (op_notInDK (K := K) rfl hv) (pv 2) (pv 1) (by with_unfolding_all rfl))))) (pe_call G_less hr rfl d_less.m d_less.F.kp d_less.b .nil pass0 (pa_cons (pv 5) (pa_cons (pe_slice (sl_tupN (K := K) rfl) (pv 2) (po_some pe_int) po_none) pa_nil))) pe_non)))
   pss_nil)
   (pss_one (ps_ret (pe_ifExp (pt_cmpR (op_eqDK (K := K) rfl hu) (pv 5) (pe_ix (ix_listK (K := K) rfl) (pv 3) pe_int (fun _ _ => rfl)) (nomark _)) (pv 5) pe_non))))))))), ?_⟩
 cases sp with
 | leaf =>
  refine ⟨_, rfl, st, _, _, _, rfl, rfl, hS, rfl, ?_⟩
  refine ⟨_, rfl, rfl, _, rfl, ?_⟩
  rw [decide_eq_true rfl]
  exact iteT ⟨(by show 0 ≤ 1000; decide), fun p1 H1 n1 => q _ H1 n1.same ⟨p1, rfl, SqL.of n1.here, .inl n1.fresh⟩⟩
 | inn v =>
  obtain ⟨b0, a0, hb0, m0⟩ := used0 (k := 0) pU nu
  obtain ⟨sm0, l0⟩ := sm _ m0
  refine ⟨_, rfl, st, _, _, _, rfl, rfl, hS, rfl, ?_⟩
  refine ⟨_, rfl, rfl, _, rfl, ?_⟩
  rw [w10]
  refine iteF ?_
  refine ⟨_, rfl, us, _, _, _, rfl, rfl, hU, a0, ?_⟩
  refine ⟨_, rfl, rfl, _, rfl, ?_⟩
  rw [decide_eq_true rfl]
  refine iteT ⟨_, rfl, st, _, _, _, rfl, rfl, hS, rfl, ?_⟩
  refine ⟨_, rfl, pg, _, _, _, rfl, rfl, hP, rfl, _, rfl, (n : Int), some v, rfl, _, rfl, ?_⟩
  have eb : belowF (n : Int) (some v) = decide (0 ≤ v ∧ v < (n : Int)) := rfl
  rw [eb]
  have no : ∀ {H'}, Same H H' → ¬ ((0 ≤ v ∧ v < (n : Int)) ∧ v ∉ used.getD 0 [] ∧ Stp.out v ∉ done) → Q .non H' := fun s c => q _ _ s (by
   unfold bagF
   dsimp only
   rw [if_neg c]
   exact rfl)
  by_cases c1 : 0 ≤ v ∧ v < (n : Int)
  ·rw [decide_eq_true c1]
   refine iteT ⟨_, rfl, _, rfl, notInInts hb0 ⟨_, rfl, ?_⟩⟩
   by_cases c2 : v ∈ used.getD 0 []
   ·rw [decide_eq_true c2]
    exact iteF (iteF (no (Same.refl _) fun h => h.2.1 c2))
   ·rw [decide_eq_false c2]
    refine iteT ⟨_, rfl, (by show 2 ≤ 1000; decide), fun p2 H2 n2 => ?_⟩
    refine ⟨_, rfl, notInStp (s := .out v) (n2.same.seq hD) (Paired.mapP pD fun _ _ h => StpV.same n2.same h) (SqT.of n2.here) ⟨_, rfl, ?_⟩⟩
    by_cases c3 : Stp.out v ∈ done
    ·rw [decide_eq_true c3]
     exact iteF (no n2.same fun h => h.2.2 c3)
    ·rw [decide_eq_false c3]
     refine iteT ⟨_, rfl, _, rfl, (by show 1 ≤ 1000; decide), fun p3 H3 n3 => ?_⟩
     refine ⟨b0, p3, _, [v], rfl, (n2.same.trans n3.same).seq hb0, SqL.of n3.here, sm0, fun x hx => by rw [List.mem_singleton.mp hx]; omega, fun H4 p5 H5 s4 n5 => ?_⟩
     refine q _ H5 (n2.same.trans (n3.same.trans (s4.trans n5.same))) ?_
     unfold bagF
     dsimp only
     rw [if_pos ⟨c1, c2, c3⟩]
     exact ⟨p5, rfl, SqL.of n5.here, .inl ((n2.same.trans (n3.same.trans s4)).free n5.fresh)⟩
  ·rw [decide_eq_false c1]
   exact iteF (iteF (no (Same.refl _) fun h => c1 h.1))
 | tie x y =>
  obtain ⟨b0, a0, hb0, m0⟩ := used0 (k := 0) pU nu
  refine ⟨_, rfl, st, _, _, _, rfl, rfl, hS, rfl, ?_⟩
  refine ⟨_, rfl, rfl, _, rfl, ?_⟩
  rw [w20]
  refine iteF ?_
  refine ⟨_, rfl, us, _, _, _, rfl, rfl, hU, a0, ?_⟩
  refine ⟨_, rfl, rfl, _, rfl, ?_⟩
  rw [w21]
  refine iteF ?_
  refine ⟨_, rfl, rfl, _, rfl, ?_⟩
  rw [decide_eq_true rfl]
  have no : ∀ {H'}, Same H H' → ¬ ((x, y) ∈ ts ∧ lessF [x, y] (used.getD 0 []) = [] ∧ Stp.tie x y ∉ done) → Q .non H' := fun s c => q _ _ s (by
   unfold bagF
   dsimp only
   rw [if_neg c]
   exact rfl)
  refine iteT ⟨_, rfl, _, rfl, st, _, rfl, hS, fun h => absurd h.1 (by show ¬ HT.sIx 3 0 (some 1) = 0; decide), fun p1 H1 n1 => ?_⟩
  refine ⟨_, rfl, pg, _, _, _, rfl, rfl, n1.same.tupq hP, rfl, tieD (x, y), ts.map tieD, TieV.isD ⟨p1, rfl, SqT.of n1.here⟩, (hT.same n1.same).isD, shaped_tie _, shaped_ties _, _, rfl, ?_⟩
  rw [if_neg Bool.false_ne_true, any_tie]
  by_cases c1 : (x, y) ∈ ts
  ·rw [decide_eq_true c1]
   refine iteT ⟨_, rfl, _, rfl, st, _, rfl, n1.same.tupq hS, fun h => absurd h.1 (by show ¬ HT.sIx 3 0 (some 1) = 0; decide), fun p2 H2 n2 => ?_⟩
   have s2 := n1.same.trans n2.same
   refine ⟨_, rfl, .inl ⟨p2, b0, [x, y], _, rfl, SqT.of n2.here, s2.seq hb0, (by show 2 ≤ 1000; decide), fun H4 p5 H5 s4 n5 => ?_⟩⟩
   have s5 := s2.trans (s4.trans n5.same)
   refine ⟨_, .inl ⟨_, SqL.of n5.here, rfl⟩, ?_⟩
   by_cases c2 : lessF [x, y] (used.getD 0 []) = []
   ·rw [c2]
    refine iteT ⟨_, rfl, _, rfl, notInStp (s := .tie x y) (s5.seq hD) (Paired.mapP pD fun _ _ h => StpV.same s5 h) (s5.tupq hS) ⟨_, rfl, ?_⟩⟩
    by_cases c3 : Stp.tie x y ∈ done
    ·rw [decide_eq_true c3]
     exact iteF (no s5 fun h => h.2.2 c3)
    ·rw [decide_eq_false c3]
     refine iteT ⟨_, rfl, q _ H5 s5 ?_⟩
     unfold bagF
     dsimp only
     rw [if_pos ⟨c1, c2, c3⟩]
     exact ⟨b0, rfl, s5.seq hb0, .inr (atI_mem a0)⟩
   ·have e : ((lessF [x, y] (used.getD 0 [])).map V.int).isEmpty = false := by
     cases c4 : lessF [x, y] (used.getD 0 []) with
     | nil => exact absurd c4 c2
     | cons _ _ => rfl
    rw [e]
    exact iteF (iteF (no s5 fun h => c2 h.2.1))
  ·rw [decide_eq_false c1]
   exact iteF (iteF (no n1.same fun h => c1 h.1))
 | out v =>
  obtain ⟨b0, a0, hb0, m0⟩ := used0 (k := 0) pU nu
  refine ⟨_, rfl, st, _, _, _, rfl, rfl, hS, rfl, ?_⟩
  refine ⟨_, rfl, rfl, _, rfl, ?_⟩
  rw [w30]
  refine iteF ?_
  refine ⟨_, rfl, us, _, _, _, rfl, rfl, hU, a0, ?_⟩
  refine ⟨_, rfl, rfl, _, rfl, ?_⟩
  rw [w31]
  refine iteF ?_
  refine ⟨_, rfl, rfl, _, rfl, ?_⟩
  rw [w32]
  refine iteF ?_
  refine ⟨_, rfl, rfl, _, rfl, ?_⟩
  rw [decide_eq_true rfl]
  have no : ∀ {H'}, Same H H' → ¬ (v ∈ used.getD 0 [] ∧ Stp.out v ∉ done) → Q .non H' := fun s c => q _ _ s (by
   unfold bagF
   dsimp only
   rw [if_neg c]
   exact rfl)
  refine iteT ⟨_, rfl, st, _, _, _, rfl, rfl, hS, rfl, _, rfl, inInts hb0 ⟨_, rfl, ?_⟩⟩
  by_cases c1 : v ∈ used.getD 0 []
  ·rw [decide_eq_true c1]
   refine iteT ⟨_, rfl, _, rfl, notInStp (s := .out v) hD pD hS ⟨_, rfl, ?_⟩⟩
   by_cases c2 : Stp.out v ∈ done
   ·rw [decide_eq_true c2]
    exact iteF (no (Same.refl _) fun h => h.2 c2)
   ·rw [decide_eq_false c2]
    refine iteT ⟨_, rfl, _, rfl, _, rfl, st, _, rfl, hS, fun h => absurd h.1 (by show ¬ HT.sIx 2 0 (some 1) = 0; decide), fun p2 H2 n2 => ?_⟩
    refine .inr ⟨b0, p2, _, [v], rfl, n2.same.seq hb0, SqT.of n2.here, (sm _ m0).2, fun H4 p5 H5 s4 n5 => ?_⟩
    refine q _ H5 (n2.same.trans (s4.trans n5.same)) ?_
    unfold bagF
    dsimp only
    rw [if_pos ⟨c1, c2⟩]
    exact ⟨p5, rfl, SqL.of n5.here, .inl ((n2.same.trans s4).free n5.fresh)⟩
  ·rw [decide_eq_false c1]
   exact iteF (iteF (no (Same.refl _) fun h => c1 h.1))
 | join =>
  obtain ⟨b0, a0, hb0, m0⟩ := used0 (k := 0) pU (Nat.lt_of_lt_of_le (by decide) nu)
  obtain ⟨b1, a1, hb1, m1⟩ := used0 (k := 1) pU (Nat.lt_of_lt_of_le (by decide) nu)
  refine ⟨_, rfl, st, _, _, _, rfl, rfl, hS, rfl, ?_⟩
  refine ⟨_, rfl, rfl, _, rfl, ?_⟩
  rw [w40]
  refine iteF ?_
  refine ⟨_, rfl, us, _, _, _, rfl, rfl, hU, a0, ?_⟩
  refine ⟨_, rfl, rfl, _, rfl, ?_⟩
  rw [w41]
  refine iteF ?_
  refine ⟨_, rfl, rfl, _, rfl, ?_⟩
  rw [w42]
  refine iteF ?_
  refine ⟨_, rfl, rfl, _, rfl, ?_⟩
  rw [w43]
  refine iteF ?_
  refine ⟨_, rfl, _, rfl, us, _, _, _, rfl, rfl, hU, a1, _, _, .lst hb0 (IsDs.ints _), .lst hb1 (IsDs.ints _), shaped_ints _, shaped_ints _, _, rfl, ?_⟩
  rw [if_neg Bool.false_ne_true, eqv_ints]
  by_cases c : used.getD 0 [] = used.getD 1 []
  ·rw [decide_eq_true c]
   refine iteT ⟨_, rfl, q _ H (Same.refl _) ?_⟩
   unfold bagF
   dsimp only
   rw [if_pos c]
   exact ⟨b0, rfl, hb0, .inr (atI_mem a0)⟩
  ·rw [decide_eq_false c]
   refine iteF (q _ H (Same.refl _) ?_)
   unfold bagF
   dsimp only
   rw [if_neg c]
   exact rfl
end
end K
namespace K
open PySem L2 Lw Bg
abbrev s_run : Stmt := top 26
theorem sc_run : FnScope ["graph", "steps", "tops", "feeds", "pile", "k", "step", "left", "bag"] ["graph", "steps"] (defScope s_run) := ⟨rfl, rfl, rfl, by decide +kernel, rfl, by decide +kernel, by decide +kernel⟩
structure RS where
 tops : List (List Int)
 feeds : List (List Nat)
 pile : List Nat
def leftR (s : Stp) (r : RS) : Nat := r.pile.length - s.need
def usedR (s : Stp) (r : RS) : List (List Int) := (r.pile.drop (leftR s r)).map fun j => r.tops.getD j []
def stepR (n : Nat) (ts : List (Int × Int)) (ss : List Stp) (k : Nat) (r : RS) : Option RS :=
 if (ss.getD k .leaf).need ≤ r.pile.length then
  (bagF n ts (ss.take k) (ss.getD k .leaf) (usedR (ss.getD k .leaf) r)).map fun b => ⟨r.tops ++ [b], r.feeds ++ [r.pile.drop (leftR (ss.getD k .leaf) r)], r.pile.take (leftR (ss.getD k .leaf) r) ++ [k]⟩
 else none
def runR (n : Nat) (ts : List (Int × Int)) (ss : List Stp) : Nat → RS × Bool
 | 0 => (⟨[], [], []⟩, true)
 | k + 1 => if (runR n ts ss k).2 = true then
   match stepR n ts ss k (runR n ts ss k).1 with
   | some r => (r, true)
   | none => ((runR n ts ss k).1, false)
  else ((runR n ts ss k).1, false)
def endR (n : Nat) (ts : List (Int × Int)) (ss : List Stp) : RS := (runR n ts ss ss.length).1
theorem run_stop {n : Nat} {ts : List (Int × Int)} {ss : List Stp} {k : Nat} (h : (runR n ts ss k).2 = false) : ∀ m, k ≤ m → runR n ts ss m = ((runR n ts ss k).1, false)
 | 0, hm => by
  have : k = 0 := by omega
  subst this
  exact Prod.ext rfl h
 | m + 1, hm => by
  by_cases c : k = m + 1
  ·subst c
   exact Prod.ext rfl h
  ·have ih := run_stop h m (by omega)
   show (if (runR n ts ss m).2 = true then _ else _) = _
   rw [ih]
   rfl
structure RunI (i : Nat) (r : RS) : Prop where
 tl : r.tops.length = i
 fl : r.feeds.length = i
 pl : r.pile.length ≤ i
 lt : ∀ j ∈ r.pile, j < i
 sm : ∀ b ∈ r.tops, Small b ∧ b.length ≤ 1000
 ff : ∀ f ∈ r.feeds, f.length ≤ 2
theorem bag_small {n : Nat} {ts : List (Int × Int)} {done : List Stp} {s : Stp} {used : List (List Int)} {b : List Int} (n10 : n ≤ 10) (sm : ∀ b ∈ used, Small b ∧ b.length ≤ 1000) (h : bagF n ts done s used = some b) : Small b ∧ b.length ≤ 1000 := by
 have g : ∀ k, Small (used.getD k []) ∧ (used.getD k []).length ≤ 1000 := fun k => by
  by_cases c : k < used.length
  ·rw [List.getD_eq_getElem?_getD, List.getElem?_eq_getElem c]
   exact sm _ (List.getElem_mem c)
  ·rw [List.getD_eq_getElem?_getD, List.getElem?_eq_none (by omega)]
   exact ⟨fun x hx => absurd hx List.not_mem_nil, by decide⟩
 unfold bagF at h
 cases s with
 | leaf =>
  have : b = [] := (Option.some.inj h).symm
  subst this
  exact ⟨fun x hx => absurd hx List.not_mem_nil, by decide⟩
 | inn v =>
  dsimp only at h
  split at h
  ·rw [← Option.some.inj h]
   refine ⟨fun x hx => ?_, ?_⟩
   ·obtain ⟨h1, h2, _⟩ := mem_upF.mp hx
    exact ⟨h1, h2⟩
   ·unfold jointF upF
    exact Nat.le_trans (List.length_filter_le _ _) (by rw [List.length_map, List.length_range]; decide)
  ·cases h
 | tie x y =>
  dsimp only at h
  split at h
  ·rw [← Option.some.inj h]; exact g 0
  ·cases h
 | out v =>
  dsimp only at h
  split at h
  ·rw [← Option.some.inj h]
   exact ⟨fun x hx => (g 0).1 x (List.mem_filter.mp hx).1, Nat.le_trans (List.length_filter_le _ _) (g 0).2⟩
  ·cases h
 | join =>
  dsimp only at h
  split at h
  ·rw [← Option.some.inj h]; exact g 0
  ·cases h
theorem run_inv {n : Nat} {ts : List (Int × Int)} {ss : List Stp} (n10 : n ≤ 10) : ∀ {i : Nat}, (runR n ts ss i).2 = true → RunI i (runR n ts ss i).1
 | 0, _ => ⟨rfl, rfl, Nat.le_refl _, fun j h => absurd h List.not_mem_nil, fun b h => absurd h List.not_mem_nil, fun b h => absurd h List.not_mem_nil⟩
 | i + 1, h => by
  have e : runR n ts ss (i + 1) = if (runR n ts ss i).2 = true then
   (match stepR n ts ss i (runR n ts ss i).1 with
   | some r => (r, true)
   | none => ((runR n ts ss i).1, false))
  else ((runR n ts ss i).1, false) := rfl
  rw [e] at h ⊢
  by_cases c : (runR n ts ss i).2 = true
  ·have I := run_inv n10 c
   rw [if_pos c] at h ⊢
   cases d : stepR n ts ss i (runR n ts ss i).1 with
   | none => rw [d] at h; cases h
   | some r =>
    dsimp only
    unfold stepR at d
    split at d
    ·obtain ⟨b, hb, er⟩ := Option.map_eq_some_iff.mp d
     rw [← er]
     have sb := bag_small n10 (fun x hx => by
      obtain ⟨j, hj, e⟩ := List.mem_map.mp hx
      have jl := I.lt j (List.mem_of_mem_drop hj)
      rw [← e, List.getD_eq_getElem?_getD, List.getElem?_eq_getElem (by rw [I.tl]; exact jl)]
      exact I.sm _ (List.getElem_mem _)) hb
     refine ⟨?_, ?_, ?_, fun j hj => ?_, fun x hx => ?_, fun f hf => ?_⟩
     ·show (_ ++ [b]).length = _
      rw [List.length_append, I.tl]; rfl
     ·show (_ ++ [_]).length = _
      rw [List.length_append, I.fl]; rfl
     ·show (_ ++ [i]).length ≤ _
      rw [List.length_append, List.length_take]
      have := I.pl
      show min _ _ + 1 ≤ _
      omega
     ·rcases List.mem_append.mp hj with hj | hj
      ·have := I.lt j (List.mem_of_mem_take hj)
       omega
      ·rw [List.mem_singleton.mp hj]; omega
     ·rcases List.mem_append.mp hx with hx | hx
      ·exact I.sm x hx
      ·rw [List.mem_singleton.mp hx]; exact sb
     ·rcases List.mem_append.mp hf with hf | hf
      ·exact I.ff f hf
      ·rw [List.mem_singleton.mp hf, List.length_drop]
       unfold leftR
       have : (ss.getD i .leaf).need ≤ 2 := by cases ss.getD i .leaf <;> simp [Stp.need]
       omega
    ·cases d
  ·rw [if_neg c] at h
   cases h
theorem run_go {n : Nat} {ts : List (Int × Int)} {ss : List Stp} {i : Nat} {r : RS} (c : (runR n ts ss i).2 = true) (d : stepR n ts ss i (runR n ts ss i).1 = some r) : runR n ts ss (i + 1) = (r, true) := by
 show (if (runR n ts ss i).2 = true then _ else _) = _
 rw [if_pos c, d]
theorem run_end {n : Nat} {ts : List (Int × Int)} {ss : List Stp} {i : Nat} (il : i < ss.length) (c : (runR n ts ss i).2 = true) (d : stepR n ts ss i (runR n ts ss i).1 = none) : endR n ts ss = (runR n ts ss i).1 := by
 have e : runR n ts ss (i + 1) = ((runR n ts ss i).1, false) := by
  show (if (runR n ts ss i).2 = true then _ else _) = _
  rw [if_pos c, d]
 unfold endR
 rw [run_stop (k := i + 1) (by rw [e]) ss.length il, e]
end K
namespace K
open PySem L2 Lw Bg
def BagL (ex : List Addr) (K : PySem.W.Frag) (H : Hp) (v : V) (b : List Int) : Prop := ∃ p, v = .ref p ∧ SqL K H p (b.map V.int) ∧ p ∉ ex
theorem BagL.same {ex : List Addr} {K : PySem.W.Frag} {H H' : Hp} {v : V} {b : List Int} (s : Same H H') (h : BagL ex K H v b) : BagL ex K H' v b := by
 obtain ⟨p, e, q, n⟩ := h
 exact ⟨p, e, s.seq q, n⟩
theorem BagL.l {ex : List Addr} {K : PySem.W.Frag} {H : Hp} {v : V} {b : List Int} (h : BagL ex K H v b) : LstV K H v b := by
 obtain ⟨p, e, q, n⟩ := h
 exact ⟨p, e, q⟩
theorem sql_chg {K : PySem.W.Frag} {H H' : Hp} {a p : Addr} {o : HO} {xs : List V} (c : Chg H a o H') (n : p ≠ a) (h : SqL K H p xs) : SqL K H' p xs := by
 rcases h with h | h
 ·refine .inl ?_
  rcases h with h | ⟨u, h⟩
  ·exact .inl ((c.rest p n).trans h)
  ·exact .inr ⟨u, (c.rest p n).trans h⟩
 ·exact .inr h
theorem BagL.chg {ex : List Addr} {K : PySem.W.Frag} {H H' : Hp} {a : Addr} {o : HO} {v : V} {b : List Int} (c : Chg H a o H') (ha : a ∈ ex) (h : BagL ex K H v b) : BagL ex K H' v b := by
 obtain ⟨p, e, q, n⟩ := h
 exact ⟨p, e, sql_chg c (fun z => n (z ▸ ha)) q, n⟩
def NatL (ex : List Addr) (H : Hp) (q : Addr) (f : List Nat) : Prop := H q = some (.lst (natV f)) ∧ q ∉ ex
theorem NatL.same {ex : List Addr} {H H' : Hp} {q : Addr} {f : List Nat} (s : Same H H') (h : NatL ex H q f) : NatL ex H' q f := ⟨s _ _ h.1, h.2⟩
theorem NatL.chg {ex : List Addr} {H H' : Hp} {a : Addr} {o : HO} {q : Addr} {f : List Nat} (c : Chg H a o H') (ha : a ∈ ex) (h : NatL ex H q f) : NatL ex H' q f := ⟨(c.rest q fun z => h.2 (z ▸ ha)).trans h.1, h.2⟩
theorem cut_take (xs : List V) (k : Nat) (h : k ≤ xs.length) : cutV xs none (some (k : Int)) = xs.take k := by
 unfold cutV
 have e1 : HT.sIx xs.length xs.length (some (k : Int)) = k := by
  show min _ _ = k
  simp
  omega
 have e2 : HT.sIx xs.length 0 none = 0 := rfl
 rw [e1, e2, List.drop_zero, Nat.sub_zero]
theorem cut_drop (xs : List V) (k : Nat) (h : k ≤ xs.length) : cutV xs (some (k : Int)) none = xs.drop k := by
 unfold cutV
 have e1 : HT.sIx xs.length 0 (some (k : Int)) = k := by
  show min _ _ = k
  simp
  omega
 have e2 : HT.sIx xs.length xs.length none = xs.length := rfl
 rw [e1, e2, List.take_of_length_le (by rw [List.length_drop]; omega)]
theorem pairedTake {α β : Type} {R : α → β → Prop} : ∀ {xs : List α} {ys : List β} (i : Nat), Paired R xs ys → Paired R (xs.take i) (ys.take i)
 | _, _, 0, _ => .nil
 | _, _, _ + 1, .nil => .nil
 | _, _, i + 1, .cons q r => .cons q (pairedTake i r)
def BagX (ex : List Addr) (K : PySem.W.Frag) (H : Hp) (v : V) : Option (List Int) → Prop
 | none => v = .non
 | some b => BagL ex K H v b
theorem used_pair {ex : List Addr} {K : PySem.W.Frag} {H : Hp} {vt : List V} {tops : List (List Int)} (p : Paired (BagL ex K H) vt tops) : ∀ l : List Nat, (∀ j ∈ l, j < tops.length) → Paired (LstV K H) (l.map fun j => vt.getD j .non) (l.map fun j => tops.getD j [])
 | [], _ => .nil
 | j :: r, h => by
  have jl := h j List.mem_cons_self
  obtain ⟨x, hx, hb⟩ := paired_getr p (List.getElem?_eq_getElem jl)
  refine .cons ?_ (used_pair p r fun i hi => h i (List.mem_cons_of_mem _ hi))
  dsimp only
  rw [List.getD_eq_getElem?_getD, hx, List.getD_eq_getElem?_getD, List.getElem?_eq_getElem jl]
  exact hb.l
def spRun (K : PySem.W.Frag) : Sp := fun vs H Q _ => ∃ (g : V) (n : Nat) (ts : List (Int × Int)) (a : Addr) (xs : List V) (ss : List Stp), vs = [g, .ref a] ∧ GraphV K H g n ts ∧ n ≤ 10 ∧ SqL K H a xs ∧ Paired (StpV K H) xs ss ∧ ss.length ≤ 900 ∧
 ∀ r pt pf pp vt fs H', Same H H' → H' r = some (.tup [.ref pt, .ref pf, .ref pp]) → H pt = none → H pf = none → H pp = none → H' pt = some (.lst vt) → H' pf = some (.lst (fs.map V.ref)) → NatL [pt, pf] H' pp (endR n ts ss).pile → Paired (BagL [pt, pf] K H') vt (endR n ts ss).tops → Paired (NatL [pt, pf] H') fs (endR n ts ss).feeds → Q (.ref r) H'
section
variable {P : Program} {w : World} {K : PySem.W.Frag} {mg : Str → Option Value} {base : Heap}
set_option maxHeartbeats 8000000 in
theorem ok_run (B : Bl mg) (U : Used w K mg) (d_is_whole : Dn K mg "is_whole" s_is_whole ["thing"]) (d_is_below : Dn K mg "is_below" s_is_below ["n", "thing"]) (d_joint : Dn K mg "joint" s_joint ["one", "other"]) (d_less : Dn K mg "less" s_less ["one", "other"]) (d_bag_behind : Dn K mg "bag_behind" s_bag_behind ["graph", "done", "step", "used"]) (d_run : Dn K mg "run" s_run ["graph", "steps"]) : FnOk P w K mg base CX0 4 d_run.f d_run.fd ["graph", "steps"] (spRun K) := by
 have G_bag_behind : FnOk P w K mg base CX0 3 _ _ _ _ := ok_bag_behind B d_is_whole d_is_below d_joint d_less d_bag_behind
 refine d_run.F.ok sc_run (fun vs H Q E h => ?_) (fun cdv A outer s H vs Q E hr h => ?_)
 ·obtain ⟨g, n, ts, a, xs, ss, rfl, _⟩ := h
  rfl
 obtain ⟨g, n, ts, a, xs, ss, rfl, hG, n10, hA, pA, l900, q⟩ := h
 have lx := Paired.length pA
 refine ⟨_, (pss_cons (ps_set (i := 2) sc_run.nd rfl (Or.inr rfl) (pe_lstN pa_nil))
   (pss_cons (ps_set (i := 3) sc_run.nd rfl (Or.inl rfl) (pe_lstN pa_nil))
   (pss_cons (ps_set (i := 4) sc_run.nd rfl (Or.inl rfl) (pe_lstN pa_nil))
   (pss_cons (ps_for PassesOwn.never rfl (pi_enum (K := K) rfl rfl B.enumerate (pa_cons (pv 1) pa_nil)) (pg_tupK (K := K) (n := 2) rfl rfl (pgs_cons (pg_name (i := 5) sc_run.nd rfl (Or.inl rfl)) (pgs_cons (pg_name (i := 6) sc_run.nd rfl (Or.inl rfl)) pgs_nil)))
   (pss_cons (ps_set (i := 7) sc_run.nd rfl (Or.inl rfl) (pe_op op_sub (pe_callB (call_lenK (K := K) rfl) rfl B.len (by decide +kernel) (pa_cons (pv 4) pa_nil)) (pe_used U rfl (pe_ix (ix_tupK (K := K) rfl) (pv 6) pe_int (fun _ _ => rfl)) (fun _ _ => rfl))))
   (pss_cons (ps_set (i := 8) sc_run.nd rfl (Or.inl rfl) pe_non)
   (pss_cut (ps_if (pt_cmpR op_ge (pv 7) pe_int (nomark _))
   (pss_one (ps_set (i := 8) sc_run.nd rfl (Or.inl rfl) (pe_call G_bag_behind hr rfl d_bag_behind.m d_bag_behind.F.kp d_bag_behind.b .nil pass0 (pa_cons (pv 0) (pa_cons (pe_slice (sl_listN (K := K) rfl) (pv 1) po_none (po_some (pv 5))) (pa_cons (pv 6) (pa_cons (pe_lc ["j", "tops"] [none, some 2]  (by kernel_rfl) rfl (pi_listK (K := K) rfl (pe_slice (sl_listN (K := K) rfl) (pv 4) (po_some (pv 7)) po_none)) (fun _ _ _ _ _ => (pg_name (i := 0) (show (["j", "tops"] : List Str).Nodup by decide +kernel) rfl (Or.inl rfl))) (fun _ _ _ _ _ => pts_nil) (fun _ _ _ _ _ => (pe_ix (ix_listK (K := K) rfl) (pv 1) (pv 0) (fun _ _ => rfl)))) pa_nil)))))))
   pss_nil)
   (pss_cons (ps_if (pt_cmpR op_isN (pv 8) pe_non (nomark _))
   (pss_one ps_break)
   pss_nil)
   (pss_cons (ps_expr (pe_bmK (K := K) rfl PySem.F.plainAttrs_list PySem.F.slot_list_append PySem.F.type_list_append mt_appendN (pv 2) (pa_cons (pv 8) pa_nil)))
   (pss_cons (ps_expr (pe_bmK (K := K) rfl PySem.F.plainAttrs_list PySem.F.slot_list_append PySem.F.type_list_append mt_appendN (pv 3) (pa_cons (pe_slice (sl_listN (K := K) rfl) (pv 4) (po_some (pv 7)) po_none) pa_nil)))
   (pss_one (ps_set (i := 4) sc_run.nd rfl (Or.inl rfl) (pe_op op_catN (pe_slice (sl_listN (K := K) rfl) (pv 4) po_none (po_some (pv 7))) (pe_lstN (pa_cons (pv 5) pa_nil))))))))))))
   (pss_one (ps_ret (pe_tupN (pa_cons (pv 2) (pa_cons (pv 3) (pa_cons (pv 4) pa_nil)))))))))), ?_⟩
 refine ⟨(by show 0 ≤ 1000; decide), fun p1 H1 n1 => ⟨(by show 0 ≤ 1000; decide), fun p2 H2 n2 => ⟨(by show 0 ≤ 1000; decide), fun p3 H3 n3 => ?_⟩⟩⟩
 have s3 := n1.same.trans (n2.same.trans n3.same)
 have f1 : H p1 = none := n1.fresh
 have f2 : H p2 = none := n1.same.free n2.fresh
 have f3 : H p3 = none := n1.same.free (n2.same.free n3.fresh)
 have n12 : p1 ≠ p2 := n2.ne n1.here
 have n13 : p3 ≠ p1 := (n3.ne (n2.same _ _ n1.here)).symm
 have n23 : p3 ≠ p2 := (n3.ne n2.here).symm
 have ret : ∀ {H' : Hp} {pp : Addr} {vt : List V} {fs : List Addr} {a5 a6 a7 a8 : Option V}, Same H H' → H pp = none → H' p1 = some (.lst vt) → H' p2 = some (.lst (fs.map V.ref)) → NatL [p1, p2] H' pp (endR n ts ss).pile → Paired (BagL [p1, p2] K H') vt (endR n ts ss).tops → Paired (NatL [p1, p2] H') fs (endR n ts ss).feeds → tRet (tTupN (tCons (tVar 2) (tCons (tVar 3) (tCons (tVar 4) tNil)))) { nx := fun x H' => Q V.non H', rt := Q } [some g, some (.ref a), some (.ref p1), some (.ref p2), some (.ref pp), a5, a6, a7, a8] H' := fun {H' pp vt fs a5 a6 a7 a8} s fp h1 h2 h3 h4 h5 => by
  refine ⟨_, rfl, _, rfl, _, rfl, (by show 3 ≤ 1000; decide), fun pr Hr nr => ?_⟩
  exact q pr p1 p2 pp vt fs Hr (s.trans nr.same) nr.here f1 f2 fp (nr.same _ _ h1) (nr.same _ _ h2) (h3.same nr.same) (Paired.mapP h4 fun _ _ h => h.same nr.same) (Paired.mapP h5 fun _ _ h => h.same nr.same)
 refine ⟨_, rfl, a, rfl, ⟨_, s3.seq hA⟩, ?_⟩
 refine for_enum (xs := xs) (fun i σ H' => ∃ (vt : List V) (fs : List Addr) (pp : Addr) (a5 a6 a7 a8 : Option V), σ = [some g, some (.ref a), some (.ref p1), some (.ref p2), some (.ref pp), a5, a6, a7, a8] ∧ Same H H' ∧ H' p1 = some (.lst vt) ∧ H' p2 = some (.lst (fs.map V.ref)) ∧ (runR n ts ss i).2 = true ∧ H pp = none ∧ NatL [p1, p2] H' pp (runR n ts ss i).1.pile ∧ Paired (BagL [p1, p2] K H') vt (runR n ts ss i).1.tops ∧ Paired (NatL [p1, p2] H') fs (runR n ts ss i).1.feeds)
  ⟨[], [], p3, none, none, none, none, rfl, s3, n3.same _ _ (n2.same _ _ n1.here), n3.same _ _ n2.here, rfl, f3, ⟨n3.here, by simp [n13, n23]⟩, .nil, .nil⟩ (fun i σ H' _ ⟨_, _, _, _, _, _, _, _, s, _⟩ => s.seq hA) ?_ ?_
 ·rintro i x σ H4 pz H5 hi ⟨vt, fs, pp, a5, a6, a7, a8, rfl, s4, h1, h2, go, fp, hpp, pv, pf⟩ nz
  obtain ⟨sp, hsp, ⟨ps, rfl, hps⟩⟩ := paired_get pA hi
  have il : i < ss.length := (List.getElem?_eq_some_iff.mp hsp).1
  have esp : ss.getD i .leaf = sp := by rw [List.getD_eq_getElem?_getD, hsp]; rfl
  have I := run_inv (n := n) (ts := ts) (ss := ss) n10 go
  obtain ⟨R, eR⟩ : ∃ R, R = (runR n ts ss i).1 := ⟨_, rfl⟩
  rw [← eR] at I hpp pv pf
  have s5 := s4.trans nz.same
  refine ⟨pz, _, rfl, SqT.of nz.here, rfl, _, _, rfl, _, _, rfl, rfl, ?_⟩
  have hpp5 := (hpp.same nz.same).1
  refine ⟨_, rfl, pp, _, rfl, .inl (SqL.of hpp5), _, rfl, ps, _, ((0 : Nat) : Int), _, rfl, rfl, s5.tupq hps, word_at sp, .inr sp.word, _, rfl, used_at sp, _, _, rfl, rfl, ?_⟩
  dsimp only
  rw [List.length_map]
  obtain ⟨lf, elf⟩ : ∃ lf : Int, ((R.pile.length : Nat) : Int) - ((sp.need : Nat) : Int) = lf := ⟨_, rfl⟩
  rw [elf]
  refine ⟨fun σ' H' => ∃ bv : V, σ' = [some g, some (.ref a), some (.ref p1), some (.ref p2), some (.ref pp), some (.int (i : Int)), some (.ref ps), some (.int lf), some bv] ∧ Same H5 H' ∧ ((sp.need ≤ R.pile.length ∧ BagX [p1, p2] K H' bv (bagF n ts (ss.take i) sp (usedR sp R))) ∨ (¬ sp.need ≤ R.pile.length ∧ bv = .non)), ?_, ?_⟩
  ·refine ⟨_, rfl, _, _, rfl, rfl, _, rfl, ?_⟩
   refine ite2 (fun c => ?_) (fun c => ⟨.non, rfl, Same.refl _, .inr ⟨?_, rfl⟩⟩)
   ·have c' : (0 : Int) ≤ lf := of_decide_eq_true c
    have nl : sp.need ≤ R.pile.length := by omega
    have el : lf = ((leftR sp R : Nat) : Int) := by unfold leftR; omega
    have ll : leftR sp R ≤ R.pile.length := by unfold leftR; omega
    rw [el]
    refine ⟨_, rfl, _, rfl, _, rfl, _, rfl, a, _, rfl, s5.seq hA, fun p6 H6 n6 => ?_⟩
    rw [cut_take _ _ (by omega)] at n6
    refine ⟨_, rfl, _, rfl, _, rfl, _, rfl, pp, _, rfl, SqL.of (n6.same _ _ hpp5), fun p7 H7 n7 => ?_⟩
    rw [cut_drop _ _ (by rw [List.length_map]; exact ll)] at n7
    have s57 := n6.same.trans n7.same
    have ed : (natV R.pile).drop (leftR sp R) = natV (R.pile.drop (leftR sp R)) := by unfold natV; rw [List.map_drop]
    rw [ed] at n7
    have h17 := s57 _ _ (nz.same _ _ h1)
    have lv := Paired.length pv
    have jt : ∀ j ∈ R.pile.drop (leftR sp R), j < R.tops.length := fun j hj => by rw [I.tl]; exact I.lt j (List.mem_of_mem_drop hj)
    refine ⟨p7, rfl, ⟨_, SqL.of n7.here⟩, ?_⟩
    refine lc_fmN (fun v => match v with | .int z => some (vt.getD z.toNat .non) | _ => none) (SqL.of n7.here) (by rw [List.length_map, List.length_drop]; have := I.pl; omega) (fun v H8 N hv8 s8 hN => ?_) (fun H8 p9 H9 s8 n9 => ?_)
    ·obtain ⟨j, hj, rfl⟩ := List.mem_map.mp hv8
     have jl : j < vt.length := by rw [lv]; exact jt j hj
     have hN' := hN H8 s8
     dsimp only at hN'
     rw [Int.toNat_natCast] at hN'
     refine ⟨_, rfl, _, rfl, p1, _, _, _, rfl, rfl, SqL.of (s8 _ _ h17), atI_nat (List.getElem?_eq_getElem jl), ?_⟩
     rw [List.getD_eq_getElem?_getD, List.getElem?_eq_getElem jl] at hN'
     exact hN'
    have e9 : (natV (R.pile.drop (leftR sp R))).filterMap (fun v => match v with | .int z => some (vt.getD z.toNat .non) | _ => none) = (R.pile.drop (leftR sp R)).map fun j => vt.getD j .non := by
     unfold natV
     rw [List.filterMap_map]
     refine (fm_some fun j _ => ?_)
     show some (vt.getD ((j : Int)).toNat V.non) = _
     rw [Int.toNat_natCast]
    rw [e9] at n9
    have s59 := s57.trans (s8.trans n9.same)
    have s69 := n7.same.trans (s8.trans n9.same)
    have pv9 := Paired.mapP pv fun _ _ h => h.same (nz.same.trans s59)
    refine ⟨g, n, ts, p6, ps, p9, xs.take i, _, ss.take i, sp, usedR sp R, rfl, (hG.same s5).same s59, n10, SqL.of (s69 _ _ n6.here), pairedTake i (Paired.mapP pA fun _ _ h => (h.same s5).same s59), (s5.trans s59).tupq hps, SqL.of n9.here, used_pair pv9 _ jt, ?_, fun b hb => ?_, fun r H10 s10 bn => ?_⟩
    ·unfold usedR
     rw [List.length_map, List.length_drop]
     unfold leftR
     omega
    ·obtain ⟨j, hj, rfl⟩ := List.mem_map.mp hb
     rw [List.getD_eq_getElem?_getD, List.getElem?_eq_getElem (jt j hj)]
     exact I.sm _ (List.getElem_mem _)
    refine ⟨r, rfl, s59.trans s10, .inl ⟨nl, ?_⟩⟩
    cases eb : bagF n ts (ss.take i) sp (usedR sp R) with
    | none => rw [eb] at bn; exact bn
    | some b =>
     rw [eb] at bn
     obtain ⟨p, e, hp, h⟩ := bn
     refine ⟨p, e, hp, ?_⟩
     rcases h with h | h
     ·have k1 : H9 p1 = some (.lst vt) := s59 _ _ (nz.same _ _ h1)
      have k2 : H9 p2 = some (.lst (fs.map V.ref)) := s59 _ _ (nz.same _ _ h2)
      intro hm
      rcases List.mem_cons.mp hm with hm | hm
      ·rw [hm, k1] at h; cases h
      ·rw [List.mem_singleton.mp hm, k2] at h; cases h
     ·obtain ⟨j, hj, ej⟩ := List.mem_map.mp h
      have jl : j < vt.length := by rw [lv]; exact jt j hj
      obtain ⟨b', _, ⟨p', e', _, np⟩⟩ := paired_get pv (List.getElem?_eq_getElem jl)
      rw [List.getD_eq_getElem?_getD, List.getElem?_eq_getElem jl, Option.getD_some, e'] at ej
      injection ej with ej
      rw [← ej]; exact np
   ·have c' : ¬ (0 : Int) ≤ lf := of_decide_eq_false (Bool.eq_false_iff.mpr c)
    omega
  rintro σ' H6 ⟨bv, rfl, s6, wb⟩
  have s46 := nz.same.trans s6
  have h16 := s46 _ _ h1
  have h26 := s46 _ _ h2
  have hpp6 := hpp.same s46
  have pv6 := Paired.mapP pv fun _ _ h => h.same s46
  have pf6 := Paired.mapP pf fun _ _ h => h.same s46
  have sH6 := s4.trans s46
  have stop : bv = .non → stepR n ts ss i R = none := fun e => by
   unfold stepR
   rw [esp]
   rcases wb with ⟨nl, w⟩ | ⟨nl, _⟩
   ·rw [if_pos nl]
    cases eb : bagF n ts (ss.take i) sp (usedR sp R) with
    | none => rfl
    | some b =>
     rw [eb] at w
     obtain ⟨p, e', _⟩ := w
     rw [e] at e'; cases e'
   ·rw [if_neg nl]
  refine ⟨_, rfl, rfl, _, rfl, ?_⟩
  by_cases cn : bv = .non
  ·rw [decide_eq_true cn]
   refine iteT ?_
   have ee := run_end il go (by rw [← eR]; exact stop cn)
   rw [← eR] at ee
   refine ret sH6 fp h16 h26 ?_ ?_ ?_
   ·rw [ee]; exact hpp6
   ·rw [ee]; exact pv6
   ·rw [ee]; exact pf6
  ·rw [decide_eq_false cn]
   refine iteF ?_
   obtain ⟨nl, b, eb, p, rfl, hp, np⟩ : sp.need ≤ R.pile.length ∧ ∃ b, bagF n ts (ss.take i) sp (usedR sp R) = some b ∧ BagL [p1, p2] K H6 bv b := by
    rcases wb with ⟨nl, w⟩ | ⟨_, e⟩
    ·refine ⟨nl, ?_⟩
     cases eb : bagF n ts (ss.take i) sp (usedR sp R) with
     | none => rw [eb] at w; exact absurd w cn
     | some b => rw [eb] at w; exact ⟨b, rfl, w⟩
    ·exact absurd e cn
   have el : lf = ((leftR sp R : Nat) : Int) := by unfold leftR; omega
   have ll : leftR sp R ≤ R.pile.length := by unfold leftR; omega
   rw [el]
   have lv := Paired.length pv
   have lff := Paired.length pf
   have tl := I.tl
   have fl := I.fl
   have pl := I.pl
   have es : stepR n ts ss i R = some ⟨R.tops ++ [b], R.feeds ++ [R.pile.drop (leftR sp R)], R.pile.take (leftR sp R) ++ [i]⟩ := by
    unfold stepR
    rw [esp, if_pos nl, eb]
    rfl
   have er := run_go go (by rw [← eR]; exact es)
   have m1 : p1 ∈ [p1, p2] := List.mem_cons_self
   have m2 : p2 ∈ [p1, p2] := List.mem_cons_of_mem _ (List.mem_singleton.mpr rfl)
   refine ⟨_, rfl, .inl ⟨rfl, _, SqL.of h16⟩, _, rfl, p1, vt, _, rfl, rfl, h16, by omega, fun H7 c7 => ?_⟩
   have h27 : H7 p2 = some (.lst (fs.map V.ref)) := (c7.rest p2 (Ne.symm n12)).trans h26
   have hpp7 := hpp6.chg c7 m1
   refine ⟨_, rfl, .inl ⟨rfl, _, SqL.of h27⟩, _, rfl, _, rfl, _, rfl, pp, _, rfl, SqL.of hpp7.1, fun p8 H8 n8 => ?_⟩
   rw [cut_drop _ _ (by rw [List.length_map]; exact ll), show (natV R.pile).drop (leftR sp R) = natV (R.pile.drop (leftR sp R)) by unfold natV; rw [List.map_drop]] at n8
   have h28 := n8.same _ _ h27
   refine ⟨p2, _, _, rfl, rfl, h28, by rw [List.length_map]; omega, fun H9 c9 => ?_⟩
   have n81 : p8 ∉ [p1, p2] := fun hm => by
    have f8 := n8.fresh
    rcases List.mem_cons.mp hm with hm | hm
    ·rw [hm, c7.here] at f8; cases f8
    ·rw [List.mem_singleton.mp hm, h27] at f8; cases f8
   have h19 : H9 p1 = some (.lst (vt ++ [.ref p])) := (c9.rest p1 n12).trans (n8.same _ _ c7.here)
   have hpp9 := (hpp7.same n8.same).chg c9 m2
   refine ⟨_, rfl, _, rfl, _, rfl, pp, _, rfl, SqL.of hpp9.1, fun p10 H10 n10' => ?_⟩
   rw [cut_take _ _ (by rw [List.length_map]; exact ll), show (natV R.pile).take (leftR sp R) = natV (R.pile.take (leftR sp R)) by unfold natV; rw [List.map_take]] at n10'
   refine ⟨_, rfl, (by show 1 ≤ 1000; decide), fun p11 H11 n11 => ?_⟩
   refine ⟨p10, p11, _, _, rfl, rfl, n11.same _ _ n10'.here, n11.here, by rw [List.length_map, List.length_take]; show min _ _ + 1 ≤ 1000; omega, fun p12 H12 n12' => ?_⟩
   have s9_12 := n10'.same.trans (n11.same.trans n12'.same)
   have sH9 : Same H H9 := ((sH6.chg f1 c7).trans n8.same).chg f2 c9
   have f12 : H p12 = none := sH9.free (n10'.same.free (n11.same.free n12'.fresh))
   refine ⟨vt ++ [.ref p], fs ++ [p8], p12, _, _, _, _, rfl, sH9.trans s9_12, s9_12 _ _ h19, ?_, by rw [er], f12, ?_, ?_, ?_⟩
   ·have := s9_12 _ _ c9.here
    rw [this, List.map_append]; rfl
   ·rw [er]
    refine ⟨?_, fun hm => ?_⟩
    ·rw [n12'.here]
     unfold natV
     rw [List.map_append]; rfl
    ·have g := n12'.fresh
     rcases List.mem_cons.mp hm with hm | hm
     ·rw [hm, n11.same _ _ (n10'.same _ _ h19)] at g; cases g
     ·rw [List.mem_singleton.mp hm, n11.same _ _ (n10'.same _ _ c9.here)] at g; cases g
   ·rw [er]
    exact paired_snoc (Paired.mapP pv6 fun _ _ h => (((h.chg c7 m1).same n8.same).chg c9 m2).same s9_12) ((((BagL.chg c7 m1 ⟨p, rfl, hp, np⟩).same n8.same).chg c9 m2).same s9_12)
   ·rw [er]
    exact paired_snoc (Paired.mapP pf6 fun _ _ h => (((h.chg c7 m1).same n8.same).chg c9 m2).same s9_12) ((NatL.chg c9 m2 ⟨n8.here, n81⟩).same s9_12)
 ·rintro σ H4 ⟨vt, fs, pp, a5, a6, a7, a8, rfl, s4, h1, h2, go, fp, hpp, pv, pf⟩
  rw [lx] at hpp pv pf
  exact ret s4 fp h1 h2 hpp pv pf
end
end K
namespace K
open PySem L2 Lw Bg
abbrev s_steps_fault : Stmt := top 25
theorem sc_steps_fault : FnScope ["graph", "steps", "tops", "feeds", "pile"] ["graph", "steps"] (defScope s_steps_fault) := ⟨rfl, rfl, rfl, by decide +kernel, rfl, by decide +kernel, by decide +kernel⟩
abbrev s_fault_behind : Stmt := top 28
theorem sc_fault_behind : FnScope ["graph", "steps", "tops", "pile", "v", "a", "b"] ["graph", "steps", "tops", "pile"] (defScope s_fault_behind) := ⟨rfl, rfl, rfl, by decide +kernel, rfl, by decide +kernel, by decide +kernel⟩
inductive SFlt where
 | ok
 | step (k : Nat)
 | pile
 | place (v : Nat)
 | tie (a b : Int)
def laidF (R : RS) : List (List Int) := R.pile.map fun j => R.tops.getD j []
def sfF (n : Nat) (ts : List (Int × Int)) (ss : List Stp) (R : RS) : SFlt :=
 if R.tops.length < ss.length then .step R.tops.length
 else if laidF R = [[]] then
  match (List.range n).find? fun (v : Nat) => !decide (Stp.inn (v : Int) ∈ ss) with
  | some v => .place v
  | none => match ts.find? fun t => !decide (Stp.tie t.1 t.2 ∈ ss) with
   | some t => .tie t.1 t.2
   | none => .ok
 else .pile
def SFltV (H : Hp) (v : V) : SFlt → Prop
 | .ok => v = .non
 | .step k => ∃ p, v = .ref p ∧ H p = some (.tup [.str "step", .int (k : Int)])
 | .pile => ∃ p, v = .ref p ∧ H p = some (.tup [.str "pile"])
 | .place v' => ∃ p, v = .ref p ∧ H p = some (.tup [.str "place", .int (v' : Int)])
 | .tie a b => ∃ p, v = .ref p ∧ H p = some (.tup [.str "tie", .int a, .int b])
def bagD (b : List Int) : PyData := .list (b.map PyData.int)
theorem bag_can (b : List Int) : (bagD b).canLay0 = true := by
 have h := shaped_ints b
 unfold SeqAt.shaped at h
 rw [Bool.and_eq_true] at h
 exact h.1
theorem bag_depth (b : List Int) : (bagD b).depth ≤ 1 := by
 unfold bagD
 rw [PyData.depth]
 have := depth_all (k := 0) (f := PyData.int) (fun b => by simp [PyData.depth]) b
 omega
theorem shaped_bags (bs : List (List Int)) : SeqAt.shaped (.list (bs.map bagD)) = true := by
 unfold SeqAt.shaped
 rw [PyData.canLay0, can_all bag_can, PyData.depth, Bool.true_and]
 exact decide_eq_true (by have := depth_all bag_depth bs; omega)
theorem eqv_bags : ∀ xs ys : List (List Int), PyData.eqvAll (xs.map bagD) (ys.map bagD) = decide (xs = ys)
 | [], [] => by simp [PyData.eqvAll]
 | [], _ :: _ => by simp [PyData.eqvAll]
 | _ :: _, [] => by simp [PyData.eqvAll]
 | x :: xs, y :: ys => by
  rw [List.map_cons, List.map_cons, PyData.eqvAll, eqv_bags xs ys, show PyData.eqv (bagD x) (bagD y) = decide (x = y) from eqv_ints x y, Bool.eq_iff_iff]
  simp
theorem lst_bagD {K : PySem.W.Frag} {H : Hp} {v : V} {s : List Int} (h : LstV K H v s) : IsD K H v (bagD s) := by
 obtain ⟨p, rfl, h⟩ := h
 exact .lst h (IsDs.ints _)
def spFaultB (K : PySem.W.Frag) : Sp := fun vs H Q _ => ∃ (g : V) (n : Nat) (ts : List (Int × Int)) (a pt pp : Addr) (xs vt : List V) (ss : List Stp) (R : RS), vs = [g, .ref a, .ref pt, .ref pp] ∧ GraphV K H g n ts ∧ n ≤ 10 ∧ SqL K H a xs ∧ Paired (StpV K H) xs ss ∧ SqL K H pt vt ∧ Paired (LstV K H) vt R.tops ∧ SqL K H pp (natV R.pile) ∧ (∀ j ∈ R.pile, j < R.tops.length) ∧ R.pile.length ≤ 1000 ∧
 ∀ r H', Same H H' → SFltV H' r (sfF n ts ss R) → Q r H'
section
variable {P : Program} {w : World} {K : PySem.W.Frag} {mg : Str → Option Value} {base : Heap}
set_option maxHeartbeats 8000000 in
theorem ok_fault_behind (B : Bl mg) (d_fault_behind : Dn K mg "fault_behind" s_fault_behind ["graph", "steps", "tops", "pile"]) : FnOk P w K mg base CX0 1 d_fault_behind.f d_fault_behind.fd ["graph", "steps", "tops", "pile"] (spFaultB K) := by
 refine d_fault_behind.F.ok sc_fault_behind (fun vs H Q E h => ?_) (fun cdv A outer s H vs Q E hr h => ?_)
 ·obtain ⟨g, n, ts, a, pt, pp, xs, vt, ss, R, rfl, _⟩ := h
  rfl
 obtain ⟨g, n, ts, a, pt, pp, xs, vt, ss, R, rfl, hG, n10, hA, pA, hV, pV, hPp, jl, l1000, q⟩ := h
 have hu : (A.deeper (PyProof.Rows.envOfC "fault_behind" (defScope s_fault_behind) s.heap.objs.size d_fault_behind.f cdv)).units + 64 < cLine := by have := hr.un; omega
 have hv : (A.deeper (PyProof.Rows.envOfC "fault_behind" (defScope s_fault_behind) s.heap.objs.size d_fault_behind.f cdv)).units + 65 < cLine := by have := hr.un; omega
 obtain ⟨pg, ta, rfl, hP, hT⟩ := id hG
 have lx := Paired.length pA
 have lv := Paired.length pV
 refine ⟨_, (pss_cons (ps_if (pt_cmpR op_lt (pe_callB (call_lenK (K := K) rfl) rfl B.len (by decide +kernel) (pa_cons (pv 2) pa_nil)) (pe_callB (call_lenK (K := K) rfl) rfl B.len (by decide +kernel) (pa_cons (pv 1) pa_nil)) (nomark _))
   (pss_one (ps_ret (pe_tupN (pa_cons pe_str (pa_cons (pe_callB (call_lenK (K := K) rfl) rfl B.len (by decide +kernel) (pa_cons (pv 2) pa_nil)) pa_nil)))))
   pss_nil)
   (pss_cons (ps_if (pt_cmpR (op_neDK (K := K) rfl hu) (pe_lc ["k", "tops"] [none, some 2]  (by kernel_rfl) rfl (pi_listK (K := K) rfl (pv 3)) (fun _ _ _ _ _ => (pg_name (i := 0) (show (["k", "tops"] : List Str).Nodup by decide +kernel) rfl (Or.inl rfl))) (fun _ _ _ _ _ => pts_nil) (fun _ _ _ _ _ => (pe_ix (ix_listK (K := K) rfl) (pv 1) (pv 0) (fun _ _ => rfl)))) (pe_lstN (pa_cons (pe_lstN pa_nil) pa_nil)) (nomark _))
   (pss_one (ps_ret (pe_tupN (pa_cons pe_str pa_nil))))
   pss_nil)
   (pss_cons (ps_for PassesOwn.never rfl (pi_range1 rfl B.range (pa_cons (pe_ix (ix_tupK (K := K) rfl) (pv 0) pe_int (fun _ _ => rfl)) pa_nil)) (pg_name (i := 4) sc_fault_behind.nd rfl (Or.inl rfl))
   (pss_one (ps_if (pt_cmpR (op_notInDK (K := K) rfl hv) (pe_tupN (pa_cons pe_str (pa_cons (pv 4) pa_nil))) (pv 1) (by with_unfolding_all rfl))
   (pss_one (ps_ret (pe_tupN (pa_cons pe_str (pa_cons (pv 4) pa_nil)))))
   pss_nil)))
   (pss_cons (ps_for PassesOwn.never rfl (pi_listK (K := K) rfl (pe_ix (ix_tupK (K := K) rfl) (pv 0) pe_int (fun _ _ => rfl))) (pg_tupK (K := K) (n := 2) rfl rfl (pgs_cons (pg_name (i := 5) sc_fault_behind.nd rfl (Or.inl rfl)) (pgs_cons (pg_name (i := 6) sc_fault_behind.nd rfl (Or.inl rfl)) pgs_nil)))
   (pss_one (ps_if (pt_cmpR (op_notInDK (K := K) rfl hv) (pe_tupN (pa_cons pe_str (pa_cons (pv 5) (pa_cons (pv 6) pa_nil)))) (pv 1) (by with_unfolding_all rfl))
   (pss_one (ps_ret (pe_tupN (pa_cons pe_str (pa_cons (pv 5) (pa_cons (pv 6) pa_nil))))))
   pss_nil)))
   (pss_one (ps_ret pe_non)))))), ?_⟩
 refine ⟨_, rfl, pt, _, rfl, .inl hV, _, rfl, a, _, rfl, .inl hA, _, _, rfl, rfl, _, rfl, ?_⟩
 rw [lv, lx]
 by_cases c1 : R.tops.length < ss.length
 ·rw [decide_eq_true (show ((R.tops.length : Nat) : Int) < ((ss.length : Nat) : Int) by omega)]
  refine iteT ⟨_, rfl, pt, _, rfl, .inl hV, (by show 2 ≤ 1000; decide), fun p1 H1 n1 => q _ H1 n1.same ?_⟩
  unfold sfF
  rw [if_pos c1]
  rw [lv] at n1
  exact ⟨p1, rfl, n1.here⟩
 ·rw [decide_eq_false (show ¬ ((R.tops.length : Nat) : Int) < ((ss.length : Nat) : Int) by omega)]
  refine iteF ?_
  refine ⟨_, rfl, pp, rfl, ⟨_, hPp⟩, ?_⟩
  refine lc_fmN (fun v => match v with | .int z => some (vt.getD z.toNat .non) | _ => none) hPp (by rw [List.length_map]; exact l1000) (fun v H8 N hv8 s8 hN => ?_) (fun H8 p9 H9 s8 n9 => ?_)
  ·obtain ⟨j, hj, rfl⟩ := List.mem_map.mp hv8
   have jv : j < vt.length := by rw [lv]; exact jl j hj
   have hN' := hN H8 s8
   dsimp only at hN'
   rw [Int.toNat_natCast] at hN'
   refine ⟨_, rfl, _, rfl, pt, _, _, _, rfl, rfl, s8.seq hV, atI_nat (List.getElem?_eq_getElem jv), ?_⟩
   rw [List.getD_eq_getElem?_getD, List.getElem?_eq_getElem jv] at hN'
   exact hN'
  have e9 : (natV R.pile).filterMap (fun v => match v with | .int z => some (vt.getD z.toNat .non) | _ => none) = R.pile.map fun j => vt.getD j .non := by
   unfold natV
   rw [List.filterMap_map]
   refine (fm_some fun j _ => ?_)
   show some (vt.getD ((j : Int)).toNat V.non) = _
   rw [Int.toNat_natCast]
  rw [e9] at n9
  have s09 := s8.trans n9.same
  have laid : ∀ l : List Nat, (∀ j ∈ l, j < R.tops.length) → Paired (LstV K H9) (l.map fun j => vt.getD j .non) (l.map fun j => R.tops.getD j []) := fun l => by
   induction l with
   | nil => exact fun _ => .nil
   | cons j r ih =>
    intro h
    have jl := h j List.mem_cons_self
    obtain ⟨x, hx, p, e, hb⟩ := paired_getr pV (List.getElem?_eq_getElem jl)
    refine .cons ?_ (ih fun i hi => h i (List.mem_cons_of_mem _ hi))
    dsimp only
    rw [List.getD_eq_getElem?_getD, hx, List.getD_eq_getElem?_getD, List.getElem?_eq_getElem jl]
    exact ⟨p, e, s09.seq hb⟩
  refine ⟨(by show 0 ≤ 1000; decide), fun p10 H10 n10' => ⟨(by show 1 ≤ 1000; decide), fun p11 H11 n11 => ?_⟩⟩
  have s9_11 := n10'.same.trans n11.same
  refine ⟨.list ((laidF R).map bagD), .list ([[]].map bagD), .lst (SqL.of (s9_11 _ _ n9.here)) (isDs_of (fun _ _ h => lst_bagD h) (Paired.mapP (laid R.pile jl) fun _ _ ⟨p, e, hb⟩ => ⟨p, e, s9_11.seq hb⟩)), .lst (SqL.of n11.here) (.cons (.lst (SqL.of (n11.same _ _ n10'.here)) .nil) .nil), shaped_bags _, shaped_bags [[]], _, rfl, ?_⟩
  rw [if_pos rfl, PyData.eqv, eqv_bags]
  have s11 := s09.trans s9_11
  by_cases c2 : laidF R = [[]]
  ·rw [decide_eq_true c2]
   refine iteF ?_
   refine ⟨_, rfl, pg, _, _, _, rfl, rfl, s11.tupq hP, rfl, _, rfl, by omega, by omega, ?_⟩
   rw [Int.toNat_natCast]
   refine for_range (n := n) (fun i σ H' => (∃ vv : Option V, σ = [some (.ref pg), some (.ref a), some (.ref pt), some (.ref pp), vv, none, none]) ∧ Same H H' ∧ ∀ j, j < i → Stp.inn (j : Int) ∈ ss) ⟨⟨none, rfl⟩, s11, fun j h => absurd h (Nat.not_lt_zero _)⟩ ?_ ?_
   ·rintro i σ H12 hi ⟨⟨vv, rfl⟩, s12, ok⟩
    have ei : (0 : Int) + (i : Int) = (i : Int) := by omega
    rw [ei]
    refine ⟨_, rfl, (by show 2 ≤ 1000; decide), fun p13 H13 n13 => ?_⟩
    have s13 := s12.trans n13.same
    refine ⟨_, rfl, notInStp (s := .inn (i : Int)) (s13.seq hA) (Paired.mapP pA fun _ _ h => StpV.same s13 h) (SqT.of n13.here) ⟨_, rfl, ?_⟩⟩
    by_cases c3 : Stp.inn (i : Int) ∈ ss
    ·rw [decide_eq_true c3]
     refine iteF ⟨⟨_, rfl⟩, s13, fun j hj => ?_⟩
     by_cases e : j = i
     ·rw [e]; exact c3
     ·exact ok j (by omega)
    ·rw [decide_eq_false c3]
     refine iteT ⟨_, rfl, (by show 2 ≤ 1000; decide), fun p14 H14 n14 => q _ H14 (s13.trans n14.same) ?_⟩
     unfold sfF
     have ef : (List.range n).find? (fun (v : Nat) => !decide (Stp.inn (v : Int) ∈ ss)) = some i := List.find?_range_eq_some.mpr ⟨by rw [decide_eq_false c3]; rfl, List.mem_range.mpr hi, fun j hj => by rw [decide_eq_true (ok j hj)]; rfl⟩
     rw [if_neg c1, if_pos c2, ef]
     exact ⟨p14, rfl, n14.here⟩
   ·rintro σ H12 ⟨⟨vv, rfl⟩, s12, ok⟩
    have ef : (List.range n).find? (fun (v : Nat) => !decide (Stp.inn (v : Int) ∈ ss)) = none := List.find?_eq_none.mpr fun j hj => by rw [decide_eq_true (ok j (List.mem_range.mp hj))]; simp
    obtain ⟨txs, htx, ptx, ltx⟩ := id (hT.same s12)
    have ltl := Paired.length ptx
    refine ⟨_, rfl, pg, _, _, _, rfl, rfl, s12.tupq hP, rfl, ta, rfl, ⟨_, htx⟩, ?_⟩
    refine for_list (xs := txs) (fun i σ H' => (∃ va vb : Option V, σ = [some (.ref pg), some (.ref a), some (.ref pt), some (.ref pp), vv, va, vb]) ∧ Same H12 H' ∧ ∀ t ∈ ts.take i, Stp.tie t.1 t.2 ∈ ss) ⟨⟨none, none, rfl⟩, Same.refl _, fun t h => absurd h (by simp)⟩ (fun i σ H' _ ⟨_, s, _⟩ => s.seq htx) ?_ ?_
    ·rintro i x σ H13 hx ⟨⟨va, vb, rfl⟩, s13, ok2⟩
     obtain ⟨t, ht, ⟨px, rfl, hpx⟩⟩ := paired_get ptx hx
     obtain ⟨til, tix⟩ := List.getElem?_eq_some_iff.mp ht
     have et : ts.take (i + 1) = ts.take i ++ [t] := by rw [List.take_succ_eq_append_getElem til, tix]
     refine ⟨px, _, rfl, s13.tupq hpx, rfl, _, _, rfl, _, _, rfl, rfl, ?_⟩
     refine ⟨_, rfl, _, rfl, (by show 3 ≤ 1000; decide), fun p14 H14 n14 => ?_⟩
     have s14 := (s12.trans s13).trans n14.same
     refine ⟨_, rfl, notInStp (s := .tie t.1 t.2) (s14.seq hA) (Paired.mapP pA fun _ _ h => StpV.same s14 h) (SqT.of n14.here) ⟨_, rfl, ?_⟩⟩
     by_cases c3 : Stp.tie t.1 t.2 ∈ ss
     ·rw [decide_eq_true c3]
      refine iteF ⟨⟨_, _, rfl⟩, s13.trans n14.same, fun t' h' => ?_⟩
      rw [et] at h'
      rcases List.mem_append.mp h' with h' | h'
      ·exact ok2 t' h'
      ·rw [List.mem_singleton.mp h']; exact c3
     ·rw [decide_eq_false c3]
      refine iteT ⟨_, rfl, _, rfl, (by show 3 ≤ 1000; decide), fun p15 H15 n15 => q _ H15 (s14.trans n15.same) ?_⟩
      unfold sfF
      have eg : ts.find? (fun t => !decide (Stp.tie t.1 t.2 ∈ ss)) = some t := by
       rw [← List.take_append_drop (i + 1) ts, et, List.append_assoc, List.find?_append, List.find?_eq_none.mpr (fun t' h' => by rw [decide_eq_true (ok2 t' h')]; simp)]
       rw [Option.none_or]
       show List.find? _ (t :: _) = _
       rw [List.find?_cons, decide_eq_false c3]; rfl
      rw [if_neg c1, if_pos c2, ef, eg]
      exact ⟨p15, rfl, n15.here⟩
    ·rintro σ H13 ⟨⟨va, vb, rfl⟩, s13, ok2⟩
     rw [ltl, List.take_length] at ok2
     refine q _ H13 (s12.trans s13) ?_
     unfold sfF
     have eg : ts.find? (fun t => !decide (Stp.tie t.1 t.2 ∈ ss)) = none := List.find?_eq_none.mpr fun t h => by rw [decide_eq_true (ok2 t h)]; simp
     rw [if_neg c1, if_pos c2, ef, eg]
     exact rfl
  ·rw [decide_eq_false c2]
   refine iteT ⟨(by show 1 ≤ 1000; decide), fun p12 H12 n12 => q _ H12 (s11.trans n12.same) ?_⟩
   unfold sfF
   rw [if_neg c1, if_neg c2]
   exact ⟨p12, rfl, n12.here⟩
def spSF (K : PySem.W.Frag) : Sp := fun vs H Q _ => ∃ (g : V) (n : Nat) (ts : List (Int × Int)) (a : Addr) (xs : List V) (ss : List Stp), vs = [g, .ref a] ∧ GraphV K H g n ts ∧ n ≤ 10 ∧ SqL K H a xs ∧ Paired (StpV K H) xs ss ∧ ss.length ≤ 900 ∧
 ∀ r H', Same H H' → SFltV H' r (sfF n ts ss (endR n ts ss)) → Q r H'
theorem end_inv {n : Nat} {ts : List (Int × Int)} {ss : List Stp} (n10 : n ≤ 10) : ∃ i, i ≤ ss.length ∧ RunI i (endR n ts ss) ∧ (i = ss.length ∨ i < ss.length) := by
 have h : ∀ m, m ≤ ss.length → ∃ i, i ≤ m ∧ RunI i (runR n ts ss m).1 := fun m => by
  induction m with
  | zero => exact fun _ => ⟨0, Nat.le_refl _, run_inv n10 rfl⟩
  | succ m ih =>
   intro hm
   by_cases c : (runR n ts ss (m + 1)).2 = true
   ·exact ⟨m + 1, Nat.le_refl _, run_inv n10 c⟩
   ·obtain ⟨i, hi, I⟩ := ih (by omega)
    refine ⟨i, by omega, ?_⟩
    have e : (runR n ts ss (m + 1)).1 = (runR n ts ss m).1 := by
     have e : runR n ts ss (m + 1) = if (runR n ts ss m).2 = true then
      (match stepR n ts ss m (runR n ts ss m).1 with
      | some r => (r, true)
      | none => ((runR n ts ss m).1, false))
     else ((runR n ts ss m).1, false) := rfl
     rw [e] at c ⊢
     by_cases d : (runR n ts ss m).2 = true
     ·rw [if_pos d] at c ⊢
      cases z : stepR n ts ss m (runR n ts ss m).1 with
      | none => rfl
      | some r => rw [z] at c; exact absurd rfl c
     ·rw [if_neg d]
    rw [e]; exact I
 obtain ⟨i, hi, I⟩ := h ss.length (Nat.le_refl _)
 exact ⟨i, hi, I, by omega⟩
set_option maxHeartbeats 8000000 in
theorem ok_steps_fault (B : Bl mg) (U : Used w K mg) (d_is_whole : Dn K mg "is_whole" s_is_whole ["thing"]) (d_is_below : Dn K mg "is_below" s_is_below ["n", "thing"]) (d_joint : Dn K mg "joint" s_joint ["one", "other"]) (d_less : Dn K mg "less" s_less ["one", "other"]) (d_bag_behind : Dn K mg "bag_behind" s_bag_behind ["graph", "done", "step", "used"]) (d_run : Dn K mg "run" s_run ["graph", "steps"]) (d_fault_behind : Dn K mg "fault_behind" s_fault_behind ["graph", "steps", "tops", "pile"]) (d_steps_fault : Dn K mg "steps_fault" s_steps_fault ["graph", "steps"]) : FnOk P w K mg base CX0 5 d_steps_fault.f d_steps_fault.fd ["graph", "steps"] (spSF K) := by
 have G_run : FnOk P w K mg base CX0 4 _ _ _ _ := ok_run B U d_is_whole d_is_below d_joint d_less d_bag_behind d_run
 have G_fault_behind : FnOk P w K mg base CX0 4 _ _ _ _ := (ok_fault_behind B d_fault_behind).mono (by decide)
 refine d_steps_fault.F.ok sc_steps_fault (fun vs H Q E h => ?_) (fun cdv A outer s H vs Q E hr h => ?_)
 ·obtain ⟨g, n, ts, a, xs, ss, rfl, _⟩ := h
  rfl
 obtain ⟨g, n, ts, a, xs, ss, rfl, hG, n10, hA, pA, l900, q⟩ := h
 refine ⟨_, (pss_cons (ps_asg (pe_call G_run hr rfl d_run.m d_run.F.kp d_run.b .nil pass0 (pa_cons (pv 0) (pa_cons (pv 1) pa_nil))) (pg_tupK (K := K) (n := 3) rfl rfl (pgs_cons (pg_name (i := 2) sc_steps_fault.nd rfl (Or.inl rfl)) (pgs_cons (pg_name (i := 3) sc_steps_fault.nd rfl (Or.inl rfl)) (pgs_cons (pg_name (i := 4) sc_steps_fault.nd rfl (Or.inl rfl)) pgs_nil)))))
   (pss_one (ps_ret (pe_call G_fault_behind hr rfl d_fault_behind.m d_fault_behind.F.kp d_fault_behind.b .nil pass0 (pa_cons (pv 0) (pa_cons (pv 1) (pa_cons (pv 2) (pa_cons (pv 4) pa_nil)))))))), ?_⟩
 obtain ⟨i, il, I, _⟩ := end_inv (n := n) (ts := ts) (ss := ss) n10
 have pl := I.pl
 refine ⟨_, rfl, _, rfl, g, n, ts, a, xs, ss, rfl, hG, n10, hA, pA, l900, fun r pt pf pp vt fs H1 s1 hr1 _ _ _ ht hf hp pv pf' => ?_⟩
 refine ⟨r, _, rfl, SqT.of hr1, rfl, _, _, rfl, _, _, rfl, _, _, rfl, rfl, ?_⟩
 refine ⟨_, rfl, _, rfl, _, rfl, _, rfl, g, n, ts, a, pt, pp, xs, vt, ss, endR n ts ss, rfl, hG.same s1, n10, s1.seq hA, Paired.mapP pA fun _ _ h => h.same s1, SqL.of ht, Paired.mapP pv fun _ _ h => h.l, SqL.of hp.1, fun j hj => ?_, by omega, fun v H2 s2 fv => q v H2 (s1.trans s2) fv⟩
 rw [I.tl]
 exact I.lt j hj
end
end K
namespace K
open PySem L2 Lw Bg
theorem getD_at {ss : List Stp} {i : Nat} {s : Stp} (h : ss[i]? = some s) : ss.getD i .leaf = s := by
 rw [List.getD_eq_getElem?_getD, h]; rfl
theorem take_at {ss : List Stp} {i : Nat} {s : Stp} (h : ss[i]? = some s) : ss.take (i + 1) = ss.take i ++ [s] := by
 obtain ⟨il, e⟩ := List.getElem?_eq_some_iff.mp h
 rw [List.take_succ_eq_append_getElem il, e]
structure Kp where
 P : List (List Int)
 G : List Int
 B : List (Int × Int)
def Kp.top (κ : Kp) : List Int := κ.P.getLastD []
def Can (n : Nat) (ts : List (Int × Int)) (κ : Kp) : Stp → Prop
 | .leaf => True
 | .inn v => κ.P ≠ [] ∧ (0 ≤ v ∧ v < (n : Int)) ∧ v ∉ κ.top ∧ v ∉ κ.G
 | .tie a b => κ.P ≠ [] ∧ (a, b) ∈ ts ∧ (a, b) ∉ κ.B ∧ a ∈ κ.top ∧ b ∈ κ.top
 | .out v => κ.P ≠ [] ∧ v ∈ κ.top ∧ v ∉ κ.G
 | .join => 1 < κ.P.length ∧ κ.top.Perm (κ.P.getD (κ.P.length - 2) [])
def doF (κ : Kp) : Stp → Kp
 | .leaf => { κ with P := κ.P ++ [[]] }
 | .inn v => { κ with P := κ.P.dropLast ++ [κ.top ++ [v]] }
 | .tie a b => { κ with B := κ.B ++ [(a, b)] }
 | .out v => { κ with P := κ.P.dropLast ++ [κ.top.erase v], G := κ.G ++ [v] }
 | .join => { κ with P := κ.P.dropLast }
structure KOk (n c : Nat) (κ : Kp) : Prop where
 nd : ∀ b ∈ κ.P, b.Nodup ∧ ∀ v ∈ b, 0 ≤ v ∧ v < (n : Int)
 pl : κ.P.length ≤ c
 gl : κ.G.length ≤ c
 bl : κ.B.length ≤ c
theorem top_split {P : List (List Int)} (h : P ≠ []) : P = P.dropLast ++ [P.getLastD []] := by
 have e := (List.dropLast_concat_getLast h).symm
 have : P.getLastD [] = P.getLast h := by
  cases P with
  | nil => exact absurd rfl h
  | cons a r => exact List.getLastD_eq_getLast?.trans (by rw [List.getLast?_eq_some_getLast (by simp)]; rfl)
 rw [this]
 exact e
theorem KOk.topk {n c : Nat} {κ : Kp} (h : KOk n c κ) : κ.top.Nodup ∧ ∀ v ∈ κ.top, 0 ≤ v ∧ v < (n : Int) := by
 by_cases e : κ.P = []
 ·unfold Kp.top
  rw [e]
  exact ⟨.nil, fun v hv => absurd hv List.not_mem_nil⟩
 ·refine h.nd _ ?_
  have : κ.P.getLastD [] ∈ κ.P.dropLast ++ [κ.P.getLastD []] := List.mem_append_right _ List.mem_cons_self
  rwa [← top_split e] at this
theorem KOk.do {n c : Nat} {ts : List (Int × Int)} {κ : Kp} {s : Stp} (h : KOk n c κ) (hc : Can n ts κ s) : KOk n (c + 1) (doF κ s) := by
 have dl : ∀ b ∈ κ.P.dropLast, b.Nodup ∧ ∀ v ∈ b, 0 ≤ v ∧ v < (n : Int) := fun b hb => h.nd b ((List.dropLast_sublist _).subset hb)
 have l1 : κ.P.dropLast.length ≤ c := by rw [List.length_dropLast]; have := h.pl; omega
 have h1 := h.pl
 have h2 := h.gl
 have h3 := h.bl
 have cat : ∀ b : List Int, b.Nodup → (∀ v ∈ b, 0 ≤ v ∧ v < (n : Int)) → ∀ x ∈ κ.P.dropLast ++ [b], x.Nodup ∧ ∀ v ∈ x, 0 ≤ v ∧ v < (n : Int) := fun b hb hv x hx => by
  rcases List.mem_append.mp hx with hx | hx
  ·exact dl x hx
  ·rw [List.mem_singleton.mp hx]; exact ⟨hb, hv⟩
 cases s with
 | leaf =>
  refine ⟨fun b hb => ?_, by show (κ.P ++ [[]]).length ≤ _; rw [List.length_append]; show κ.P.length + 1 ≤ _; omega, by show κ.G.length ≤ _; omega, by show κ.B.length ≤ _; omega⟩
  rcases List.mem_append.mp hb with hb | hb
  ·exact h.nd b hb
  ·rw [List.mem_singleton.mp hb]; exact ⟨.nil, fun v hv => absurd hv List.not_mem_nil⟩
 | inn v =>
  obtain ⟨_, hv, hn, _⟩ := hc
  refine ⟨cat _ ?_ ?_, by show (κ.P.dropLast ++ [_]).length ≤ _; rw [List.length_append]; show κ.P.dropLast.length + 1 ≤ _; omega, by show κ.G.length ≤ _; omega, by show κ.B.length ≤ _; omega⟩
  ·rw [List.nodup_append]
   refine ⟨h.topk.1, by simp, fun a ha b hb e => ?_⟩
   rw [List.mem_singleton] at hb
   subst hb
   subst e
   exact hn ha
  ·intro x hx
   rcases List.mem_append.mp hx with hx | hx
   ·exact h.topk.2 x hx
   ·rw [List.mem_singleton.mp hx]; exact hv
 | tie a b => exact ⟨h.nd, by show κ.P.length ≤ _; omega, by show κ.G.length ≤ _; omega, by show (κ.B ++ [_]).length ≤ _; rw [List.length_append]; show κ.B.length + 1 ≤ _; omega⟩
 | out v =>
  refine ⟨cat _ (h.topk.1.erase v) (fun x hx => h.topk.2 x (List.mem_of_mem_erase hx)), by show (κ.P.dropLast ++ [_]).length ≤ _; rw [List.length_append]; show κ.P.dropLast.length + 1 ≤ _; omega, by show (κ.G ++ [v]).length ≤ _; rw [List.length_append]; show κ.G.length + 1 ≤ _; omega, by show κ.B.length ≤ _; omega⟩
 | join => exact ⟨dl, by show κ.P.dropLast.length ≤ _; omega, by show κ.G.length ≤ _; omega, by show κ.B.length ≤ _; omega⟩
theorem bag10 {n : Nat} {b : List Int} (n10 : n ≤ 10) (nd : b.Nodup) (bd : ∀ v ∈ b, 0 ≤ v ∧ v < (n : Int)) : b.length ≤ 10 := by
 have h1 : (b.map Int.toNat).Nodup := by
  unfold List.Nodup
  rw [List.pairwise_map]
  refine (List.pairwise_iff_forall_sublist.mpr fun {x y} hs => ?_)
  have hx := bd x (hs.subset (by simp))
  have hy := bd y (hs.subset (by simp))
  have : x ≠ y := List.pairwise_iff_forall_sublist.mp nd hs
  omega
 have h2 := nodup_le (m := n) h1 fun x hx => by
  obtain ⟨v, hv, rfl⟩ := List.mem_map.mp hx
  have := bd v hv
  omega
 rw [List.length_map] at h2
 omega
theorem paired_unsnoc {α β : Type} {R : α → β → Prop} : ∀ {xs : List α} {ys : List β} {y : β}, Paired R xs (ys ++ [y]) → ∃ xs' x, xs = xs' ++ [x] ∧ Paired R xs' ys ∧ R x y
 | [], ys, y, h => by
  have := Paired.length h
  rw [List.length_append] at this
  exact absurd this (by show ¬ 0 = ys.length + 1; omega)
 | x :: r, [], y, h => by
  cases h with
  | cons h1 h2 =>
   cases h2
   exact ⟨[], x, rfl, .nil, h1⟩
 | x :: r, z :: ys, y, h => by
  cases h with
  | cons h1 h2 =>
   obtain ⟨xs', x', e, p, q⟩ := paired_unsnoc h2
   exact ⟨x :: xs', x', by rw [e]; rfl, .cons h1 p, q⟩
structure SimI (n : Nat) (ts : List (Int × Int)) (ss : List Stp) (i : Nat) (κ : Kp) (E : List Int) : Prop where
 go : (runR n ts ss i).2 = true
 rel : Paired (fun j b => ∀ v, v ∈ (runR n ts ss i).1.tops.getD j [] ↔ v ∈ b) (runR n ts ss i).1.pile κ.P
 asc : ∀ b ∈ (runR n ts ss i).1.tops, b.Pairwise (· < ·)
 outs : ∀ v, Stp.out v ∈ ss.take i ↔ v ∈ κ.G
 ties : ∀ a b, Stp.tie a b ∈ ss.take i ↔ (a, b) ∈ κ.B
 ins : ∀ v, Stp.inn v ∈ ss.take i ↔ v ∈ E
 ok : KOk n i κ
theorem sim_0 {n : Nat} {ts : List (Int × Int)} {ss : List Stp} : SimI n ts ss 0 ⟨[], [], []⟩ [] :=
 ⟨rfl, .nil, fun b h => absurd h List.not_mem_nil, fun v => by simp, fun a b => by simp, fun v => by simp, ⟨fun b h => absurd h List.not_mem_nil, Nat.le_refl _, Nat.le_refl _, Nat.le_refl _⟩⟩
theorem upF_asc (p : Int → Bool) : (upF p).Pairwise (· < ·) := by
 unfold upF
 refine List.Pairwise.filter _ ?_
 rw [List.pairwise_map]
 exact List.pairwise_lt_range.imp fun h => by omega
theorem asc_ext : ∀ {xs ys : List Int}, xs.Pairwise (· < ·) → ys.Pairwise (· < ·) → (∀ v, v ∈ xs ↔ v ∈ ys) → xs = ys
 | [], [], _, _, _ => rfl
 | [], y :: ys, _, _, h => absurd ((h y).mpr List.mem_cons_self) List.not_mem_nil
 | x :: xs, [], _, _, h => absurd ((h x).mp List.mem_cons_self) List.not_mem_nil
 | x :: xs, y :: ys, hx, hy, h => by
  rw [List.pairwise_cons] at hx hy
  have e : x = y := by
   rcases List.mem_cons.mp ((h x).mp List.mem_cons_self) with h1 | h1
   ·exact h1
   ·rcases List.mem_cons.mp ((h y).mpr List.mem_cons_self) with h2 | h2
    ·exact h2.symm
    ·have a := hy.1 x h1
     have b := hx.1 y h2
     omega
  subst e
  rw [asc_ext hx.2 hy.2 fun v => ⟨fun hv => ?_, fun hv => ?_⟩]
  ·rcases List.mem_cons.mp ((h v).mp (List.mem_cons_of_mem _ hv)) with h1 | h1
   ·exact absurd (hx.1 v hv) (by omega)
   ·exact h1
  ·rcases List.mem_cons.mp ((h v).mpr (List.mem_cons_of_mem _ hv)) with h1 | h1
   ·exact absurd (hy.1 v hv) (by omega)
   ·exact h1
theorem sim_put {n : Nat} {ts : List (Int × Int)} {ss : List Stp} {i : Nat} {κ κ' : Kp} {E E' : List Int} {s : Stp} {b : List Int} {pl0 : List Nat} (n10 : n ≤ 10) (D : SimI n ts ss i κ E) (h : ss[i]? = some s) (hn : s.need ≤ (runR n ts ss i).1.pile.length) (hl : (runR n ts ss i).1.pile.take (leftR s (runR n ts ss i).1) = pl0)
  (hb : bagF n ts (ss.take i) s (usedR s (runR n ts ss i).1) = some b) (as : b.Pairwise (· < ·))
  (rel : Paired (fun j b => ∀ v, v ∈ (runR n ts ss i).1.tops.getD j [] ↔ v ∈ b) pl0 κ'.P.dropLast) (ne : κ'.P ≠ []) (mb : ∀ v, v ∈ b ↔ v ∈ κ'.top)
  (mo : ∀ v, Stp.out v ∈ ss.take (i + 1) ↔ v ∈ κ'.G) (mt : ∀ x y, Stp.tie x y ∈ ss.take (i + 1) ↔ (x, y) ∈ κ'.B) (mi : ∀ v, Stp.inn v ∈ ss.take (i + 1) ↔ v ∈ E') (ok : KOk n (i + 1) κ') : SimI n ts ss (i + 1) κ' E' := by
 have d : stepR n ts ss i (runR n ts ss i).1 = some ⟨(runR n ts ss i).1.tops ++ [b], (runR n ts ss i).1.feeds ++ [(runR n ts ss i).1.pile.drop (leftR s (runR n ts ss i).1)], pl0 ++ [i]⟩ := by
  unfold stepR
  rw [getD_at h, if_pos hn, hb, hl]
  rfl
 have e := run_go D.go d
 have I := run_inv n10 D.go
 have tl := I.tl
 refine ⟨by rw [e], ?_, ?_, mo, mt, mi, ok⟩
 ·rw [e, top_split ne]
  refine paired_snoc ?_ ?_
  ·have lt : ∀ j ∈ pl0, j < i := fun j hj => I.lt j (List.mem_of_mem_take (hl ▸ hj))
   have : ∀ {xs : List Nat} {ys : List (List Int)}, (∀ j ∈ xs, j < i) → Paired (fun j b => ∀ v, v ∈ (runR n ts ss i).1.tops.getD j [] ↔ v ∈ b) xs ys → Paired (fun j b' => ∀ v, v ∈ ((runR n ts ss i).1.tops ++ [b]).getD j [] ↔ v ∈ b') xs ys := fun {xs} => by
    induction xs with
    | nil => intro ys _ h; cases h; exact .nil
    | cons x r ih =>
     intro ys hx h
     cases h with
     | cons h1 h2 =>
      refine .cons (fun v => ?_) (ih (fun j hj => hx j (List.mem_cons_of_mem _ hj)) h2)
      rw [List.getD_eq_getElem?_getD, List.getElem?_append_left (by rw [tl]; exact hx x List.mem_cons_self), ← List.getD_eq_getElem?_getD]
      exact h1 v
   exact this lt rel
  ·intro v
   show v ∈ ((runR n ts ss i).1.tops ++ [b]).getD i [] ↔ _
   rw [List.getD_eq_getElem?_getD, List.getElem?_append_right (by omega), tl, Nat.sub_self]
   exact mb v
 ·rw [e]
  intro x hx
  rcases List.mem_append.mp hx with hx | hx
  ·exact D.asc x hx
  ·rw [List.mem_singleton.mp hx]; exact as
theorem sim_top {n : Nat} {ts : List (Int × Int)} {ss : List Stp} {i : Nat} {κ : Kp} {E : List Int} (n10 : n ≤ 10) (D : SimI n ts ss i κ E) (ne : κ.P ≠ []) : ∃ pl0 j, (runR n ts ss i).1.pile = pl0 ++ [j] ∧ Paired (fun j b => ∀ v, v ∈ (runR n ts ss i).1.tops.getD j [] ↔ v ∈ b) pl0 κ.P.dropLast ∧ (∀ v, v ∈ (runR n ts ss i).1.tops.getD j [] ↔ v ∈ κ.top) ∧ ((runR n ts ss i).1.tops.getD j []).Pairwise (· < ·) := by
 have r := D.rel
 rw [top_split ne] at r
 obtain ⟨pl0, j, e, p, q⟩ := paired_unsnoc r
 refine ⟨pl0, j, e, p, q, ?_⟩
 have I := run_inv n10 D.go
 have jl : j < (runR n ts ss i).1.tops.length := by rw [I.tl]; exact I.lt j (by rw [e]; simp)
 rw [List.getD_eq_getElem?_getD, List.getElem?_eq_getElem jl]
 exact D.asc _ (List.getElem_mem jl)
theorem used_one {s : Stp} {r : RS} {pl0 : List Nat} {j : Nat} (h1 : s.need = 1) (e : r.pile = pl0 ++ [j]) : s.need ≤ r.pile.length ∧ r.pile.take (leftR s r) = pl0 ∧ usedR s r = [r.tops.getD j []] := by
 have el : leftR s r = pl0.length := by unfold leftR; rw [e, h1, List.length_append]; show pl0.length + 1 - 1 = _; omega
 refine ⟨by rw [h1, e, List.length_append]; show 1 ≤ pl0.length + 1; omega, by rw [el, e, List.take_left], ?_⟩
 unfold usedR
 rw [el, e, List.drop_left]
 rfl
theorem last_mem {P : List (List Int)} (h : P ≠ []) : P.getLastD [] ∈ P := by
 have : P.getLastD [] ∈ P.dropLast ++ [P.getLastD []] := List.mem_append_right _ List.mem_cons_self
 rwa [← top_split h] at this
theorem getD_snd {P : List (List Int)} (l2 : 1 < P.length) : P.getD (P.length - 2) [] = P.dropLast.getLastD [] := by
 rw [List.getLastD_eq_getLast?, List.getLast?_eq_getElem?, List.getElem?_dropLast, List.length_dropLast, if_pos (by omega), List.getD_eq_getElem?_getD]
 rfl
theorem join_split {n : Nat} {ts : List (Int × Int)} {ss : List Stp} {i : Nat} {κ : Kp} {E : List Int} (n10 : n ≤ 10) (D : SimI n ts ss i κ E) (l2 : 1 < κ.P.length) : ∃ pl0 j1 j2, (runR n ts ss i).1.pile = pl0 ++ [j1, j2] ∧ Stp.join.need ≤ (runR n ts ss i).1.pile.length ∧ (runR n ts ss i).1.pile.take (leftR .join (runR n ts ss i).1) = pl0 ∧ usedR .join (runR n ts ss i).1 = [(runR n ts ss i).1.tops.getD j1 [], (runR n ts ss i).1.tops.getD j2 []] ∧ Paired (fun j b => ∀ v, v ∈ (runR n ts ss i).1.tops.getD j [] ↔ v ∈ b) pl0 κ.P.dropLast.dropLast ∧ (∀ v, v ∈ (runR n ts ss i).1.tops.getD j1 [] ↔ v ∈ κ.P.dropLast.getLastD []) ∧ (∀ v, v ∈ (runR n ts ss i).1.tops.getD j2 [] ↔ v ∈ κ.top) ∧ ((runR n ts ss i).1.tops.getD j1 []).Pairwise (· < ·) ∧ ((runR n ts ss i).1.tops.getD j2 []).Pairwise (· < ·) ∧ κ.P.dropLast ≠ [] ∧ κ.P.getD (κ.P.length - 2) [] = κ.P.dropLast.getLastD [] := by
 have ne : κ.P ≠ [] := fun z => by rw [z] at l2; exact absurd l2 (by decide)
 have ne2 : κ.P.dropLast ≠ [] := fun z => by
  have := List.length_dropLast (xs := κ.P)
  rw [z] at this
  exact absurd this (by show ¬ 0 = κ.P.length - 1; omega)
 obtain ⟨pl1, j2, e, p, q, as2⟩ := sim_top n10 D ne
 have I := run_inv n10 D.go
 rw [top_split ne2] at p
 obtain ⟨pl0, j1, rfl, p0, q0⟩ := paired_unsnoc p
 have e' : (runR n ts ss i).1.pile = pl0 ++ [j1, j2] := by rw [e, List.append_assoc]; rfl
 have el : leftR .join (runR n ts ss i).1 = pl0.length := by unfold leftR; rw [e', List.length_append]; show pl0.length + 2 - 2 = _; omega
 have jl : j1 < (runR n ts ss i).1.tops.length := by rw [I.tl]; exact I.lt j1 (by rw [e']; simp)
 refine ⟨pl0, j1, j2, e', by rw [e', List.length_append]; show 2 ≤ pl0.length + 2; omega, by rw [el, e', List.take_left], ?_, p0, q0, q, ?_, as2, ne2, ?_⟩
 ·unfold usedR
  rw [el, e', List.drop_left]
  rfl
 ·rw [List.getD_eq_getElem?_getD, List.getElem?_eq_getElem jl]
  exact D.asc _ (List.getElem_mem jl)
 ·exact getD_snd l2
theorem sim_go {n : Nat} {ts : List (Int × Int)} {ss : List Stp} {i : Nat} {κ : Kp} {E : List Int} {s : Stp} (n10 : n ≤ 10) (D : SimI n ts ss i κ E) (h : ss[i]? = some s) (c : Can n ts κ s) : ∃ E', (E' = match s with | .inn v => E ++ [v] | _ => E) ∧ SimI n ts ss (i + 1) (doF κ s) E' := by
 have tk := take_at h
 have ok := D.ok.do c
 have mo : ∀ v, Stp.out v ∈ ss.take (i + 1) ↔ v ∈ κ.G ∨ s = .out v := fun v => by rw [tk, List.mem_append, D.outs, List.mem_singleton, eq_comm]
 have mt : ∀ a b, Stp.tie a b ∈ ss.take (i + 1) ↔ (a, b) ∈ κ.B ∨ s = .tie a b := fun a b => by rw [tk, List.mem_append, D.ties, List.mem_singleton, eq_comm]
 have mi : ∀ v, Stp.inn v ∈ ss.take (i + 1) ↔ v ∈ E ∨ s = .inn v := fun v => by rw [tk, List.mem_append, D.ins, List.mem_singleton, eq_comm]
 have dl : ∀ b : List Int, (κ.P.dropLast ++ [b]).dropLast = κ.P.dropLast := fun b => List.dropLast_concat
 have gl : ∀ (P : List (List Int)) (b : List Int), (P ++ [b]).getLastD [] = b := fun P b => by rw [List.getLastD_eq_getLast?, List.getLast?_concat]; rfl
 have ne : ∀ (P : List (List Int)) (b : List Int), P ++ [b] ≠ [] := fun P b z => by simp at z
 cases s with
 | leaf =>
  refine ⟨E, rfl, sim_put n10 D h (pl0 := (runR n ts ss i).1.pile) (b := []) (Nat.zero_le _) ?_ rfl .nil ?_ (ne _ _) ?_ ?_ ?_ ?_ ok⟩
  ·show List.take ((runR n ts ss i).1.pile.length - 0) _ = _
   rw [Nat.sub_zero, List.take_length]
  ·show Paired _ _ (κ.P ++ [[]]).dropLast
   rw [List.dropLast_concat]
   exact D.rel
  ·intro v
   show _ ↔ v ∈ (κ.P ++ [[]]).getLastD []
   rw [gl]
  ·intro v; rw [mo]; simp [doF]
  ·intro a b; rw [mt]; simp [doF]
  ·intro v; rw [mi]; simp
 | inn v =>
  obtain ⟨hP, hv, hn, hg⟩ := c
  obtain ⟨pl0, j, e, p, q, as⟩ := sim_top n10 D hP
  obtain ⟨u1, u2, u3⟩ := used_one (s := .inn v) rfl e
  refine ⟨E ++ [v], rfl, sim_put n10 D h (pl0 := pl0) (b := jointF ((runR n ts ss i).1.tops.getD j []) [v]) u1 u2 ?_ (upF_asc _) ?_ (ne _ _) ?_ ?_ ?_ ?_ ok⟩
  ·rw [u3]
   unfold bagF
   dsimp only
   rw [if_pos ⟨hv, fun z => hn ((q v).mp z), fun z => hg ((D.outs v).mp z)⟩]
   rfl
  ·show Paired _ _ (κ.P.dropLast ++ [_]).dropLast
   rw [dl]
   exact p
  ·intro x
   show _ ↔ x ∈ (κ.P.dropLast ++ [κ.top ++ [v]]).getLastD []
   rw [gl]
   unfold jointF
   rw [mem_upF, decide_eq_true_iff, q, List.mem_append]
   constructor
   ·exact fun z => z.2.2
   ·intro z
    have bd := D.ok.topk.2
    refine ⟨?_, ?_, z⟩
    ·rcases z with z | z
     ·exact (bd x z).1
     ·rw [List.mem_singleton.mp z]; exact hv.1
    ·rcases z with z | z
     ·have := (bd x z).2; omega
     ·rw [List.mem_singleton.mp z]; have := hv.2; omega
  ·intro x; rw [mo]; simp [doF]
  ·intro a b; rw [mt]; simp [doF]
  ·intro x; rw [mi]; simp [eq_comm]
 | tie x y =>
  obtain ⟨hP, ht, hb, h1, h2⟩ := c
  obtain ⟨pl0, j, e, p, q, as⟩ := sim_top n10 D hP
  obtain ⟨u1, u2, u3⟩ := used_one (s := .tie x y) rfl e
  refine ⟨E, rfl, sim_put n10 D h (pl0 := pl0) (b := (runR n ts ss i).1.tops.getD j []) u1 u2 ?_ as p hP q ?_ ?_ ?_ ok⟩
  ·rw [u3]
   unfold bagF
   dsimp only
   rw [if_pos]
   ·rfl
   ·refine ⟨ht, ?_, fun z => hb ((D.ties x y).mp z)⟩
    unfold lessF
    rw [List.filter_eq_nil_iff]
    intro v hv
    have : v ∈ (runR n ts ss i).1.tops.getD j [] := by
     rcases List.mem_cons.mp hv with rfl | hv
     ·exact (q _).mpr h1
     ·rw [List.mem_singleton.mp hv]; exact (q _).mpr h2
    simpa using this
  ·intro v; rw [mo]; simp [doF]
  ·intro a b; rw [mt]; simp [doF, eq_comm]
  ·intro v; rw [mi]; simp
 | out v =>
  obtain ⟨hP, hv, hg⟩ := c
  obtain ⟨pl0, j, e, p, q, as⟩ := sim_top n10 D hP
  obtain ⟨u1, u2, u3⟩ := used_one (s := .out v) rfl e
  refine ⟨E, rfl, sim_put n10 D h (pl0 := pl0) (b := lessF ((runR n ts ss i).1.tops.getD j []) [v]) u1 u2 ?_ (List.Pairwise.filter _ as) ?_ (ne _ _) ?_ ?_ ?_ ?_ ok⟩
  ·rw [u3]
   unfold bagF
   dsimp only
   rw [if_pos ⟨(q v).mpr hv, fun z => hg ((D.outs v).mp z)⟩]
   rfl
  ·show Paired _ _ (κ.P.dropLast ++ [_]).dropLast
   rw [dl]
   exact p
  ·intro x
   show _ ↔ x ∈ (κ.P.dropLast ++ [κ.top.erase v]).getLastD []
   rw [gl, D.ok.topk.1.mem_erase_iff]
   unfold lessF
   rw [List.mem_filter, q]
   simp [and_comm]
  ·intro x; rw [mo]; simp [doF, eq_comm]
  ·intro a b; rw [mt]; simp [doF]
  ·intro x; rw [mi]; simp
 | join =>
  obtain ⟨l2, pm⟩ := c
  obtain ⟨pl0, j1, j2, e, u1, u2, u3, p, q1, q2, as1, as2, ne2, eg⟩ := join_split n10 D l2
  have eb : (runR n ts ss i).1.tops.getD j1 [] = (runR n ts ss i).1.tops.getD j2 [] := asc_ext as1 as2 fun v => by
   rw [q1, q2, ← eg]
   exact (pm.mem_iff).symm
  refine ⟨E, rfl, sim_put n10 D h (pl0 := pl0) (b := (runR n ts ss i).1.tops.getD j1 []) u1 u2 ?_ as1 p ne2 q1 ?_ ?_ ?_ ok⟩
  ·rw [u3]
   unfold bagF
   dsimp only
   rw [if_pos]
   ·rfl
   ·exact eb
  ·intro v; rw [mo]; simp [doF]
  ·intro a b; rw [mt]; simp [doF]
  ·intro v; rw [mi]; simp
theorem sim_end {n : Nat} {ts : List (Int × Int)} {ss : List Stp} {κ : Kp} {E : List Int} (n10 : n ≤ 10) (D : SimI n ts ss ss.length κ E) : (κ.P ≠ [[]] → sfF n ts ss (endR n ts ss) = .pile) ∧ (κ.P = [[]] → ∀ v : Nat, v < n → (∀ j : Nat, j < v → (j : Int) ∈ E) → (v : Int) ∉ E → sfF n ts ss (endR n ts ss) = .place v) ∧ (κ.P = [[]] → (∀ j : Nat, j < n → (j : Int) ∈ E) → sfF n ts ss (endR n ts ss) = match ts.find? fun t => !decide (t ∈ κ.B) with | some t => .tie t.1 t.2 | none => .ok) := by
 have I := run_inv n10 D.go
 have l1 : ¬ (endR n ts ss).tops.length < ss.length := by unfold endR; rw [I.tl]; omega
 have l2 : laidF (endR n ts ss) = [[]] ↔ κ.P = [[]] := by
  have r := D.rel
  unfold laidF endR
  generalize (runR n ts ss ss.length).1.pile = pl at *
  generalize (runR n ts ss ss.length).1.tops = tp at *
  generalize κ.P = P at *
  cases r with
  | nil => simp
  | @cons x b xs bs h1 h2 =>
   have e : tp.getD x [] = [] ↔ b = [] := by
    rw [List.eq_nil_iff_forall_not_mem, List.eq_nil_iff_forall_not_mem]
    exact ⟨fun h v hv => h v ((h1 v).mpr hv), fun h v hv => h v ((h1 v).mp hv)⟩
   cases h2 with
   | nil =>
    show [_] = [[]] ↔ [_] = [[]]
    rw [List.cons.injEq, List.cons.injEq, e]
   | cons h3 h4 =>
    constructor
    ·intro z; simp at z
    ·intro z; simp at z
 have ins : ∀ v, Stp.inn v ∈ ss ↔ v ∈ E := fun v => by have := D.ins v; rwa [List.take_length] at this
 have tis : ∀ a b, Stp.tie a b ∈ ss ↔ (a, b) ∈ κ.B := fun a b => by have := D.ties a b; rwa [List.take_length] at this
 refine ⟨fun h => ?_, fun h v hv ok no => ?_, fun h ok => ?_⟩
 ·unfold sfF
  rw [if_neg l1, if_neg (fun z => h (l2.mp z))]
 ·have ef : (List.range n).find? (fun (v : Nat) => !decide (Stp.inn (v : Int) ∈ ss)) = some v := List.find?_range_eq_some.mpr ⟨by rw [decide_eq_false (fun z => no ((ins _).mp z))]; rfl, List.mem_range.mpr hv, fun j hj => by rw [decide_eq_true ((ins _).mpr (ok j hj))]; rfl⟩
  unfold sfF
  rw [if_neg l1, if_pos (l2.mpr h), ef]
 ·have ef : (List.range n).find? (fun (v : Nat) => !decide (Stp.inn (v : Int) ∈ ss)) = none := List.find?_eq_none.mpr fun j hj => by rw [decide_eq_true ((ins _).mpr (ok j (List.mem_range.mp hj)))]; simp
  have eg : (fun t : Int × Int => !decide (Stp.tie t.1 t.2 ∈ ss)) = fun t => !decide (t ∈ κ.B) := funext fun t => by rw [decide_eq_decide.mpr (tis t.1 t.2)]
  unfold sfF
  rw [if_neg l1, if_pos (l2.mpr h), ef, eg]
  try rfl
end K
namespace K
open PySem L2 Lw Bg
structure Tb (n m : Nat) (up : Nat → Nat) (bag : Nat → List Int) : Prop where
 pos : 0 < m
 ups : ∀ k, 0 < k → k < m → up k < k
 nd : ∀ k, (bag k).Nodup
 lt : ∀ k, ∀ v ∈ bag k, 0 ≤ v ∧ v < (n : Int)
 fr : ∀ k, 0 < k → k < m → ∀ v ∈ bag k, v ∈ bag (up k) ∨ ∀ j, j < k → v ∉ bag j
 no : ∀ k, m ≤ k → bag k = []
inductive Bel (m : Nat) (up : Nat → Nat) (k : Nat) : Nat → Prop
 | self : k < m → Bel m up k k
 | step {r : Nat} : 0 < r → r < m → Bel m up k (up r) → Bel m up k r
section
variable {n m : Nat} {up : Nat → Nat} {bag : Nat → List Int}
theorem Tb.in_ (T : Tb n m up bag) {k : Nat} {v : Int} (h : v ∈ bag k) : k < m := by
 rcases Nat.lt_or_ge k m with c | c
 ·exact c
 ·rw [T.no k c] at h; exact absurd h List.not_mem_nil
theorem Bel.le (T : Tb n m up bag) {k r : Nat} (h : Bel m up k r) : k ≤ r := by
 induction h with
 | self => exact Nat.le_refl _
 | step r0 rm _ ih => have := T.ups _ r0 rm; omega
theorem Bel.trans {k j r : Nat} (h1 : Bel m up k j) (h2 : Bel m up j r) : Bel m up k r := by
 induction h2 with
 | self => exact h1
 | step r0 rm _ ih => exact .step r0 rm ih
theorem Bel.kid (T : Tb n m up bag) {k r : Nat} (h : Bel m up k r) : r = k ∨ ∃ j, 0 < j ∧ j < m ∧ up j = k ∧ Bel m up j r := by
 induction h with
 | self => exact .inl rfl
 | @step r r0 rm _ ih =>
  rcases ih with e | ⟨j, a, b, c, d⟩
  ·exact .inr ⟨r, r0, rm, e, .self rm⟩
  ·exact .inr ⟨j, a, b, c, .step r0 rm d⟩
theorem Bel.cmp {j j' r : Nat} (h1 : Bel m up j r) (h2 : Bel m up j' r) : Bel m up j j' ∨ Bel m up j' j := by
 induction h1 with
 | self => exact .inr h2
 | @step r r0 rm h ih =>
  cases h2 with
  | self => exact .inl (.step r0 rm h)
  | step _ _ h' => exact ih h'
theorem sib_one (T : Tb n m up bag) {j j' r : Nat} (j0 : 0 < j) (jm : j < m) (j0' : 0 < j') (jm' : j' < m) (e : up j = up j') (h1 : Bel m up j r) (h2 : Bel m up j' r) : j = j' := by
 have one : ∀ {a b : Nat}, 0 < a → a < m → up a = up b → Bel m up a b → a = b := fun {a b} a0 am e h => by
  cases h with
  | self => rfl
  | step b0 bm h =>
   rw [← e] at h
   have l1 := h.le T
   have l2 := T.ups a a0 am
   omega
 rcases h1.cmp h2 with h | h
 ·exact one j0 jm e h
 ·exact (one j0' jm' e.symm h).symm
theorem fresh_all (T : Tb n m up bag) {j : Nat} {v : Int} (h : v ∈ bag j) (fr : j = 0 ∨ v ∉ bag (up j)) : ∀ q, v ∈ bag q → Bel m up j q := by
 have jm := T.in_ h
 have no : ∀ i, i < j → v ∉ bag i := fun i hi => by
  rcases fr with e | e
  ·omega
  ·rcases T.fr j (by omega) jm v h with z | z
   ·exact absurd z e
   ·exact z i hi
 intro q
 induction q using Nat.strongRecOn with
 | ind q ih =>
  intro hq
  have qm := T.in_ hq
  by_cases c : q = j
  ·rw [c]; exact .self jm
  ·have lj : j < q := by
    rcases Nat.lt_or_ge q j with d | d
    ·exact absurd hq (no q d)
    ·omega
   rcases T.fr q (by omega) qm v hq with z | z
   ·exact .step (by omega) qm (ih _ (T.ups q (by omega) qm) z)
   ·exact absurd h (z j lj)
theorem conn (T : Tb n m up bag) {j r : Nat} {v : Int} (b : Bel m up j r) (h : v ∈ bag r) : (v ∈ bag j ∧ v ∈ bag (up j)) ∨ ∀ q, v ∈ bag q → Bel m up j q := by
 induction b with
 | self jm =>
  by_cases c : v ∈ bag (up j)
  ·exact .inl ⟨h, c⟩
  ·exact .inr (fresh_all T h (.inr c))
 | @step r r0 rm b ih =>
  by_cases c : v ∈ bag (up r)
  ·exact ih c
  ·exact .inr fun q hq => Bel.trans (.step r0 rm b) (fresh_all T h (.inr c) q hq)
def SubV (m : Nat) (up : Nat → Nat) (bag : Nat → List Int) (k : Nat) (v : Int) : Prop := ∃ r, Bel m up k r ∧ v ∈ bag r
theorem sub_up (T : Tb n m up bag) {j : Nat} {v : Int} (j0 : 0 < j) (jm : j < m) (h : SubV m up bag j v) (hu : v ∈ bag (up j)) : v ∈ bag j := by
 obtain ⟨r, b, hr⟩ := h
 rcases conn T b hr with z | z
 ·exact z.1
 ·have l1 := (z _ hu).le T
  have l2 := T.ups j j0 jm
  omega
theorem sub_sib (T : Tb n m up bag) {j j' : Nat} {v : Int} (j0 : 0 < j) (jm : j < m) (j0' : 0 < j') (jm' : j' < m) (e : up j = up j') (ne : j ≠ j') (h : SubV m up bag j v) (h' : SubV m up bag j' v) : v ∈ bag (up j) := by
 obtain ⟨r, b, hr⟩ := h
 obtain ⟨r', b', hr'⟩ := h'
 rcases conn T b hr with z | z
 ·exact z.2
 ·exact absurd (sib_one T j0 jm j0' jm' e (z _ hr') b') ne
theorem bel_root (T : Tb n m up bag) : ∀ r, r < m → Bel m up 0 r := by
 intro r
 induction r using Nat.strongRecOn with
 | ind r ih =>
  intro rm
  by_cases c : r = 0
  ·rw [c]; exact .self T.pos
  ·have := T.ups r (by omega) rm
   exact .step (by omega) rm (ih _ this (by omega))
def Homed (up : Nat → Nat) (bag : Nat → List Int) (r : Nat) (t : Int × Int) : Prop := t.1 ∈ bag r ∧ t.2 ∈ bag r ∧ (r = 0 ∨ ¬ (t.1 ∈ bag (up r) ∧ t.2 ∈ bag (up r)))
instance (up : Nat → Nat) (bag : Nat → List Int) (r : Nat) (t : Int × Int) : Decidable (Homed up bag r t) := by unfold Homed; infer_instance
theorem home_all (T : Tb n m up bag) {r : Nat} {t : Int × Int} (h : Homed up bag r t) : ∀ q, t.1 ∈ bag q → t.2 ∈ bag q → Bel m up r q := by
 obtain ⟨h1, h2, h3⟩ := h
 intro q q1 q2
 rcases h3 with e | e
 ·exact fresh_all T h1 (.inl e) q q1
 ·by_cases c : t.1 ∈ bag (up r)
  ·exact fresh_all T h2 (.inr fun z => e ⟨c, z⟩) q q2
  ·exact fresh_all T h1 (.inr c) q q1
theorem home_one (T : Tb n m up bag) {r r' : Nat} {t : Int × Int} (h : Homed up bag r t) (h' : Homed up bag r' t) : r = r' := by
 have l1 := (home_all T h r' h'.1 h'.2.1).le T
 have l2 := (home_all T h' r h.1 h.2.1).le T
 omega
theorem home_ex (T : Tb n m up bag) {t : Int × Int} : ∀ q, t.1 ∈ bag q → t.2 ∈ bag q → ∃ r, r < m ∧ Homed up bag r t := by
 intro q
 induction q using Nat.strongRecOn with
 | ind q ih =>
  intro q1 q2
  have qm := T.in_ q1
  by_cases c : q = 0
  ·exact ⟨q, qm, q1, q2, .inl c⟩
  ·by_cases d : t.1 ∈ bag (up q) ∧ t.2 ∈ bag (up q)
   ·exact ih _ (T.ups q (by omega) qm) d.1 d.2
   ·exact ⟨q, qm, q1, q2, .inr d⟩
end
def goK (κ : Kp) (ss : List Stp) : Kp := ss.foldl doF κ
def AllC (n wd : Nat) (ts : List (Int × Int)) : Kp → List Stp → Prop
 | _, [] => True
 | κ, s :: r => (Can n ts κ s ∧ (doF κ s).top.length ≤ wd) ∧ AllC n wd ts (doF κ s) r
section
variable {n wd : Nat} {ts : List (Int × Int)}
theorem goK_app (κ : Kp) (a b : List Stp) : goK κ (a ++ b) = goK (goK κ a) b := List.foldl_append
theorem allC_app : ∀ {κ : Kp} {a b : List Stp}, AllC n wd ts κ a → AllC n wd ts (goK κ a) b → AllC n wd ts κ (a ++ b)
 | _, [], _, _, h => h
 | _, _ :: _, _, h, h' => ⟨h.1, allC_app h.2 h'⟩
theorem allC_take : ∀ {κ : Kp} {a b : List Stp}, AllC n wd ts κ (a ++ b) → AllC n wd ts κ a ∧ AllC n wd ts (goK κ a) b
 | _, [], _, h => ⟨trivial, h⟩
 | _, _ :: _, _, h => ⟨⟨h.1, (allC_take h.2).1⟩, (allC_take h.2).2⟩
theorem kp_top (P : List (List Int)) (b : List Int) (G : List Int) (B : List (Int × Int)) : (Kp.mk (P ++ [b]) G B).top = b := by
 show (P ++ [b]).getLastD [] = b
 rw [List.getLastD_eq_getLast?, List.getLast?_concat]; rfl
theorem kp_ne (P : List (List Int)) (b : List Int) (G : List Int) (B : List (Int × Int)) : (Kp.mk (P ++ [b]) G B).P ≠ [] := fun z => by
 have : P ++ [b] = [] := z
 simp at this
theorem go_ins : ∀ (vs : List Int) {P : List (List Int)} {b G : List Int} {B : List (Int × Int)}, vs.Nodup → (∀ v ∈ vs, 0 ≤ v ∧ v < (n : Int)) → (∀ v ∈ vs, v ∉ b) → (∀ v ∈ vs, v ∉ G) → b.length + vs.length ≤ wd → AllC n wd ts ⟨P ++ [b], G, B⟩ (vs.map .inn) ∧ goK ⟨P ++ [b], G, B⟩ (vs.map .inn) = ⟨P ++ [b ++ vs], G, B⟩
 | [], P, b, G, B, _, _, _, _, _ => ⟨trivial, by rw [List.append_nil]; rfl⟩
 | v :: vs, P, b, G, B, nd, lt, nb, ng, hw => by
  rw [List.length_cons] at hw
  obtain ⟨n1, n2⟩ := List.nodup_cons.mp nd
  have e : doF ⟨P ++ [b], G, B⟩ (.inn v) = ⟨P ++ [b ++ [v]], G, B⟩ := by
   show Kp.mk ((P ++ [b]).dropLast ++ [(Kp.mk (P ++ [b]) G B).top ++ [v]]) G B = _
   rw [kp_top, List.dropLast_concat]
  obtain ⟨i1, i2⟩ := go_ins vs (P := P) (b := b ++ [v]) (G := G) (B := B) n2 (fun x hx => lt x (List.mem_cons_of_mem _ hx)) (fun x hx z => by
   rcases List.mem_append.mp z with z | z
   ·exact nb x (List.mem_cons_of_mem _ hx) z
   ·rw [List.mem_singleton.mp z] at hx; exact n1 hx) (fun x hx => ng x (List.mem_cons_of_mem _ hx)) (by rw [List.length_append, List.length_singleton]; omega)
  refine ⟨⟨⟨⟨kp_ne _ _ _ _, lt v List.mem_cons_self, ?_, ng v List.mem_cons_self⟩, ?_⟩, ?_⟩, ?_⟩
  ·rw [kp_top]; exact nb v List.mem_cons_self
  ·rw [e, kp_top, List.length_append, List.length_singleton]; omega
  ·rw [e]; exact i1
  ·show goK (doF ⟨P ++ [b], G, B⟩ (.inn v)) (vs.map .inn) = _
   rw [e, i2, List.append_assoc]; rfl
theorem go_outs : ∀ (vs : List Int) {P : List (List Int)} {b G : List Int} {B : List (Int × Int)}, vs.Nodup → b.Nodup → (∀ v ∈ vs, v ∈ b) → (∀ v ∈ vs, v ∉ G) → b.length ≤ wd → AllC n wd ts ⟨P ++ [b], G, B⟩ (vs.map .out) ∧ ∃ b', b'.Nodup ∧ (∀ v, v ∈ b' ↔ v ∈ b ∧ v ∉ vs) ∧ goK ⟨P ++ [b], G, B⟩ (vs.map .out) = ⟨P ++ [b'], G ++ vs, B⟩
 | [], P, b, G, B, _, nb, _, _, _ => ⟨trivial, b, nb, fun v => by simp, by rw [List.append_nil]; rfl⟩
 | v :: vs, P, b, G, B, nd, nb, mb, ng, hw => by
  obtain ⟨n1, n2⟩ := List.nodup_cons.mp nd
  have e : doF ⟨P ++ [b], G, B⟩ (.out v) = ⟨P ++ [b.erase v], G ++ [v], B⟩ := by
   show Kp.mk ((P ++ [b]).dropLast ++ [(Kp.mk (P ++ [b]) G B).top.erase v]) (G ++ [v]) B = _
   rw [kp_top, List.dropLast_concat]
  obtain ⟨i1, b', d1, d2, i2⟩ := go_outs vs (P := P) (b := b.erase v) (G := G ++ [v]) (B := B) n2 (nb.erase v) (fun x hx => nb.mem_erase_iff.mpr ⟨fun z => n1 (z ▸ hx), mb x (List.mem_cons_of_mem _ hx)⟩) (fun x hx z => by
   rcases List.mem_append.mp z with z | z
   ·exact ng x (List.mem_cons_of_mem _ hx) z
   ·rw [List.mem_singleton.mp z] at hx; exact n1 hx) (Nat.le_trans List.length_erase_le hw)
  refine ⟨⟨⟨⟨kp_ne _ _ _ _, ?_, ng v List.mem_cons_self⟩, ?_⟩, ?_⟩, b', d1, fun x => ?_, ?_⟩
  ·rw [kp_top]; exact mb v List.mem_cons_self
  ·rw [e, kp_top]; exact Nat.le_trans List.length_erase_le hw
  ·rw [e]; exact i1
  ·rw [d2, nb.mem_erase_iff, List.mem_cons]
   constructor
   ·rintro ⟨⟨h1, h2⟩, h3⟩
    exact ⟨h2, fun z => z.elim h1 h3⟩
   ·rintro ⟨h1, h2⟩
    exact ⟨⟨fun z => h2 (.inl z), h1⟩, fun z => h2 (.inr z)⟩
  ·show goK (doF ⟨P ++ [b], G, B⟩ (.out v)) (vs.map .out) = _
   rw [e, i2, List.append_assoc]; rfl
theorem go_ties : ∀ (tl : List (Int × Int)) {P : List (List Int)} {b G : List Int} {B : List (Int × Int)}, tl.Nodup → (∀ t ∈ tl, t ∈ ts ∧ t ∉ B ∧ t.1 ∈ b ∧ t.2 ∈ b) → b.length ≤ wd → AllC n wd ts ⟨P ++ [b], G, B⟩ (tl.map fun t => .tie t.1 t.2) ∧ goK ⟨P ++ [b], G, B⟩ (tl.map fun t => .tie t.1 t.2) = ⟨P ++ [b], G, B ++ tl⟩
 | [], P, b, G, B, _, _, _ => ⟨trivial, by rw [List.append_nil]; rfl⟩
 | t :: tl, P, b, G, B, nd, ok, hw => by
  obtain ⟨n1, n2⟩ := List.nodup_cons.mp nd
  obtain ⟨o1, o2, o3, o4⟩ := ok t List.mem_cons_self
  obtain ⟨i1, i2⟩ := go_ties tl (P := P) (b := b) (G := G) (B := B ++ [t]) n2 (fun s hs => by
   obtain ⟨p1, p2, p3⟩ := ok s (List.mem_cons_of_mem _ hs)
   refine ⟨p1, fun z => ?_, p3⟩
   rcases List.mem_append.mp z with z | z
   ·exact p2 z
   ·rw [List.mem_singleton.mp z] at hs; exact n1 hs) hw
  refine ⟨⟨⟨⟨kp_ne _ _ _ _, o1, o2, ?_, ?_⟩, ?_⟩, i1⟩, ?_⟩
  ·rw [kp_top]; exact o3
  ·rw [kp_top]; exact o4
  ·show (Kp.mk (P ++ [b]) G (B ++ [t])).top.length ≤ wd
   rw [kp_top]; exact hw
  ·show goK ⟨P ++ [b], G, B ++ [t]⟩ (tl.map _) = _
   rw [i2, List.append_assoc]; rfl
theorem go_join {n : Nat} {ts : List (Int × Int)} {P : List (List Int)} {b b' G : List Int} {B : List (Int × Int)} (pm : b'.Perm b) : Can n ts ⟨P ++ [b] ++ [b'], G, B⟩ .join ∧ doF ⟨P ++ [b] ++ [b'], G, B⟩ .join = ⟨P ++ [b], G, B⟩ := by
 refine ⟨⟨?_, ?_⟩, ?_⟩
 ·show 1 < (P ++ [b] ++ [b']).length
  simp
 ·rw [kp_top]
  show b'.Perm ((P ++ [b] ++ [b']).getD ((P ++ [b] ++ [b']).length - 2) [])
  have : (P ++ [b] ++ [b']).getD ((P ++ [b] ++ [b']).length - 2) [] = b := by
   rw [getD_snd (by simp), List.dropLast_concat, List.getLastD_eq_getLast?, List.getLast?_concat]; rfl
  rw [this]; exact pm
 ·show Kp.mk (P ++ [b] ++ [b']).dropLast G B = _
  rw [List.dropLast_concat]
end
def betw (x y : List Int) : List Int := x.filter fun v => !decide (v ∈ y)
theorem mem_betw {x y : List Int} {v : Int} : v ∈ betw x y ↔ v ∈ x ∧ v ∉ y := by
 unfold betw
 rw [List.mem_filter]
 simp
def blockS (bag : Nat → List Int) (j k : Nat) : List Stp := (betw (bag j) (bag k)).map .out ++ (betw (bag k) (bag j)).map .inn
section
variable {n wd m : Nat} {up : Nat → Nat} {bag : Nat → List Int} {ts : List (Int × Int)}
theorem go_block (T : Tb n m up bag) (hW : ∀ k, (bag k).length ≤ wd) {j k : Nat} {P : List (List Int)} {b G : List Int} {B : List (Int × Int)} (pm : b.Perm (bag j)) (h1 : ∀ v ∈ bag j, v ∉ bag k → v ∉ G) (h2 : ∀ v ∈ bag k, v ∉ bag j → v ∉ G) : AllC n wd ts ⟨P ++ [b], G, B⟩ (blockS bag j k) ∧ ∃ b', b'.Perm (bag k) ∧ goK ⟨P ++ [b], G, B⟩ (blockS bag j k) = ⟨P ++ [b'], G ++ betw (bag j) (bag k), B⟩ := by
 have nb : b.Nodup := pm.nodup_iff.mpr (T.nd j)
 obtain ⟨o1, b1, d1, d2, o2⟩ := go_outs (n := n) (ts := ts) (betw (bag j) (bag k)) (P := P) (b := b) (G := G) (B := B) ((T.nd j).filter _) nb (fun v hv => pm.mem_iff.mpr (mem_betw.mp hv).1) (fun v hv => h1 v (mem_betw.mp hv).1 (mem_betw.mp hv).2) (by rw [pm.length_eq]; exact hW j)
 have m1 : ∀ v, v ∈ b1 ↔ v ∈ bag j ∧ v ∈ bag k := fun v => by
  rw [d2, pm.mem_iff, mem_betw]
  constructor
  ·rintro ⟨a, c⟩
   by_cases z : v ∈ bag k
   ·exact ⟨a, z⟩
   ·exact absurd ⟨a, z⟩ c
  ·rintro ⟨a, c⟩
   exact ⟨a, fun z => z.2 c⟩
 have pk : (b1 ++ betw (bag k) (bag j)).Perm (bag k) := by
  refine (List.perm_ext_iff_of_nodup (List.nodup_append.mpr ⟨d1, (show (betw (bag k) (bag j)).Nodup from (T.nd k).filter _), fun x hx y hy e => ?_⟩) (T.nd k)).mpr fun v => ?_
  ·subst e
   exact (mem_betw.mp hy).2 ((m1 x).mp hx).1
  ·rw [List.mem_append, m1]
   show _ ∨ v ∈ betw (bag k) (bag j) ↔ _
   rw [mem_betw]
   constructor
   ·rintro (z | z)
    ·exact z.2
    ·exact z.1
   ·intro z
    by_cases c : v ∈ bag j
    ·exact .inl ⟨c, z⟩
    ·exact .inr ⟨z, c⟩
 obtain ⟨i1, i2⟩ := go_ins (n := n) (ts := ts) (betw (bag k) (bag j)) (P := P) (b := b1) (G := G ++ betw (bag j) (bag k)) (B := B) ((T.nd k).filter _) (fun v hv => T.lt k v (mem_betw.mp hv).1) (fun v hv z => (mem_betw.mp hv).2 ((m1 v).mp z).1) (fun v hv z => by
  obtain ⟨a, c⟩ := mem_betw.mp hv
  rcases List.mem_append.mp z with z | z
  ·exact h2 v a c z
  ·exact (mem_betw.mp z).2 a) (by have h1 := pk.length_eq; have h2 := hW k; rw [List.length_append] at h1; rw [h1]; exact h2)
 exact ⟨allC_app o1 (by rw [o2]; exact i1), b1 ++ betw (bag k) (bag j), pk, by unfold blockS; rw [goK_app, o2, i2]⟩
def LaysOk (n wd m : Nat) (up : Nat → Nat) (bag : Nat → List Int) (ts tb : List (Int × Int)) (j : Nat) (ss : List Stp) : Prop :=
 ∀ P G B, (∀ v, SubV m up bag j v → v ∉ G) → (∀ t ∈ B, ∀ r, Bel m up j r → ¬ Homed up bag r t) → ∃ b G' B', b.Perm (bag j) ∧ AllC n wd ts ⟨P, G, B⟩ ss ∧ goK ⟨P, G, B⟩ ss = ⟨P ++ [b], G', B'⟩ ∧ (∀ v, v ∈ G' ↔ v ∈ G ∨ (SubV m up bag j v ∧ v ∉ bag j)) ∧ ∀ t, t ∈ B' ↔ t ∈ B ∨ (t ∈ tb ∧ ∃ r, Bel m up j r ∧ Homed up bag r t)
theorem go_kids (T : Tb n m up bag) (hW : ∀ k, (bag k).length ≤ wd) {tb : List (Int × Int)} {k : Nat} {L : Nat → List Stp} : ∀ (js : List Nat), js.Nodup → (∀ j ∈ js, 0 < j ∧ j < m ∧ up j = k) → (∀ j ∈ js, LaysOk n wd m up bag ts tb j (L j)) → ∀ {P : List (List Int)} {b G : List Int} {B : List (Int × Int)}, b.Perm (bag k) → (∀ j ∈ js, ∀ v, SubV m up bag j v → v ∉ G) → (∀ v ∈ bag k, v ∉ G) → (∀ j ∈ js, ∀ t ∈ B, ∀ r, Bel m up j r → ¬ Homed up bag r t) →
  ∃ G' B', AllC n wd ts ⟨P ++ [b], G, B⟩ (js.flatMap fun j => L j ++ (blockS bag j k ++ [.join])) ∧ goK ⟨P ++ [b], G, B⟩ (js.flatMap fun j => L j ++ (blockS bag j k ++ [.join])) = ⟨P ++ [b], G', B'⟩ ∧ (∀ v, v ∈ G' ↔ v ∈ G ∨ ∃ j ∈ js, SubV m up bag j v ∧ v ∉ bag k) ∧ ∀ t, t ∈ B' ↔ t ∈ B ∨ (t ∈ tb ∧ ∃ j ∈ js, ∃ r, Bel m up j r ∧ Homed up bag r t)
 | [], _, _, _, P, b, G, B, _, _, _, _ => ⟨G, B, trivial, rfl, fun v => by simp, fun t => by simp⟩
 | j :: js, nd, kd, ly, P, b, G, B, pm, hG, hK, hB => by
  obtain ⟨n1, n2⟩ := List.nodup_cons.mp nd
  obtain ⟨j0, jm, ju⟩ := kd j List.mem_cons_self
  obtain ⟨bj, G1, B1, pj, a1, e1, mG1, mB1⟩ := ly j List.mem_cons_self (P ++ [b]) G B (hG j List.mem_cons_self) (hB j List.mem_cons_self)
  have selfj : ∀ v ∈ bag j, SubV m up bag j v := fun v hv => ⟨j, .self jm, hv⟩
  obtain ⟨a2, b2, p2, e2⟩ := go_block (ts := ts) T hW (k := k) (P := P ++ [b]) (G := G1) (B := B1) pj (fun v hv _ z => by
   rcases (mG1 v).mp z with z | z
   ·exact hG j List.mem_cons_self v (selfj v hv) z
   ·exact z.2 hv) (fun v hv nv z => by
   rcases (mG1 v).mp z with z | z
   ·exact hK v hv z
   ·exact nv (sub_up T j0 jm z.1 (ju ▸ hv)))
  obtain ⟨c3, e3⟩ := go_join (n := n) (ts := ts) (P := P) (b := b) (b' := b2) (G := G1 ++ betw (bag j) (bag k)) (B := B1) (p2.trans pm.symm)
  have mG2 : ∀ v, v ∈ G1 ++ betw (bag j) (bag k) ↔ v ∈ G ∨ (SubV m up bag j v ∧ v ∉ bag k) := fun v => by
   rw [List.mem_append, mG1, mem_betw]
   constructor
   ·rintro ((z | ⟨z1, z2⟩) | ⟨z1, z2⟩)
    ·exact .inl z
    ·exact .inr ⟨z1, fun z => z2 (sub_up T j0 jm z1 (ju ▸ z))⟩
    ·exact .inr ⟨selfj v z1, z2⟩
   ·rintro (z | ⟨z1, z2⟩)
    ·exact .inl (.inl z)
    ·by_cases c : v ∈ bag j
     ·exact .inr ⟨c, z2⟩
     ·exact .inl (.inr ⟨z1, c⟩)
  obtain ⟨G', B', a4, e4, mG, mB⟩ := go_kids T hW js n2 (fun i hi => kd i (List.mem_cons_of_mem _ hi)) (fun i hi => ly i (List.mem_cons_of_mem _ hi)) (P := P) (b := b) (G := G1 ++ betw (bag j) (bag k)) (B := B1) pm (fun i hi v hv z => by
   obtain ⟨i0, im, iu⟩ := kd i (List.mem_cons_of_mem _ hi)
   rcases (mG2 v).mp z with z | ⟨z1, z2⟩
   ·exact hG i (List.mem_cons_of_mem _ hi) v hv z
   ·exact z2 (ju ▸ sub_sib T j0 jm i0 im (ju.trans iu.symm) (fun z => n1 (z ▸ hi)) z1 hv)) (fun v hv z => by
   rcases (mG2 v).mp z with z | z
   ·exact hK v hv z
   ·exact z.2 hv) (fun i hi t ht r br hr => by
   obtain ⟨i0, im, iu⟩ := kd i (List.mem_cons_of_mem _ hi)
   rcases (mB1 t).mp ht with z | ⟨_, r', br', hr'⟩
   ·exact hB i (List.mem_cons_of_mem _ hi) t z r br hr
   ·have := home_one T hr hr'
    subst this
    exact n1 (sib_one T j0 jm i0 im (ju.trans iu.symm) br' br ▸ hi))
  have es : (j :: js).flatMap (fun j => L j ++ (blockS bag j k ++ [.join])) = L j ++ (blockS bag j k ++ ([.join] ++ js.flatMap fun j => L j ++ (blockS bag j k ++ [.join]))) := by
   rw [List.flatMap_cons, List.append_assoc, List.append_assoc]
  rw [es]
  refine ⟨G', B', allC_app a1 ?_, ?_, fun v => ?_, fun t => ?_⟩
  ·rw [e1]
   refine allC_app a2 ?_
   rw [e2]
   exact ⟨⟨c3, by rw [e3, kp_top, pm.length_eq]; exact hW k⟩, by rw [e3]; exact a4⟩
  ·rw [goK_app, e1, goK_app, e2]
   show goK (doF _ .join) (js.flatMap fun j => L j ++ (blockS bag j k ++ [.join])) = _
   rw [e3, e4]
  ·rw [mG, mG2]
   constructor
   ·rintro ((z | z) | ⟨i, hi, z⟩)
    ·exact .inl z
    ·exact .inr ⟨j, List.mem_cons_self, z⟩
    ·exact .inr ⟨i, List.mem_cons_of_mem _ hi, z⟩
   ·rintro (z | ⟨i, hi, z⟩)
    ·exact .inl (.inl z)
    ·rcases List.mem_cons.mp hi with e | hi
     ·exact .inl (.inr (e ▸ z))
     ·exact .inr ⟨i, hi, z⟩
  ·rw [mB, mB1]
   constructor
   ·rintro ((z | ⟨z0, z⟩) | ⟨z0, i, hi, z⟩)
    ·exact .inl z
    ·exact .inr ⟨z0, j, List.mem_cons_self, z⟩
    ·exact .inr ⟨z0, i, List.mem_cons_of_mem _ hi, z⟩
   ·rintro (z | ⟨z0, i, hi, z⟩)
    ·exact .inl (.inl z)
    ·rcases List.mem_cons.mp hi with e | hi
     ·exact .inl (.inr ⟨z0, e ▸ z⟩)
     ·exact .inr ⟨z0, i, hi, z⟩
def ownT (up : Nat → Nat) (bag : Nat → List Int) (tb : List (Int × Int)) (k : Nat) : List (Int × Int) := tb.filter fun t => decide (Homed up bag k t)
def kidsF (m : Nat) (up : Nat → Nat) (k : Nat) : List Nat := (List.range m).filter fun j => decide (k < j) && decide (up j = k)
theorem mem_kids (T : Tb n m up bag) {k j : Nat} : j ∈ kidsF m up k ↔ 0 < j ∧ j < m ∧ up j = k := by
 unfold kidsF
 rw [List.mem_filter, List.mem_range, Bool.and_eq_true, decide_eq_true_iff, decide_eq_true_iff]
 constructor
 ·rintro ⟨a, b, c⟩
  exact ⟨by omega, a, c⟩
 ·rintro ⟨a, b, c⟩
  have := T.ups j a b
  exact ⟨b, by omega, c⟩
theorem nd_kids (m : Nat) (up : Nat → Nat) (k : Nat) : (kidsF m up k).Nodup := List.nodup_range.sublist List.filter_sublist
theorem go_own (T : Tb n m up bag) (hW : ∀ k, (bag k).length ≤ wd) {tb : List (Int × Int)} {k : Nat} (km : k < m) (tn : tb.Nodup) (sub : ∀ t ∈ tb, t ∈ ts) {P : List (List Int)} {b G G' : List Int} {B B' : List (Int × Int)} (pm : b.Perm (bag k)) (hB : ∀ t ∈ B, ∀ r, Bel m up k r → ¬ Homed up bag r t) (mG : ∀ v, v ∈ G' ↔ v ∈ G ∨ ∃ j ∈ kidsF m up k, SubV m up bag j v ∧ v ∉ bag k) (mB : ∀ t, t ∈ B' ↔ t ∈ B ∨ (t ∈ tb ∧ ∃ j ∈ kidsF m up k, ∃ r, Bel m up j r ∧ Homed up bag r t)) :
  ∃ B2, AllC n wd ts ⟨P ++ [b], G', B'⟩ ((ownT up bag tb k).map fun t => .tie t.1 t.2) ∧ goK ⟨P ++ [b], G', B'⟩ ((ownT up bag tb k).map fun t => .tie t.1 t.2) = ⟨P ++ [b], G', B2⟩ ∧ (∀ v, v ∈ G' ↔ v ∈ G ∨ (SubV m up bag k v ∧ v ∉ bag k)) ∧ ∀ t, t ∈ B2 ↔ t ∈ B ∨ (t ∈ tb ∧ ∃ r, Bel m up k r ∧ Homed up bag r t) := by
 have mo : ∀ t, t ∈ ownT up bag tb k ↔ t ∈ tb ∧ Homed up bag k t := fun t => by
  unfold ownT
  rw [List.mem_filter, decide_eq_true_iff]
 have kb : ∀ {j r : Nat}, j ∈ kidsF m up k → Bel m up j r → Bel m up k r := fun {j r} hj b => by
  obtain ⟨j0, jm, ju⟩ := (mem_kids T).mp hj
  exact Bel.trans (.step j0 jm (by rw [ju]; exact .self km)) b
 obtain ⟨a, e⟩ := go_ties (n := n) (ts := ts) (ownT up bag tb k) (P := P) (b := b) (G := G') (B := B') (tn.sublist List.filter_sublist) (fun t ht => by
  obtain ⟨t1, h⟩ := (mo t).mp ht
  refine ⟨sub t t1, fun z => ?_, pm.mem_iff.mpr h.1, pm.mem_iff.mpr h.2.1⟩
  rcases (mB t).mp z with z | ⟨_, j, hj, r, br, hr⟩
  ·exact hB t z k (.self km) h
  ·have := home_one T hr h
   subst this
   obtain ⟨j0, jm, ju⟩ := (mem_kids T).mp hj
   have l1 := br.le T
   have l2 := T.ups j j0 jm
   omega) (by rw [pm.length_eq]; exact hW k)
 refine ⟨B' ++ ownT up bag tb k, a, e, fun v => ?_, fun t => ?_⟩
 ·rw [mG]
  constructor
  ·rintro (z | ⟨j, hj, ⟨r, br, hr⟩, z⟩)
   ·exact .inl z
   ·exact .inr ⟨⟨r, kb hj br, hr⟩, z⟩
  ·rintro (z | ⟨⟨r, br, hr⟩, z⟩)
   ·exact .inl z
   ·rcases br.kid T with c | ⟨j, j0, jm, ju, bj⟩
    ·exact absurd (c ▸ hr) z
    ·exact .inr ⟨j, (mem_kids T).mpr ⟨j0, jm, ju⟩, ⟨r, bj, hr⟩, z⟩
 ·rw [List.mem_append, mB, mo]
  constructor
  ·rintro ((z | ⟨z0, j, hj, r, br, hr⟩) | ⟨z0, z⟩)
   ·exact .inl z
   ·exact .inr ⟨z0, r, kb hj br, hr⟩
   ·exact .inr ⟨z0, k, .self km, z⟩
  ·rintro (z | ⟨z0, r, br, hr⟩)
   ·exact .inl (.inl z)
   ·rcases br.kid T with c | ⟨j, j0, jm, ju, bj⟩
    ·exact .inr ⟨z0, c ▸ hr⟩
    ·exact .inl (.inr ⟨z0, j, (mem_kids T).mpr ⟨j0, jm, ju⟩, r, bj, hr⟩)
end
end K
namespace K
open PySem L2 Lw Bg
abbrev s_run_whole : Stmt := top 29
theorem sc_run_whole : FnScope ["graph", "steps", "tops", "feeds", "pile"] ["graph", "steps"] (defScope s_run_whole) := ⟨rfl, rfl, rfl, by decide +kernel, rfl, by decide +kernel, by decide +kernel⟩
abbrev s_bags_of : Stmt := top 34
theorem sc_bags_of : FnScope ["graph", "steps", "tops", "feeds", "last", "ups", "k", "used", "j"] ["graph", "steps"] (defScope s_bags_of) := ⟨rfl, rfl, rfl, by decide +kernel, rfl, by decide +kernel, by decide +kernel⟩
def spRunW (K : PySem.W.Frag) : Sp := fun vs H Q _ => ∃ (g : V) (n : Nat) (ts : List (Int × Int)) (a : Addr) (xs : List V) (ss : List Stp), vs = [g, .ref a] ∧ GraphV K H g n ts ∧ n ≤ 10 ∧ SqL K H a xs ∧ Paired (StpV K H) xs ss ∧ ss.length ≤ 900 ∧ sfF n ts ss (endR n ts ss) = .ok ∧
 ∀ r pt pf vt fs H', Same H H' → H' r = some (.tup [.ref pt, .ref pf]) → H pt = none → H pf = none → H' pt = some (.lst vt) → H' pf = some (.lst (fs.map V.ref)) → Paired (BagL [pt, pf] K H') vt (endR n ts ss).tops → Paired (NatL [pt, pf] H') fs (endR n ts ss).feeds → Q (.ref r) H'
def setAll (us : List V) (f : List Nat) (v : V) : List V := f.foldl (fun u j => u.set j v) us
def upsV (m : Nat) (feeds : List (List Nat)) : Nat → List V
 | 0 => List.replicate m .non
 | i + 1 => setAll (upsV m feeds i) (feeds.getD i []) (.int ((m : Int) - 1 - (i : Int)))
theorem setAll_len (v : V) : ∀ (f : List Nat) (us : List V), (setAll us f v).length = us.length
 | [], _ => rfl
 | j :: f, us => by
  show (setAll (us.set j v) f v).length = _
  rw [setAll_len v f, List.length_set]
theorem upsV_len (m : Nat) (feeds : List (List Nat)) : ∀ i, (upsV m feeds i).length = m
 | 0 => List.length_replicate
 | i + 1 => by
  show (setAll _ _ _).length = m
  rw [setAll_len, upsV_len m feeds i]
def spBagsOf (K : PySem.W.Frag) : Sp := fun vs H Q _ => ∃ (g : V) (n : Nat) (ts : List (Int × Int)) (a : Addr) (xs : List V) (ss : List Stp), vs = [g, .ref a] ∧ GraphV K H g n ts ∧ n ≤ 10 ∧ SqL K H a xs ∧ Paired (StpV K H) xs ss ∧ ss.length ≤ 900 ∧ sfF n ts ss (endR n ts ss) = .ok ∧
 ∀ (r : Addr) (ps bs : List Addr) H', Same H H' → H r = none → H' r = some (.lst (ps.map V.ref)) → ps.length = ss.length → bs.length = ss.length → bs.Nodup → (∀ b ∈ bs, H b = none) → r ∉ bs → (∀ i, i < ss.length → H' (ps.getD i 0) = some (.tup [(upsV ss.length (endR n ts ss).feeds ss.length).getD (ss.length - 1 - i) .non, .ref (bs.getD i 0)]) ∧ H' (bs.getD i 0) = some (.lst (((endR n ts ss).tops.getD (ss.length - 1 - i) []).map V.int))) → Q (.ref r) H'
theorem sf_full {n : Nat} {ts : List (Int × Int)} {ss : List Stp} (n10 : n ≤ 10) (h : sfF n ts ss (endR n ts ss) = .ok) : RunI ss.length (endR n ts ss) := by
 obtain ⟨i, il, I, _⟩ := end_inv (n := n) (ts := ts) (ss := ss) n10
 have e : ¬ (endR n ts ss).tops.length < ss.length := fun c => by
  unfold sfF at h
  rw [if_pos c] at h
  cases h
 rw [I.tl] at e
 have : i = ss.length := by omega
 exact this ▸ I
theorem run_succ (n : Nat) (ts : List (Int × Int)) (ss : List Stp) (m : Nat) : runR n ts ss (m + 1) = if (runR n ts ss m).2 = true then
   (match stepR n ts ss m (runR n ts ss m).1 with
   | some r => (r, true)
   | none => ((runR n ts ss m).1, false))
  else ((runR n ts ss m).1, false) := rfl
theorem run_false {n : Nat} {ts : List (Int × Int)} {ss : List Stp} (n10 : n ≤ 10) : ∀ m, (runR n ts ss m).2 = false → (runR n ts ss m).1.tops.length < m
 | 0, h => by cases h
 | m + 1, h => by
  rw [run_succ] at h ⊢
  by_cases c : (runR n ts ss m).2 = true
  ·rw [if_pos c] at h ⊢
   have I := run_inv n10 c
   cases d : stepR n ts ss m (runR n ts ss m).1 with
   | none => show (runR n ts ss m).1.tops.length < m + 1; rw [I.tl]; omega
   | some r => rw [d] at h; cases h
  ·rw [if_neg c]
   have := run_false n10 m (Bool.eq_false_iff.mpr c)
   show (runR n ts ss m).1.tops.length < m + 1
   omega
theorem sf_go {n : Nat} {ts : List (Int × Int)} {ss : List Stp} (n10 : n ≤ 10) (h : sfF n ts ss (endR n ts ss) = .ok) : ∀ i, i ≤ ss.length → (runR n ts ss i).2 = true := by
 have e : ¬ (endR n ts ss).tops.length < ss.length := fun c => by
  unfold sfF at h
  rw [if_pos c] at h
  cases h
 intro i il
 cases c : (runR n ts ss i).2 with
 | true => rfl
 | false =>
  have e2 := run_stop c ss.length il
  have := run_false n10 i c
  unfold endR at e
  rw [e2] at e
  have e3 : ¬ (runR n ts ss i).1.tops.length < ss.length := e
  omega
theorem run_next {n : Nat} {ts : List (Int × Int)} {ss : List Stp} {i : Nat} {s : Stp} (h : ss[i]? = some s) (g1 : (runR n ts ss i).2 = true) (g2 : (runR n ts ss (i + 1)).2 = true) : ∃ b, bagF n ts (ss.take i) s (usedR s (runR n ts ss i).1) = some b ∧ s.need ≤ (runR n ts ss i).1.pile.length ∧ (runR n ts ss (i + 1)).1 = ⟨(runR n ts ss i).1.tops ++ [b], (runR n ts ss i).1.feeds ++ [(runR n ts ss i).1.pile.drop (leftR s (runR n ts ss i).1)], (runR n ts ss i).1.pile.take (leftR s (runR n ts ss i).1) ++ [i]⟩ := by
 rw [run_succ, if_pos g1] at g2 ⊢
 cases d : stepR n ts ss i (runR n ts ss i).1 with
 | none => rw [d] at g2; cases g2
 | some r =>
  unfold stepR at d
  rw [getD_at h] at d
  by_cases c : s.need ≤ (runR n ts ss i).1.pile.length
  ·rw [if_pos c] at d
   obtain ⟨b, hb, er⟩ := Option.map_eq_some_iff.mp d
   exact ⟨b, hb, c, er.symm⟩
  ·rw [if_neg c] at d; cases d
theorem run_feeds {n : Nat} {ts : List (Int × Int)} {ss : List Stp} (n10 : n ≤ 10) : ∀ i, i ≤ ss.length → (∀ j, j ≤ i → (runR n ts ss j).2 = true) → ∀ (k : Nat) (f : List Nat), (runR n ts ss i).1.feeds[k]? = some f → ∀ y ∈ f, y < k
 | 0, _, _, k, f, h => by cases h
 | i + 1, il, go, k, f, h => by
  have I := run_inv n10 (go i (by omega))
  obtain ⟨b, _, _, e⟩ := run_next (s := ss[i]'(by omega)) (List.getElem?_eq_getElem (by omega)) (go i (by omega)) (go (i + 1) (Nat.le_refl _))
  rw [e] at h
  have h' : ((runR n ts ss i).1.feeds ++ [(runR n ts ss i).1.pile.drop (leftR (ss[i]'(by omega)) (runR n ts ss i).1)])[k]? = some f := h
  by_cases c : k < (runR n ts ss i).1.feeds.length
  ·rw [List.getElem?_append_left c] at h'
   exact run_feeds n10 i (by omega) (fun j hj => go j (by omega)) k f h'
  ·have kl := (List.getElem?_eq_some_iff.mp h').1
   rw [List.length_append, List.length_singleton] at kl
   rw [List.getElem?_append_right (by omega), show k - (runR n ts ss i).1.feeds.length = 0 by omega] at h'
   cases h'
   intro y hy
   have := I.lt y (List.mem_of_mem_drop hy)
   rw [I.fl] at c kl
   omega
section
variable {P : Program} {w : World} {K : PySem.W.Frag} {mg : Str → Option Value} {base : Heap}
set_option maxHeartbeats 8000000 in
theorem ok_run_whole (B : Bl mg) (U : Used w K mg) (d_is_whole : Dn K mg "is_whole" s_is_whole ["thing"]) (d_is_below : Dn K mg "is_below" s_is_below ["n", "thing"]) (d_joint : Dn K mg "joint" s_joint ["one", "other"]) (d_less : Dn K mg "less" s_less ["one", "other"]) (d_bag_behind : Dn K mg "bag_behind" s_bag_behind ["graph", "done", "step", "used"]) (d_run : Dn K mg "run" s_run ["graph", "steps"]) (d_fault_behind : Dn K mg "fault_behind" s_fault_behind ["graph", "steps", "tops", "pile"]) (d_run_whole : Dn K mg "run_whole" s_run_whole ["graph", "steps"]) : FnOk P w K mg base CX0 5 d_run_whole.f d_run_whole.fd ["graph", "steps"] (spRunW K) := by
 have G_run : FnOk P w K mg base CX0 4 _ _ _ _ := ok_run B U d_is_whole d_is_below d_joint d_less d_bag_behind d_run
 have G_fault_behind : FnOk P w K mg base CX0 4 _ _ _ _ := (ok_fault_behind B d_fault_behind).mono (by decide)
 refine d_run_whole.F.ok sc_run_whole (fun vs H Q E h => ?_) (fun cdv A outer s H vs Q E hr h => ?_)
 ·obtain ⟨g, n, ts, a, xs, ss, rfl, _⟩ := h
  rfl
 obtain ⟨g, n, ts, a, xs, ss, rfl, hG, n10, hA, pA, l900, okS, q⟩ := h
 refine ⟨_, (pss_cons (ps_asg (pe_call G_run hr rfl d_run.m d_run.F.kp d_run.b .nil pass0 (pa_cons (pv 0) (pa_cons (pv 1) pa_nil))) (pg_tupK (K := K) (n := 3) rfl rfl (pgs_cons (pg_name (i := 2) sc_run_whole.nd rfl (Or.inl rfl)) (pgs_cons (pg_name (i := 3) sc_run_whole.nd rfl (Or.inl rfl)) (pgs_cons (pg_name (i := 4) sc_run_whole.nd rfl (Or.inl rfl)) pgs_nil)))))
   (pss_cons (ps_if (pt_cmpR op_notN (pe_call G_fault_behind hr rfl d_fault_behind.m d_fault_behind.F.kp d_fault_behind.b .nil pass0 (pa_cons (pv 0) (pa_cons (pv 1) (pa_cons (pv 2) (pa_cons (pv 4) pa_nil))))) pe_non (nomark _))
   (pss_one ps_never)
   pss_nil)
   (pss_one (ps_ret (pe_tupN (pa_cons (pv 2) (pa_cons (pv 3) pa_nil))))))), ?_⟩
 have I := sf_full n10 okS
 have pl := I.pl
 refine ⟨_, rfl, _, rfl, g, n, ts, a, xs, ss, rfl, hG, n10, hA, pA, l900, fun r pt pf pp vt fs H1 s1 hr1 ft ff fp ht hf hp pv pf' => ?_⟩
 refine ⟨r, _, rfl, SqT.of hr1, rfl, _, _, rfl, _, _, rfl, _, _, rfl, rfl, ?_⟩
 refine ⟨_, rfl, _, rfl, _, rfl, _, rfl, g, n, ts, a, pt, pp, xs, vt, ss, endR n ts ss, rfl, hG.same s1, n10, s1.seq hA, Paired.mapP pA fun _ _ h => h.same s1, SqL.of ht, Paired.mapP pv fun _ _ h => h.l, SqL.of hp.1, (fun j hj => by rw [I.tl]; exact I.lt j hj), by omega, fun v H2 s2 fv => ?_⟩
 rw [okS] at fv
 obtain rfl : v = .non := fv
 refine ⟨rfl, _, rfl, iteF ?_⟩
 refine ⟨_, rfl, _, rfl, (by show 2 ≤ 1000; decide), fun p3 H3 n3 => ?_⟩
 have s13 := s2.trans n3.same
 exact q p3 pt pf vt fs H3 (s1.trans s13) n3.here ft ff (s13 _ _ ht) (s13 _ _ hf) (Paired.mapP pv fun _ _ h => h.same s13) (Paired.mapP pf' fun _ _ h => h.same s13)
set_option maxHeartbeats 8000000 in
theorem ok_bags_of (B : Bl mg) (U : Used w K mg) (d_is_whole : Dn K mg "is_whole" s_is_whole ["thing"]) (d_is_below : Dn K mg "is_below" s_is_below ["n", "thing"]) (d_joint : Dn K mg "joint" s_joint ["one", "other"]) (d_less : Dn K mg "less" s_less ["one", "other"]) (d_bag_behind : Dn K mg "bag_behind" s_bag_behind ["graph", "done", "step", "used"]) (d_run : Dn K mg "run" s_run ["graph", "steps"]) (d_fault_behind : Dn K mg "fault_behind" s_fault_behind ["graph", "steps", "tops", "pile"]) (d_run_whole : Dn K mg "run_whole" s_run_whole ["graph", "steps"]) (d_bags_of : Dn K mg "bags_of" s_bags_of ["graph", "steps"]) : FnOk P w K mg base CX0 6 d_bags_of.f d_bags_of.fd ["graph", "steps"] (spBagsOf K) := by
 have G_run_whole : FnOk P w K mg base CX0 5 _ _ _ _ := ok_run_whole B U d_is_whole d_is_below d_joint d_less d_bag_behind d_run d_fault_behind d_run_whole
 refine d_bags_of.F.ok sc_bags_of (fun vs H Q E h => ?_) (fun cdv A outer s H vs Q E hr h => ?_)
 ·obtain ⟨g, n, ts, a, xs, ss, rfl, _⟩ := h
  rfl
 obtain ⟨g, n, ts, a, xs, ss, rfl, hG, n10, hA, pA, l900, okS, q⟩ := h
 have lx := Paired.length pA
 refine ⟨_, (pss_cons (ps_asg (pe_call G_run_whole hr rfl d_run_whole.m d_run_whole.F.kp d_run_whole.b .nil pass0 (pa_cons (pv 0) (pa_cons (pv 1) pa_nil))) (pg_tupK (K := K) (n := 2) rfl rfl (pgs_cons (pg_name (i := 2) sc_bags_of.nd rfl (Or.inr rfl)) (pgs_cons (pg_name (i := 3) sc_bags_of.nd rfl (Or.inl rfl)) pgs_nil))))
   (pss_cons (ps_set (i := 4) sc_bags_of.nd rfl (Or.inl rfl) (pe_op op_sub (pe_callB (call_lenK (K := K) rfl) rfl B.len (by decide +kernel) (pa_cons (pv 1) pa_nil)) pe_int))
   (pss_cons (ps_set (i := 5) sc_bags_of.nd rfl (Or.inr rfl) (pe_lc ["step"] [none]  (by kernel_rfl) rfl (pi_listK (K := K) rfl (pv 1)) (fun _ _ _ _ _ => (pg_name (i := 0) (show (["step"] : List Str).Nodup by decide +kernel) rfl (Or.inl rfl))) (fun _ _ _ _ _ => pts_nil) (fun _ _ _ _ _ => pe_non)))
   (pss_cons (ps_for PassesOwn.never rfl (pi_enum (K := K) rfl rfl B.enumerate (pa_cons (pv 3) pa_nil)) (pg_tupK (K := K) (n := 2) rfl rfl (pgs_cons (pg_name (i := 6) sc_bags_of.nd rfl (Or.inl rfl)) (pgs_cons (pg_name (i := 7) sc_bags_of.nd rfl (Or.inl rfl)) pgs_nil)))
   (pss_one (ps_for PassesOwn.never rfl (pi_listK (K := K) rfl (pv 7)) (pg_name (i := 8) sc_bags_of.nd rfl (Or.inl rfl))
   (pss_one (ps_asg (pe_op op_sub (pv 4) (pv 6)) (pg_sub (pv 5) (pv 8) set_listN))))))
   (pss_one (ps_ret (pe_lc ["k", "ups", "tops"] [none, some 5, some 2]  (by kernel_rfl) rfl (pi_range3 rfl B.range (pa_cons (pv 4) (pa_cons (pe_un un_neg pe_int) (pa_cons (pe_un un_neg pe_int) pa_nil)))) (fun _ _ _ _ _ => (pg_name (i := 0) (show (["k", "ups", "tops"] : List Str).Nodup by decide +kernel) rfl (Or.inl rfl))) (fun _ _ _ _ _ => pts_nil) (fun _ _ _ _ _ => (pe_tupN (pa_cons (pe_ix (ix_listK (K := K) rfl) (pv 1) (pv 0) (fun _ _ => rfl)) (pa_cons (pe_callTy (call_listN (K := K) rfl) rfl B.list (by decide +kernel) (pa_cons (pe_ix (ix_listK (K := K) rfl) (pv 2) (pv 0) (fun _ _ => rfl)) pa_nil)) pa_nil))))))))))), ?_⟩
 have I := sf_full n10 okS
 obtain ⟨R, eR⟩ : ∃ R, R = endR n ts ss := ⟨_, rfl⟩
 rw [← eR] at I q
 refine ⟨_, rfl, _, rfl, g, n, ts, a, xs, ss, rfl, hG, n10, hA, pA, l900, okS, fun r pt pf vt fs H1 s1 hr1 ft ff ht hf pv pf' => ?_⟩
 rw [← eR] at pv pf'
 refine ⟨r, _, rfl, SqT.of hr1, rfl, _, _, rfl, _, _, rfl, rfl, ?_⟩
 refine ⟨_, rfl, a, _, rfl, .inl (s1.seq hA), _, _, rfl, rfl, ?_⟩
 dsimp only
 rw [lx]
 obtain ⟨m, em⟩ : ∃ m, m = ss.length := ⟨_, rfl⟩
 rw [← em] at q I l900 lx ⊢
 refine ⟨_, rfl, a, rfl, ⟨_, s1.seq hA⟩, ?_⟩
 refine lc_fmN (fun _ => some V.non) (s1.seq hA) (by omega) (fun v H2 N hv s2 hN => hN H2 s2) (fun H2 pu H3 s2 n3 => ?_)
 have e3 : ∀ l : List V, l.filterMap (fun _ => some V.non) = List.replicate l.length V.non := fun l => by
  induction l with
  | nil => rfl
  | cons x r ih => rw [List.filterMap_cons, ih]; rfl
 rw [e3, lx] at n3
 have s13 := s2.trans n3.same
 have s3 := s1.trans s13
 have lfs := Paired.length pf'
 have npu : ∀ b u, H1 b = some u → b ≠ pu := fun b u hb z => by
  have := s2.free n3.fresh
  rw [← z, hb] at this
  cases this
 refine ⟨_, rfl, pf, rfl, ⟨_, SqL.of (s13 _ _ hf)⟩, ?_⟩
 refine for_enum (xs := fs.map V.ref) (fun i σ H' => ∃ (v6 v7 v8 : Option V), σ = [some g, some (.ref a), some (.ref pt), some (.ref pf), some (.int ((m : Int) - 1)), some (.ref pu), v6, v7, v8] ∧ (∀ b u, b ≠ pu → H3 b = some u → H' b = some u) ∧ Same H H' ∧ H' pu = some (.lst (upsV m R.feeds i)))
  ⟨none, none, none, rfl, fun _ _ _ h => h, s3, n3.here⟩ (fun i σ H' _ ⟨_, _, _, _, kp, _⟩ => SqL.of (kp _ _ (npu _ _ hf) (s13 _ _ hf))) ?_ ?_
 ·rintro i x σ H4 pz H5 hi ⟨v6, v7, v8, rfl, kp, s4, hu4⟩ nz
  rw [List.getElem?_map] at hi
  obtain ⟨fa, hfa, rfl⟩ := Option.map_eq_some_iff.mp hi
  obtain ⟨f, hfi, hfl, _⟩ := paired_get pf' hfa
  have il : i < R.feeds.length := (List.getElem?_eq_some_iff.mp hfi).1
  have efi : R.feeds.getD i [] = f := by rw [List.getD_eq_getElem?_getD, hfi]; rfl
  have hfa3 := s13 _ _ hfl
  have hfa5 : H5 fa = some (.lst (natV f)) := nz.same _ _ (kp _ _ (npu _ _ hfl) hfa3)
  have hu5 := nz.same _ _ hu4
  have zpu : pz ≠ pu := fun z => by have := nz.fresh; rw [z, hu4] at this; cases this
  refine ⟨pz, _, rfl, SqT.of nz.here, rfl, _, _, rfl, _, _, rfl, rfl, ?_⟩
  refine ⟨_, rfl, fa, rfl, ⟨_, SqL.of hfa5⟩, ?_⟩
  refine for_list (xs := natV f) (fun j σ H' => ∃ (v8 : Option V), σ = [some g, some (.ref a), some (.ref pt), some (.ref pf), some (.int ((m : Int) - 1)), some (.ref pu), some (.int (i : Int)), some (.ref fa), v8] ∧ (∀ b u, b ≠ pu → H5 b = some u → H' b = some u) ∧ Same H H' ∧ H' pu = some (.lst (setAll (upsV m R.feeds i) (f.take j) (.int ((m : Int) - 1 - (i : Int))))))
   ⟨_, rfl, fun _ _ _ h => h, s4.trans nz.same, hu5⟩ (fun j σ H' _ ⟨_, _, kp2, _⟩ => SqL.of (kp2 _ _ (npu _ _ hfl) hfa5)) ?_ ?_
  ·rintro j x σ H6 hx ⟨v8, rfl, kp2, s6, hu6⟩
   rw [List.getElem?_map] at hx
   obtain ⟨y, hy, rfl⟩ := Option.map_eq_some_iff.mp hx
   have yl : y < m := by
    have := run_feeds n10 ss.length (Nat.le_refl _) (sf_go n10 okS) i f (by rw [eR] at hfi; exact hfi) y (List.mem_of_getElem? hy)
    have fl := I.fl
    omega
   have et : f.take (j + 1) = f.take j ++ [y] := by rw [List.take_succ, hy]; rfl
   refine ⟨_, rfl, _, rfl, _, _, rfl, rfl, _, rfl, _, rfl, pu, _, _, y, rfl, rfl, hu6, ixN_nat (by rw [setAll_len, upsV_len]; exact yl), fun H7 c7 => ?_⟩
   refine ⟨_, rfl, fun b u nb h => (c7.rest b nb).trans (kp2 b u nb h), s6.chg ((s1.trans s2).free n3.fresh) c7, ?_⟩
   rw [c7.here, et]
   unfold setAll
   rw [List.foldl_append]
   rfl
  ·rintro σ H6 ⟨v8, rfl, kp2, s6, hu6⟩
   rw [List.length_map, List.take_length] at hu6
   refine ⟨_, _, _, rfl, fun b u nb h => kp2 b u nb (nz.same _ _ (kp b u nb h)), s6, ?_⟩
   rw [hu6]
   show _ = some (HO.lst (setAll (upsV m R.feeds i) (R.feeds.getD i []) (.int ((m : Int) - 1 - (i : Int)))))
   rw [efi]
 rintro σ H4 ⟨v6, v7, v8, rfl, kp, s4, hu4⟩
 rw [List.length_map, lfs, I.fl] at hu4
 have ht4 : H4 pt = some (.lst vt) := kp _ _ (npu _ _ ht) (s13 _ _ ht)
 have lvt := Paired.length pv
 rw [I.tl] at lvt
 have pv4 : ∀ j, j < m → ∃ b, vt[j]? = some (.ref b) ∧ SqL K H4 b ((R.tops.getD j []).map V.int) ∧ (R.tops.getD j []).length ≤ 1000 := fun j hj => by
  have jl : j < R.tops.length := by rw [I.tl]; exact hj
  obtain ⟨v, hv, p, rfl, hp, _⟩ := paired_getr pv (List.getElem?_eq_getElem jl)
  have eg : R.tops.getD j [] = R.tops[j] := by rw [List.getD_eq_getElem?_getD, List.getElem?_eq_getElem jl]; rfl
  refine ⟨p, hv, ?_, by rw [eg]; exact (I.sm _ (List.getElem_mem jl)).2⟩
  rw [eg]
  rcases hp with h | h
  ·refine .inl ?_
   rcases h with h | ⟨u, h⟩
   ·exact .inl (kp _ _ (npu _ _ h) (s13 _ _ h))
   ·exact .inr ⟨u, kp _ _ (npu _ _ h) (s13 _ _ h)⟩
  ·exact .inr h
 refine ⟨_, rfl, _, rfl, _, rfl, _, _, rfl, ⟨by omega, by omega, by omega, by omega⟩, ?_⟩
 have en : ((m : Int) - 1 - (-1)).toNat = m := by omega
 rw [en]
 refine lc_down (fun i ys H' => ∃ ps bs : List Addr, ys = ps.map V.ref ∧ ps.length = i ∧ bs.length = i ∧ bs.Nodup ∧ (∀ b ∈ bs, H4 b = none ∧ ∃ u, H' b = some u) ∧ Same H4 H' ∧ ∀ j, j < i → H' (ps.getD j 0) = some (.tup [(upsV m R.feeds m).getD (m - 1 - j) .non, .ref (bs.getD j 0)]) ∧ H' (bs.getD j 0) = some (.lst ((R.tops.getD (m - 1 - j) []).map V.int)))
  ⟨[], [], rfl, rfl, rfl, .nil, fun b h => absurd h List.not_mem_nil, Same.refl _, fun j hj => absurd hj (Nat.not_lt_zero _)⟩ (fun i ys H' hi ⟨ps, bs, e, l, _⟩ => by rw [e, List.length_map, l]; exact Nat.le_of_lt (small1000 (by omega))) (fun i ys H5 hi ⟨ps, bs, e, lp, lb, nd, fr, s5, at_⟩ => ?_) (fun ys H5 ⟨ps, bs, e, lp, lb, nd, fr, s5, at_⟩ p6 hp6 => ?_)
 ·have ei : (m : Int) - 1 - (i : Int) = ((m - 1 - i : Nat) : Int) := by omega
  rw [ei]
  obtain ⟨b, hb, hbl, bl⟩ := pv4 (m - 1 - i) (by omega)
  have au : atI (upsV m R.feeds m) ((m - 1 - i : Nat) : Int) = some ((upsV m R.feeds m).getD (m - 1 - i) .non) := by
   refine atI_nat ?_
   rw [List.getD_eq_getElem?_getD, List.getElem?_eq_getElem (by rw [upsV_len]; omega)]; rfl
  refine ⟨_, rfl, _, rfl, pu, _, _, _, rfl, rfl, SqL.of (s5 _ _ hu4), au, _, rfl, _, rfl, pt, _, _, _, rfl, rfl, SqL.of (s5 _ _ ht4), atI_nat hb, b, _, rfl, .inl (s5.seq hbl), fun p7 H7 n7 => ⟨(by show 2 ≤ 1000; decide), fun p8 H8 n8 => ?_⟩⟩
  have s58 := n7.same.trans n8.same
  refine ⟨ps ++ [p8], bs ++ [p7], by rw [e, List.map_append]; rfl, by rw [List.length_append, lp]; rfl, by rw [List.length_append, lb]; rfl, List.nodup_append.mpr ⟨nd, by simp, fun x hx y hy z => ?_⟩, fun b hb => ?_, s5.trans s58, fun j hj => ?_⟩
  ·rw [List.mem_singleton.mp hy] at z
   obtain ⟨u, hu⟩ := (fr x hx).2
   have := n7.fresh
   rw [← z, hu] at this
   cases this
  ·rcases List.mem_append.mp hb with hb | hb
   ·obtain ⟨h1, u, h2⟩ := fr b hb
    exact ⟨h1, u, s58 _ _ h2⟩
   ·rw [List.mem_singleton.mp hb]
    exact ⟨s5.free n7.fresh, _, n8.same _ _ n7.here⟩
  ·by_cases c : j < i
   ·rw [List.getD_eq_getElem?_getD, List.getElem?_append_left (by omega), ← List.getD_eq_getElem?_getD, List.getD_eq_getElem?_getD (l := bs ++ [p7]), List.getElem?_append_left (by omega), ← List.getD_eq_getElem?_getD]
    exact ⟨s58 _ _ (at_ j c).1, s58 _ _ (at_ j c).2⟩
   ·obtain rfl : j = i := by omega
    rw [List.getD_eq_getElem?_getD, List.getElem?_append_right (by omega), lp, Nat.sub_self, List.getD_eq_getElem?_getD (l := bs ++ [p7]), List.getElem?_append_right (by omega), lb, Nat.sub_self]
    exact ⟨n8.here, n8.same _ _ n7.here⟩
 ·subst e
  have n6 : New H5 p6 (.lst (ps.map V.ref)) (upd H5 p6 (.lst (ps.map V.ref))) := New.mk0 hp6
  refine q p6 ps bs _ (s4.trans (s5.trans n6.same)) ((s4.trans s5).free n6.fresh) n6.here lp lb nd (fun b hb => s4.free (fr b hb).1) (fun hm => ?_) (fun j hj => ⟨n6.same _ _ (at_ j hj).1, n6.same _ _ (at_ j hj).2⟩)
  obtain ⟨u, hu⟩ := (fr p6 hm).2
  have := n6.fresh
  rw [hu] at this
  cases this
end
end K
namespace K
open PySem L2 Lw Bg
abbrev rng (n : Nat) : List Int := (List.range n).map fun i => ((i : Nat) : Int)
theorem mem_rng {n : Nat} {v : Int} : v ∈ rng n ↔ 0 ≤ v ∧ v < (n : Int) := by
 rw [List.mem_map]
 constructor
 ·rintro ⟨i, hi, rfl⟩
  have := List.mem_range.mp hi
  omega
 ·rintro ⟨h0, h1⟩
  exact ⟨v.toNat, List.mem_range.mpr (by omega), by omega⟩
theorem nodup_rng (n : Nat) : (rng n).Nodup := by
 unfold List.Nodup
 rw [List.pairwise_map]
 exact List.pairwise_lt_range.imp fun h => by omega
theorem count_add {α : Type} (p q : α → Bool) (h : ∀ x, p x = true → q x = true) : ∀ l : List α, l.countP p + l.countP (fun x => q x && !p x) = l.countP q
 | [] => rfl
 | x :: l => by
  have ih := count_add p q h l
  rw [List.countP_cons, List.countP_cons, List.countP_cons]
  cases hp : p x with
  | true => rw [h x hp]; simp; omega
  | false =>
   cases hq : q x with
   | true => simp; omega
   | false => simp; omega
theorem count_sum {α : Type} (l : List α) (p : Nat → α → Bool) : ∀ (js : List Nat) (q : α → Bool), js.Nodup → (∀ j ∈ js, ∀ x, p j x = true → q x = true) → (∀ j ∈ js, ∀ j' ∈ js, ∀ x, p j x = true → p j' x = true → j = j') → (js.map fun j => l.countP (p j)).sum ≤ l.countP q
 | [], _, _, _, _ => Nat.zero_le _
 | j :: js, q, nd, hq, one => by
  obtain ⟨n1, n2⟩ := List.nodup_cons.mp nd
  have ih := count_sum l p js (fun x => q x && !p j x) n2 (fun i hi x hx => by
   rw [Bool.and_eq_true]
   refine ⟨hq i (List.mem_cons_of_mem _ hi) x hx, ?_⟩
   cases hp : p j x with
   | false => rfl
   | true => exact absurd (one j List.mem_cons_self i (List.mem_cons_of_mem _ hi) x hp hx ▸ hi) n1) (fun a ha b hb x h1 h2 => one a (List.mem_cons_of_mem _ ha) b (List.mem_cons_of_mem _ hb) x h1 h2)
  have := count_add (p j) q (hq j List.mem_cons_self) l
  rw [List.map_cons, List.sum_cons]
  omega
section
open Classical
variable {n m : Nat} {up : Nat → Nat} {bag : Nat → List Int}
noncomputable def cR (m : Nat) (up : Nat → Nat) (k : Nat) : Nat := (List.range m).countP fun r => decide (Bel m up k r)
noncomputable def cT (m : Nat) (up : Nat → Nat) (bag : Nat → List Int) (tb : List (Int × Int)) (k : Nat) : Nat := tb.countP fun t => decide (∃ r, Bel m up k r ∧ Homed up bag r t)
theorem kids_cR (T : Tb n m up bag) {k : Nat} (km : k < m) : 1 + ((kidsF m up k).map fun j => cR m up j).sum ≤ cR m up k := by
 have kid : ∀ j ∈ kidsF m up k, 0 < j ∧ j < m ∧ up j = k := fun j hj => (mem_kids T).mp hj
 have ne : ∀ j ∈ kidsF m up k, j ≠ k := fun j hj e => by
  obtain ⟨j0, jm, ju⟩ := kid j hj
  have := T.ups j j0 jm
  omega
 have h := count_sum (List.range m) (fun j r => if j = k then decide (r = k) else decide (Bel m up j r)) (k :: kidsF m up k) (fun r => decide (Bel m up k r)) (List.nodup_cons.mpr ⟨fun z => ne k z rfl, nd_kids _ _ _⟩) (fun j hj x hx => by
  by_cases c : j = k
  ·rw [if_pos c, decide_eq_true_iff] at hx
   rw [hx]; exact decide_eq_true (.self km)
  ·rw [if_neg c, decide_eq_true_iff] at hx
   rcases List.mem_cons.mp hj with e | hj
   ·exact absurd e c
   ·obtain ⟨j0, jm, ju⟩ := kid j hj
    exact decide_eq_true (Bel.trans (.step j0 jm (by rw [ju]; exact .self km)) hx)) (fun a ha b hb x h1 h2 => by
  have nk : ∀ {j : Nat}, j ∈ kidsF m up k → ¬ Bel m up j k := fun {j} hj z => by
   obtain ⟨j0, jm, ju⟩ := kid j hj
   have := T.ups j j0 jm
   have := z.le T
   omega
  rcases List.mem_cons.mp ha with ea | ha <;> rcases List.mem_cons.mp hb with eb | hb
  ·rw [ea, eb]
  ·rw [if_pos ea, decide_eq_true_iff] at h1
   rw [if_neg (ne b hb), decide_eq_true_iff] at h2
   exact absurd (h1 ▸ h2) (nk hb)
  ·rw [if_pos eb, decide_eq_true_iff] at h2
   rw [if_neg (ne a ha), decide_eq_true_iff] at h1
   exact absurd (h2 ▸ h1) (nk ha)
  ·rw [if_neg (ne a ha), decide_eq_true_iff] at h1
   rw [if_neg (ne b hb), decide_eq_true_iff] at h2
   obtain ⟨a0, am, au⟩ := kid a ha
   obtain ⟨b0, bm, bu⟩ := kid b hb
   exact sib_one T a0 am b0 bm (au.trans bu.symm) h1 h2)
 rw [List.map_cons, List.sum_cons] at h
 have e1 : (List.range m).countP (fun r => if k = k then decide (r = k) else decide (Bel m up k r)) = 1 := by
  have : (fun r => if k = k then decide (r = k) else decide (Bel m up k r)) = fun r => decide (r = k) := funext fun r => if_pos rfl
  rw [this]
  have h1 := List.nodup_range (n := m)
  have h2 : List.count k (List.range m) = 1 := by rw [h1.count, if_pos (List.mem_range.mpr km)]
  rw [← h2]
  unfold List.count
  congr 1
  try (funext r; exact (Bool.eq_iff_iff.mpr (by simp)))
 have e2 : (kidsF m up k).map (fun j => (List.range m).countP fun r => if j = k then decide (r = k) else decide (Bel m up j r)) = (kidsF m up k).map fun j => cR m up j := List.map_congr_left fun j hj => by
  unfold cR
  congr 1
  funext r
  rw [if_neg (ne j hj)]
 rw [e1, e2] at h
 exact h
theorem kids_cT (T : Tb n m up bag) {k : Nat} (km : k < m) (tb : List (Int × Int)) : (ownT up bag tb k).length + ((kidsF m up k).map fun j => cT m up bag tb j).sum ≤ cT m up bag tb k := by
 have kid : ∀ j ∈ kidsF m up k, 0 < j ∧ j < m ∧ up j = k := fun j hj => (mem_kids T).mp hj
 have ne : ∀ j ∈ kidsF m up k, j ≠ k := fun j hj e => by
  obtain ⟨j0, jm, ju⟩ := kid j hj
  have := T.ups j j0 jm
  omega
 have h := count_sum tb (fun j t => if j = k then decide (Homed up bag k t) else decide (∃ r, Bel m up j r ∧ Homed up bag r t)) (k :: kidsF m up k) (fun t => decide (∃ r, Bel m up k r ∧ Homed up bag r t)) (List.nodup_cons.mpr ⟨fun z => ne k z rfl, nd_kids _ _ _⟩) (fun j hj x hx => by
  by_cases c : j = k
  ·rw [if_pos c, decide_eq_true_iff] at hx
   exact decide_eq_true ⟨k, .self km, hx⟩
  ·rw [if_neg c, decide_eq_true_iff] at hx
   obtain ⟨r, br, hr⟩ := hx
   rcases List.mem_cons.mp hj with e | hj
   ·exact absurd e c
   ·obtain ⟨j0, jm, ju⟩ := kid j hj
    exact decide_eq_true ⟨r, Bel.trans (.step j0 jm (by rw [ju]; exact .self km)) br, hr⟩) (fun a ha b hb x h1 h2 => by
  have nk : ∀ {j : Nat}, j ∈ kidsF m up k → ¬ Bel m up j k := fun {j} hj z => by
   obtain ⟨j0, jm, ju⟩ := kid j hj
   have := T.ups j j0 jm
   have := z.le T
   omega
  rcases List.mem_cons.mp ha with ea | ha <;> rcases List.mem_cons.mp hb with eb | hb
  ·rw [ea, eb]
  ·rw [if_pos ea, decide_eq_true_iff] at h1
   rw [if_neg (ne b hb), decide_eq_true_iff] at h2
   obtain ⟨r, br, hr⟩ := h2
   exact absurd (home_one T hr h1 ▸ br) (nk hb)
  ·rw [if_pos eb, decide_eq_true_iff] at h2
   rw [if_neg (ne a ha), decide_eq_true_iff] at h1
   obtain ⟨r, br, hr⟩ := h1
   exact absurd (home_one T hr h2 ▸ br) (nk ha)
  ·rw [if_neg (ne a ha), decide_eq_true_iff] at h1
   rw [if_neg (ne b hb), decide_eq_true_iff] at h2
   obtain ⟨r, br, hr⟩ := h1
   obtain ⟨r', br', hr'⟩ := h2
   have := home_one T hr hr'
   subst this
   obtain ⟨a0, am, au⟩ := kid a ha
   obtain ⟨b0, bm, bu⟩ := kid b hb
   exact sib_one T a0 am b0 bm (au.trans bu.symm) br br')
 rw [List.map_cons, List.sum_cons] at h
 have e1 : tb.countP (fun t => if k = k then decide (Homed up bag k t) else decide (∃ r, Bel m up k r ∧ Homed up bag r t)) = (ownT up bag tb k).length := by
  unfold ownT
  rw [← List.countP_eq_length_filter]
  congr 1
  funext t
  rw [if_pos rfl]
  try exact decide_eq_decide.mpr Iff.rfl
 have e2 : (kidsF m up k).map (fun j => tb.countP fun t => if j = k then decide (Homed up bag k t) else decide (∃ r, Bel m up j r ∧ Homed up bag r t)) = (kidsF m up k).map fun j => cT m up bag tb j := List.map_congr_left fun j hj => by
  unfold cT
  congr 1
  funext t
  rw [if_neg (ne j hj)]
 rw [e1, e2] at h
 exact h
theorem sum_len {α : Type} (L : Nat → List α) (c d : Nat → Nat) : ∀ js : List Nat, (∀ j ∈ js, (L j).length ≤ 14 * c j + d j) → (js.flatMap L).length ≤ 14 * (js.map c).sum + (js.map d).sum
 | [], _ => Nat.zero_le _
 | j :: js, h => by
  have ih := sum_len L c d js fun i hi => h i (List.mem_cons_of_mem _ hi)
  have := h j List.mem_cons_self
  rw [List.flatMap_cons, List.length_append, List.map_cons, List.sum_cons, List.map_cons, List.sum_cons]
  omega
theorem block_len (hW : ∀ k, (bag k).length ≤ 4) (j k : Nat) : (blockS bag j k).length ≤ 8 := by
 have f1 : (betw (bag j) (bag k)).length ≤ 4 := Nat.le_trans (List.length_filter_le _ _) (hW j)
 have f2 : (betw (bag k) (bag j)).length ≤ 4 := Nat.le_trans (List.length_filter_le _ _) (hW k)
 unfold blockS
 rw [List.length_append, List.length_map, List.length_map]
 omega
end
def upR (rs : List Row) (k : Nat) : Nat := ((rowAt rs k).1.getD 0).toNat
def bagR (rs : List Row) (k : Nat) : List Int := (rowAt rs k).2
theorem rowAt_ge {rs : List Row} {k : Nat} (h : rs.length ≤ k) : rowAt rs k = (none, []) := by
 unfold rowAt
 rw [List.getD_eq_getElem?_getD, List.getElem?_eq_none h]; rfl
theorem bagR_snoc (rs : List Row) (r : Row) (k : Nat) : bagR (rs ++ [r]) k = if k = rs.length then r.2 else bagR rs k := by
 unfold bagR
 by_cases c : k = rs.length
 ·rw [if_pos c, c, rowAt_snoc_eq]
 ·rw [if_neg c]
  by_cases d : k < rs.length
  ·rw [rowAt_snoc_lt d]
  ·rw [rowAt_ge (by rw [List.length_append, List.length_singleton]; omega), rowAt_ge (by omega)]
theorem upR_snoc (rs : List Row) (r : Row) (k : Nat) : upR (rs ++ [r]) k = if k = rs.length then (r.1.getD 0).toNat else upR rs k := by
 unfold upR
 by_cases c : k = rs.length
 ·rw [if_pos c, c, rowAt_snoc_eq]
 ·rw [if_neg c]
  by_cases d : k < rs.length
  ·rw [rowAt_snoc_lt d]
  ·rw [rowAt_ge (by rw [List.length_append, List.length_singleton]; omega), rowAt_ge (by omega)]
structure Rw (n most : Nat) (rs : List Row) (us : List Int) : Prop where
 T : Tb n rs.length (upR rs) (bagR rs)
 r0 : (rowAt rs 0).1 = none
 ru : ∀ k, 0 < k → k < rs.length → (rowAt rs k).1 = some ((upR rs k : Nat) : Int)
 nd : us.Nodup
 lt : ∀ v ∈ us, 0 ≤ v ∧ v < (n : Int)
 dis : ∀ v ∈ us, ∀ k, v ∉ bagR rs k
 cov : ∀ v : Int, 0 ≤ v → v < (n : Int) → v ∈ us ∨ ∃ k, v ∈ bagR rs k
 few : ∀ k, (bagR rs k).length ≤ most
theorem split_at (us : List Int) (c : Nat) : us.take (us.length - c) ++ us.drop (us.length - c) = us := List.take_append_drop _ _
theorem rw_0 {n most c : Nat} {us zs : List Int} (pm : us.Perm (rng n)) (cm : c ≤ most) (hz : zs.Perm (us.drop (us.length - c)).reverse) : Rw n most [(none, zs)] (us.take (us.length - c)) := by
 have ndu : us.Nodup := pm.nodup_iff.mpr (nodup_rng n)
 have inn : ∀ v ∈ us, 0 ≤ v ∧ v < (n : Int) := fun v hv => mem_rng.mp (pm.mem_iff.mp hv)
 have nd2 := ndu
 rw [← split_at us c] at nd2
 obtain ⟨n1, n2, dj⟩ := List.nodup_append.mp nd2
 have mz : ∀ v, v ∈ zs ↔ v ∈ us.drop (us.length - c) := fun v => by rw [hz.mem_iff, List.mem_reverse]
 have bg : ∀ k, bagR [(none, zs)] k = if k = 0 then zs else [] := fun k => by
  cases k with
  | zero => rfl
  | succ k => rfl
 have lz : zs.length ≤ most := by
  rw [hz.length_eq, List.length_reverse, List.length_drop]; omega
 refine ⟨⟨Nat.zero_lt_one, fun k h0 h1 => ?_, fun k => ?_, fun k v hv => ?_, fun k h0 h1 => ?_, fun k hk => ?_⟩, rfl, fun k h0 h1 => ?_, n1, fun v hv => inn v (List.mem_of_mem_take hv), fun v hv k hk => ?_, fun v v0 v1 => ?_, fun k => ?_⟩
 ·exact absurd h1 (by show ¬ k < 1; omega)
 ·rw [bg]; split
  ·exact hz.nodup_iff.mpr ((List.reverse_perm _).nodup_iff.mpr n2)
  ·exact .nil
 ·rw [bg] at hv
  split at hv
  ·exact inn v (List.mem_of_mem_drop ((mz v).mp hv))
  ·exact absurd hv List.not_mem_nil
 ·exact absurd h1 (by show ¬ k < 1; omega)
 ·rw [bg, if_neg (by have : 1 ≤ k := hk; omega)]
 ·exact absurd h1 (by show ¬ k < 1; omega)
 ·rw [bg] at hk
  split at hk
  ·exact dj v hv v ((mz v).mp hk) rfl
  ·exact absurd hk List.not_mem_nil
 ·have : v ∈ us := pm.mem_iff.mpr (mem_rng.mpr ⟨v0, v1⟩)
  rw [← split_at us c] at this
  rcases List.mem_append.mp this with h | h
  ·exact .inl h
  ·exact .inr ⟨0, (mz v).mpr h⟩
 ·rw [bg]; split
  ·exact lz
  ·exact Nat.zero_le _
theorem rw_add {n most c f : Nat} {rs : List Row} {us ks zs : List Int} (W : Rw n most rs us) (fl : f < rs.length) (sb : List.Sublist ks (bagR rs f)) (lc : ks.length + c ≤ most) (hz : zs.Perm (ks ++ (us.drop (us.length - c)).reverse)) : Rw n most (rs ++ [(some (f : Int), zs)]) (us.take (us.length - c)) := by
 have nd2 := W.nd
 rw [← split_at us c] at nd2
 obtain ⟨n1, n2, dj⟩ := List.nodup_append.mp nd2
 have mz : ∀ v, v ∈ zs ↔ v ∈ ks ∨ v ∈ us.drop (us.length - c) := fun v => by rw [hz.mem_iff, List.mem_append, List.mem_reverse]
 have lz : zs.length ≤ most := by
  rw [hz.length_eq, List.length_append, List.length_reverse, List.length_drop]; omega
 have ll : (rs ++ [((some (f : Int), zs) : Row)]).length = rs.length + 1 := by rw [List.length_append, List.length_singleton]
 have ndz : zs.Nodup := hz.nodup_iff.mpr (List.nodup_append.mpr ⟨(W.T.nd f).sublist sb, (List.reverse_perm _).nodup_iff.mpr n2, fun x hx y hy e => by
  subst e
  exact W.dis x (List.mem_of_mem_drop (List.mem_reverse.mp hy)) f (sb.subset hx)⟩)
 have un : upR (rs ++ [((some (f : Int), zs) : Row)]) rs.length = f := by
  rw [upR_snoc, if_pos rfl]; rfl
 refine ⟨⟨by omega, fun k h0 h1 => ?_, fun k => ?_, fun k v hv => ?_, fun k h0 h1 v hv => ?_, fun k hk => ?_⟩, ?_, fun k h0 h1 => ?_, n1, fun v hv => W.lt v (List.mem_of_mem_take hv), fun v hv k hk => ?_, fun v v0 v1 => ?_, fun k => ?_⟩
 ·rw [ll] at h1
  by_cases e : k = rs.length
  ·subst e; rw [un]; exact fl
  ·rw [upR_snoc, if_neg e]; exact W.T.ups k h0 (by omega)
 ·rw [bagR_snoc]; split
  ·exact ndz
  ·exact W.T.nd k
 ·rw [bagR_snoc] at hv
  split at hv
  ·rcases (mz v).mp hv with h | h
   ·exact W.T.lt f v (sb.subset h)
   ·exact W.lt v (List.mem_of_mem_drop h)
  ·exact W.T.lt k v hv
 ·rw [ll] at h1
  by_cases e : k = rs.length
  ·subst e
   rw [un]
   rw [bagR_snoc, if_pos rfl] at hv
   rcases (mz v).mp hv with h | h
   ·refine .inl ?_
    rw [bagR_snoc, if_neg (by omega)]
    exact sb.subset h
   ·refine .inr fun j hj => ?_
    rw [bagR_snoc, if_neg (by omega)]
    exact W.dis v (List.mem_of_mem_drop h) j
  ·have kl : k < rs.length := by omega
   rw [bagR_snoc, if_neg e] at hv
   rw [upR_snoc, if_neg e]
   have ul := W.T.ups k h0 kl
   rcases W.T.fr k h0 kl v hv with h | h
   ·refine .inl ?_
    rw [bagR_snoc, if_neg (by omega)]
    exact h
   ·refine .inr fun j hj => ?_
    rw [bagR_snoc, if_neg (by omega)]
    exact h j hj
 ·rw [ll] at hk
  rw [bagR_snoc, if_neg (by omega)]
  exact W.T.no k (by omega)
 ·rw [rowAt_snoc_lt W.T.pos]; exact W.r0
 ·rw [ll] at h1
  by_cases e : k = rs.length
  ·subst e; rw [un, rowAt_snoc_eq]
  ·rw [upR_snoc, if_neg e, rowAt_snoc_lt (by omega)]; exact W.ru k h0 (by omega)
 ·rw [bagR_snoc] at hk
  split at hk
  ·rcases (mz v).mp hk with h | h
   ·exact W.dis v (List.mem_of_mem_take hv) f (sb.subset h)
   ·exact dj v hv v h rfl
  ·exact W.dis v (List.mem_of_mem_take hv) k hk
 ·rcases W.cov v v0 v1 with h | ⟨k, h⟩
  ·rw [← split_at us c] at h
   rcases List.mem_append.mp h with h | h
   ·exact .inl h
   ·refine .inr ⟨rs.length, ?_⟩
    rw [bagR_snoc, if_pos rfl]
    exact (mz v).mpr (.inr h)
  ·refine .inr ⟨k, ?_⟩
   have kl := W.T.in_ h
   rw [bagR_snoc, if_neg (by omega)]
   exact h
 ·rw [bagR_snoc]; split
  ·exact lz
  ·exact W.few k
def RwX (ex : List Addr) (H : Hp) (v : V) (r : Row) : Prop := ∃ p b, v = .ref p ∧ H p = some (.tup [upV r.1, .ref b]) ∧ H b = some (.lst (r.2.map V.int)) ∧ b ∉ ex ∧ r.2.length ≤ 1000
theorem RwX.same {ex : List Addr} {H H' : Hp} {v : V} {r : Row} (s : Same H H') (h : RwX ex H v r) : RwX ex H' v r := by
 obtain ⟨p, b, e, h1, h2, h3⟩ := h
 exact ⟨p, b, e, s _ _ h1, s _ _ h2, h3⟩
theorem RwX.chg {ex : List Addr} {H H' : Hp} {l : Addr} {xs : List V} {o : HO} {v : V} {r : Row} (hl : H l = some (.lst xs)) (c : Chg H l o H') (m : l ∈ ex) (h : RwX ex H v r) : RwX ex H' v r := by
 obtain ⟨p, b, e, h1, h2, h3, h4⟩ := h
 exact ⟨p, b, e, (c.rest p fun z => by rw [z, hl] at h1; cases h1).trans h1, (c.rest b fun z => h3 (z ▸ m)).trans h2, h3, h4⟩
theorem RwX.l {ex : List Addr} {l : Addr} {H : Hp} {v : V} {r : Row} (m : l ∈ ex) (h : RwX ex H v r) : RowL l H v r := by
 obtain ⟨p, b, e, h1, h2, h3, h4⟩ := h
 exact ⟨p, b, e, h1, h2, fun z => h3 (z ▸ m), h4⟩
theorem lc_pops {ix : List (Option Nat)} {g : TG} {tt : TT} {te : TE} {σ : St} {H : Hp} {Q : VK} {pl : Addr} {us : List Int} {c : Nat} {lo : Int} (h : H pl = some (.lst (us.map V.int))) (hc : c ≤ us.length) (lu : us.length ≤ 900)
  (hs : ∀ (i : Nat) (H' : Hp) (xs : List V) (y : V) (N : VK) (M : Hp → Prop), H' pl = some (.lst (xs ++ [y])) → (∀ H2, Chg H' pl (.lst xs) H2 → N y H2) → g (.int (lo + i)) (capt ix σ) H' fun σ2 H2 => tt σ2 H2 fun b H3 => if b = true then te σ2 H3 N else M H3)
  (hd : ∀ H1 p H2, Chg H pl (.lst ((us.take (us.length - c)).map V.int)) H1 → New H1 p (.lst ((us.drop (us.length - c)).reverse.map V.int)) H2 → Q (.ref p) H2) : LcGoal ix g tt te σ H Q (Itr lo c) := by
 refine lc_range (fun i ys H' => ys = (us.drop (us.length - i)).reverse.map V.int ∧ Chg H pl (.lst ((us.take (us.length - i)).map V.int)) H') ⟨?_, ?_, fun _ _ => rfl⟩ (fun i ys H' hi ⟨e, _⟩ => ?_) (fun i ys H' hi ⟨e, c1⟩ => ?_) (fun ys H' ⟨e, c1⟩ p hp => ?_)
 ·rw [Nat.sub_zero, List.drop_length]; rfl
 ·rw [Nat.sub_zero, List.take_length]; exact h
 ·rw [e, List.length_map, List.length_reverse, List.length_drop]; exact Nat.le_of_lt (small1000 (by omega))
 ·have jl : us.length - (i + 1) < us.length := by omega
  have e1 : us.length - i = us.length - (i + 1) + 1 := by omega
  have et : us.take (us.length - i) = us.take (us.length - (i + 1)) ++ [us[us.length - (i + 1)]] := by rw [e1, List.take_succ_eq_append_getElem jl]
  have ed : us.drop (us.length - (i + 1)) = us[us.length - (i + 1)] :: us.drop (us.length - i) := by rw [List.drop_eq_getElem_cons jl, e1]
  have h1 := c1.here
  rw [et, List.map_append] at h1
  refine hs i H' _ _ (fun v H4 => ys ++ [v] = (us.drop (us.length - (i + 1))).reverse.map V.int ∧ Chg H pl (.lst ((us.take (us.length - (i + 1))).map V.int)) H4) _ h1 fun H2 c2 => ⟨?_, c2.here, fun b hb => (c2.rest b hb).trans (c1.rest b hb)⟩
  rw [e, ed, List.reverse_cons, List.map_append]; rfl
 ·subst e
  exact hd H' p _ c1 (New.mk0 hp)
def ownS (up : Nat → Nat) (bag : Nat → List Int) (tb : List (Int × Int)) (k : Nat) : List Stp := (ownT up bag tb k).map fun t => .tie t.1 t.2
def upJ (bag : Nat → List Int) (L : Nat → List Stp) (k : Nat) (M : List Stp) (j : Nat) : List Stp := M ++ L j ++ blockS bag j k ++ if M.isEmpty = true then [] else [.join]
def stepsU (tb : List (Int × Int)) (m : Nat) (up : Nat → Nat) (bag : Nat → List Int) : Nat → Nat → List Stp
 | 0, _ => []
 | f + 1, k => (if ((kidsF m up k).foldl (upJ bag (stepsU tb m up bag f) k) []).isEmpty = true then .leaf :: (bag k).map .inn else (kidsF m up k).foldl (upJ bag (stepsU tb m up bag f) k) []) ++ ownS up bag tb k
theorem upJ_ne {bag : Nat → List Int} {L : Nat → List Stp} {k : Nat} {M : List Stp} {j : Nat} (h : M ≠ [] ∨ L j ≠ []) : upJ bag L k M j ≠ [] := fun z => by
 unfold upJ at z
 have z1 := (List.append_eq_nil_iff.mp z).1
 have z2 := (List.append_eq_nil_iff.mp z1).1
 obtain ⟨z3, z4⟩ := List.append_eq_nil_iff.mp z2
 rcases h with h | h
 ·exact h z3
 ·exact h z4
theorem fold_upJ (bag : Nat → List Int) (L : Nat → List Stp) (k : Nat) : ∀ (js : List Nat) (M : List Stp), M ≠ [] → js.foldl (upJ bag L k) M = M ++ js.flatMap fun j => L j ++ (blockS bag j k ++ [.join])
 | [], M, _ => by rw [List.flatMap_nil, List.append_nil]; rfl
 | j :: js, M, h => by
  show js.foldl (upJ bag L k) (upJ bag L k M j) = _
  rw [fold_upJ bag L k js _ (upJ_ne (.inl h)), List.flatMap_cons]
  have e : upJ bag L k M j = M ++ (L j ++ (blockS bag j k ++ [.join])) := by
   unfold upJ
   have : M.isEmpty = false := by
    cases M with
    | nil => exact absurd rfl h
    | cons _ _ => rfl
   rw [this, if_neg Bool.false_ne_true, List.append_assoc, List.append_assoc]
  rw [e, List.append_assoc]
theorem fold_first (bag : Nat → List Int) (L : Nat → List Stp) (k j : Nat) (js : List Nat) (h : L j ≠ []) : (j :: js).foldl (upJ bag L k) [] = L j ++ (blockS bag j k ++ js.flatMap fun j => L j ++ (blockS bag j k ++ [.join])) := by
 show js.foldl (upJ bag L k) (upJ bag L k [] j) = _
 rw [fold_upJ bag L k js _ (upJ_ne (.inr h))]
 have e : upJ bag L k [] j = L j ++ blockS bag j k := by
  unfold upJ
  rw [List.isEmpty_nil, if_pos rfl, List.append_nil, List.nil_append]
 rw [e, List.append_assoc]
section
variable {n wd m : Nat} {up : Nat → Nat} {bag : Nat → List Int} {ts tb : List (Int × Int)}
theorem stepsU_ne (f k : Nat) : stepsU tb m up bag (f + 1) k ≠ [] := fun z => by
 unfold stepsU at z
 have z1 := (List.append_eq_nil_iff.mp z).1
 split at z1
 ·cases z1
 ·rename_i c
  rw [z1] at c
  exact c rfl
theorem stepsU_ok (T : Tb n m up bag) (hW : ∀ k, (bag k).length ≤ wd) (tn : tb.Nodup) (sub : ∀ t ∈ tb, t ∈ ts) : ∀ f k, k < m → m ≤ k + f → LaysOk n wd m up bag ts tb k (stepsU tb m up bag f k)
 | 0, k, km, mk => absurd km (by omega)
 | f + 1, k, km, mk => by
  intro P G B hG hB
  have kid : ∀ j ∈ kidsF m up k, 0 < j ∧ j < m ∧ up j = k := fun j hj => (mem_kids T).mp hj
  have kb : ∀ {j : Nat}, j ∈ kidsF m up k → ∀ r, Bel m up j r → Bel m up k r := fun {j} hj r b => by
   obtain ⟨j0, jm, ju⟩ := kid j hj
   exact Bel.trans (.step j0 jm (by rw [ju]; exact .self km)) b
  have ly : ∀ j ∈ kidsF m up k, LaysOk n wd m up bag ts tb j (stepsU tb m up bag f j) := fun j hj => by
   obtain ⟨j0, jm, ju⟩ := kid j hj
   have := T.ups j j0 jm
   exact stepsU_ok T hW tn sub f j jm (by omega)
  have ndk := nd_kids m up k
  have hK : ∀ v ∈ bag k, v ∉ G := fun v hv => hG v ⟨k, .self km, hv⟩
  have eS : stepsU tb m up bag (f + 1) k = (if ((kidsF m up k).foldl (upJ bag (stepsU tb m up bag f) k) []).isEmpty = true then .leaf :: (bag k).map .inn else (kidsF m up k).foldl (upJ bag (stepsU tb m up bag f) k) []) ++ ownS up bag tb k := rfl
  rw [eS]
  match e : kidsF m up k, kid, ly, ndk, @kb with
  | [], kid, ly, ndk, kb =>
   have e0 : doF ⟨P, G, B⟩ .leaf = ⟨P ++ [[]], G, B⟩ := rfl
   obtain ⟨a1, e1⟩ := go_ins (wd := wd) (n := n) (ts := ts) (bag k) (P := P) (b := []) (G := G) (B := B) (T.nd k) (T.lt k) (fun v _ => List.not_mem_nil) hK (by have := hW k; show 0 + _ ≤ wd; omega)
   rw [List.nil_append] at e1
   obtain ⟨B2, a2, e2, mG, mB⟩ := go_own (wd := wd) (ts := ts) T hW km tn sub (P := P) (b := bag k) (G := G) (G' := G) (B := B) (B' := B) (List.Perm.refl _) hB (fun v => by rw [e]; simp) (fun t => by rw [e]; simp)
   show ∃ b G' B', _ ∧ AllC n wd ts ⟨P, G, B⟩ ((.leaf :: (bag k).map .inn) ++ ownS up bag tb k) ∧ goK ⟨P, G, B⟩ ((.leaf :: (bag k).map .inn) ++ ownS up bag tb k) = _ ∧ _
   refine ⟨bag k, G, B2, List.Perm.refl _, ⟨⟨trivial, ?_⟩, ?_⟩, ?_, mG, mB⟩
   ·rw [e0, kp_top]; exact Nat.zero_le _
   ·rw [e0]
    exact allC_app a1 (by rw [e1]; exact a2)
   ·show goK (doF ⟨P, G, B⟩ .leaf) ((bag k).map .inn ++ ownS up bag tb k) = _
    rw [e0, goK_app, e1]
    exact e2
  | j :: js, kid, ly, ndk, kb =>
   obtain ⟨n1, n2⟩ := List.nodup_cons.mp ndk
   obtain ⟨j0, jm, ju⟩ := kid j List.mem_cons_self
   have uj := T.ups j j0 jm
   have lne : stepsU tb m up bag f j ≠ [] := by
    cases f with
    | zero => exact absurd jm (by omega)
    | succ f => exact stepsU_ne f j
   rw [fold_first bag _ k j js lne, if_neg (fun z => by
    rw [List.isEmpty_iff] at z
    exact lne (List.append_eq_nil_iff.mp z).1)]
   have sk : ∀ {i : Nat}, i ∈ j :: js → ∀ v, SubV m up bag i v → SubV m up bag k v := fun {i} hi v ⟨r, br, hr⟩ => ⟨r, kb hi r br, hr⟩
   obtain ⟨bj, G1, B1, pj, a1, e1, mG1, mB1⟩ := ly j List.mem_cons_self P G B (fun v hv => hG v (sk List.mem_cons_self v hv)) (fun t ht r br => hB t ht r (kb List.mem_cons_self r br))
   have selfj : ∀ v ∈ bag j, SubV m up bag j v := fun v hv => ⟨j, .self jm, hv⟩
   obtain ⟨a2, b2, p2, e2⟩ := go_block (ts := ts) T hW (k := k) (P := P) (G := G1) (B := B1) pj (fun v hv _ z => by
    rcases (mG1 v).mp z with z | z
    ·exact hG v (sk List.mem_cons_self v (selfj v hv)) z
    ·exact z.2 hv) (fun v hv nv z => by
    rcases (mG1 v).mp z with z | z
    ·exact hK v hv z
    ·exact nv (sub_up T j0 jm z.1 (ju ▸ hv)))
   have mG2 : ∀ v, v ∈ G1 ++ betw (bag j) (bag k) ↔ v ∈ G ∨ (SubV m up bag j v ∧ v ∉ bag k) := fun v => by
    rw [List.mem_append, mG1, mem_betw]
    constructor
    ·rintro ((z | ⟨z1, z2⟩) | ⟨z1, z2⟩)
     ·exact .inl z
     ·exact .inr ⟨z1, fun z => z2 (sub_up T j0 jm z1 (ju ▸ z))⟩
     ·exact .inr ⟨selfj v z1, z2⟩
    ·rintro (z | ⟨z1, z2⟩)
     ·exact .inl (.inl z)
     ·by_cases c : v ∈ bag j
      ·exact .inr ⟨c, z2⟩
      ·exact .inl (.inr ⟨z1, c⟩)
   obtain ⟨G3, B3, a3, e3, mG3, mB3⟩ := go_kids (ts := ts) (tb := tb) T hW (k := k) (L := stepsU tb m up bag f) js n2 (fun i hi => kid i (List.mem_cons_of_mem _ hi)) (fun i hi => ly i (List.mem_cons_of_mem _ hi)) (P := P) (b := b2) (G := G1 ++ betw (bag j) (bag k)) (B := B1) p2 (fun i hi v hv z => by
    obtain ⟨i0, im, iu⟩ := kid i (List.mem_cons_of_mem _ hi)
    rcases (mG2 v).mp z with z | ⟨z1, z2⟩
    ·exact hG v (sk (List.mem_cons_of_mem _ hi) v hv) z
    ·exact z2 (ju ▸ sub_sib T j0 jm i0 im (ju.trans iu.symm) (fun z => n1 (z ▸ hi)) z1 hv)) (fun v hv z => by
    rcases (mG2 v).mp z with z | z
    ·exact hK v hv z
    ·exact z.2 hv) (fun i hi t ht r br hr => by
    obtain ⟨i0, im, iu⟩ := kid i (List.mem_cons_of_mem _ hi)
    rcases (mB1 t).mp ht with z | ⟨_, r', br', hr'⟩
    ·exact hB t z r (kb (List.mem_cons_of_mem _ hi) r br) hr
    ·have := home_one T hr hr'
     subst this
     exact n1 (sib_one T j0 jm i0 im (ju.trans iu.symm) br' br ▸ hi))
   obtain ⟨B4, a4, e4, mG4, mB4⟩ := go_own (wd := wd) (ts := ts) T hW km tn sub (P := P) (b := b2) (G := G) (G' := G3) (B := B) (B' := B3) p2 hB (fun v => by
    rw [mG3, mG2, e]
    constructor
    ·rintro ((z | z) | ⟨i, hi, z⟩)
     ·exact .inl z
     ·exact .inr ⟨j, List.mem_cons_self, z⟩
     ·exact .inr ⟨i, List.mem_cons_of_mem _ hi, z⟩
    ·rintro (z | ⟨i, hi, z⟩)
     ·exact .inl (.inl z)
     ·rcases List.mem_cons.mp hi with e | hi
      ·exact .inl (.inr (e ▸ z))
      ·exact .inr ⟨i, hi, z⟩) (fun t => by
    rw [mB3, mB1, e]
    constructor
    ·rintro ((z | ⟨z0, z⟩) | ⟨z0, i, hi, z⟩)
     ·exact .inl z
     ·exact .inr ⟨z0, j, List.mem_cons_self, z⟩
     ·exact .inr ⟨z0, i, List.mem_cons_of_mem _ hi, z⟩
    ·rintro (z | ⟨z0, i, hi, z⟩)
     ·exact .inl (.inl z)
     ·rcases List.mem_cons.mp hi with e | hi
      ·exact .inl (.inr ⟨z0, e ▸ z⟩)
      ·exact .inr ⟨z0, i, hi, z⟩)
   rw [List.append_assoc, List.append_assoc]
   refine ⟨b2, G3, B4, p2, allC_app a1 ?_, ?_, mG4, mB4⟩
   ·rw [e1]
    refine allC_app a2 ?_
    rw [e2]
    exact allC_app a3 (by rw [e3]; exact a4)
   ·rw [goK_app, e1, goK_app, e2, goK_app, e3]
    exact e4
theorem stepsU_len (T : Tb n m up bag) (hW : ∀ k, (bag k).length ≤ 4) (tb : List (Int × Int)) : ∀ f k, k < m → (stepsU tb m up bag f k).length + 9 ≤ 14 * cR m up k + cT m up bag tb k
 | 0, k, km => by
  have h := kids_cR T km
  show 0 + 9 ≤ _
  omega
 | f + 1, k, km => by
  have h1 := kids_cR T km
  have h2 := kids_cT T km tb
  have hb := hW k
  have h3 := sum_len (fun j => stepsU tb m up bag f j ++ (blockS bag j k ++ [Stp.join])) (fun j => cR m up j) (fun j => cT m up bag tb j) (kidsF m up k) fun j hj => by
   obtain ⟨j0, jm, ju⟩ := (mem_kids T).mp hj
   have ih := stepsU_len T hW tb f j jm
   have := block_len hW j k
   show (stepsU tb m up bag f j ++ (blockS bag j k ++ [Stp.join])).length ≤ 14 * cR m up j + cT m up bag tb j
   rw [List.length_append, List.length_append, List.length_singleton]
   omega
  have eo : (ownS up bag tb k).length = (ownT up bag tb k).length := List.length_map _
  have le : ∀ (js : List Nat) (M : List Stp), (js.foldl (upJ bag (stepsU tb m up bag f) k) M).length ≤ M.length + (js.flatMap fun j => stepsU tb m up bag f j ++ (blockS bag j k ++ [Stp.join])).length := fun js => by
   induction js with
   | nil => intro M; exact Nat.le_refl _
   | cons j js ih =>
    intro M
    show (js.foldl _ (upJ bag _ k M j)).length ≤ _
    refine Nat.le_trans (ih _) ?_
    rw [List.flatMap_cons, List.length_append (as := stepsU tb m up bag f j ++ _), List.length_append (as := stepsU tb m up bag f j), List.length_append (as := blockS bag j k), List.length_singleton]
    unfold upJ
    rw [List.length_append, List.length_append, List.length_append]
    have : (if M.isEmpty = true then ([] : List Stp) else [.join]).length ≤ 1 := by split <;> simp
    omega
  have l := le (kidsF m up k) []
  unfold stepsU
  rw [List.length_append]
  have z : ([] : List Stp).length = 0 := rfl
  split
  ·rw [List.length_cons, List.length_map]; omega
  ·omega
theorem stepsU_240 (T : Tb n m up bag) (hW : ∀ k, (bag k).length ≤ 4) (m10 : m ≤ 10) {tb : List (Int × Int)} (t100 : tb.length ≤ 100) {f k : Nat} (km : k < m) : (stepsU tb m up bag f k).length ≤ 240 := by
 have h := stepsU_len T hW tb f k km
 have h1 : cR m up k ≤ m := by
  have := List.countP_le_length (p := fun r => @decide (Bel m up k r) (Classical.propDecidable _)) (l := List.range m)
  rw [List.length_range] at this
  exact this
 have h2 : cT m up bag tb k ≤ tb.length := List.countP_le_length
 omega
theorem whole55 (T : Tb n m up bag) (hW : ∀ k, (bag k).length ≤ wd) (tn : tb.Nodup) (sub : ∀ t ∈ tb, t ∈ ts) (inb : ∀ t ∈ tb, ∃ k, t.1 ∈ bag k ∧ t.2 ∈ bag k) {d : Nat} (md : m ≤ d) : AllC n wd ts ⟨[], [], []⟩ (stepsU tb m up bag d 0 ++ (bag 0).map .out) ∧ ∃ G B, goK ⟨[], [], []⟩ (stepsU tb m up bag d 0 ++ (bag 0).map .out) = ⟨[[]], G, B⟩ ∧ (∀ k, ∀ v ∈ bag k, v ∈ G) ∧ ∀ t, t ∈ B ↔ t ∈ tb := by
 obtain ⟨b, G', B', pm, a, e, mG, mB⟩ := stepsU_ok (ts := ts) T hW tn sub d 0 T.pos (by omega) [] [] [] (fun v _ z => absurd z List.not_mem_nil) (fun t ht => absurd ht List.not_mem_nil)
 obtain ⟨o1, b', d1, d2, o2⟩ := go_outs (wd := wd) (n := n) (ts := ts) (bag 0) (P := []) (b := b) (G := G') (B := B') (T.nd 0) (pm.nodup_iff.mpr (T.nd 0)) (fun v hv => pm.mem_iff.mpr hv) (fun v hv z => by
  rcases (mG v).mp z with z | z
  ·exact absurd z List.not_mem_nil
  ·exact z.2 hv) (by rw [pm.length_eq]; exact hW 0)
 have eb : b' = [] := List.eq_nil_iff_forall_not_mem.mpr fun v hv => ((d2 v).mp hv).2 (pm.mem_iff.mp ((d2 v).mp hv).1)
 refine ⟨allC_app a (by rw [e]; exact o1), G' ++ bag 0, B', ?_, fun k v hv => ?_, fun t => ?_⟩
 ·rw [goK_app, e, o2, eb]
  rfl
 ·by_cases c : v ∈ bag 0
  ·exact List.mem_append_right _ c
  ·exact List.mem_append_left _ ((mG v).mpr (.inr ⟨⟨k, bel_root T k (T.in_ hv), hv⟩, c⟩))
 ·rw [mB]
  constructor
  ·rintro (z | z)
   ·exact absurd z List.not_mem_nil
   ·exact z.1
  ·intro z
   obtain ⟨k, k1, k2⟩ := inb t z
   obtain ⟨r, rm, hr⟩ := home_ex T k k1 k2
   exact .inr ⟨z, r, bel_root T r rm, hr⟩
end
theorem tb_tree {n : Nat} {rs : List Row} (T : Tree n rs) : Tb n rs.length (upR rs) (bagR rs) := by
 have U := ups_ok T.ok
 have up : ∀ k, 0 < k → k < rs.length → (rowAt rs k).1 = some ((upR rs k : Nat) : Int) ∧ upR rs k < k := fun k k0 kl => by
  have o := T.ok k kl
  unfold rowOk upOk at o
  rw [Bool.and_eq_true, if_neg (by omega)] at o
  cases e : (rowAt rs k).1 with
  | none => rw [e] at o; cases o.1
  | some i =>
   have := U k kl i e
   unfold upR
   rw [e]
   exact ⟨by congr 1; show i = ((i.toNat : Nat) : Int); omega, this.2⟩
 have st : ∀ k, k < rs.length → setF n (bagR rs k) = true := fun k kl => by
  have o := T.ok k kl
  unfold rowOk at o
  rw [Bool.and_eq_true] at o
  exact o.2
 have no : ∀ k, rs.length ≤ k → bagR rs k = [] := fun k h => by unfold bagR; rw [rowAt_ge h]
 refine ⟨T.pos, fun k k0 kl => (up k k0 kl).2, fun k => ?_, fun k v hv => ?_, fun k k0 kl v hv => ?_, no⟩
 ·by_cases c : k < rs.length
  ·exact ((set_iff _ _).mp (st k c)).2.imp fun h => by omega
  ·rw [no k (by omega)]; exact .nil
 ·by_cases c : k < rs.length
  ·exact ((set_iff _ _).mp (st k c)).1 v hv
  ·rw [no k (by omega)] at hv; exact absurd hv List.not_mem_nil
 ·by_cases c : v ∈ bagR rs (upR rs k)
  ·exact .inl c
  ·refine .inr fun j hj z => c ?_
   exact up_has U (T.tops v) kl hj hv z (up k k0 kl).1
theorem ru_tree {n : Nat} {rs : List Row} (T : Tree n rs) {k : Nat} (k0 : 0 < k) (kl : k < rs.length) : (rowAt rs k).1 = some ((upR rs k : Nat) : Int) := by
 have U := ups_ok T.ok
 have o := T.ok k kl
 unfold rowOk upOk at o
 rw [Bool.and_eq_true, if_neg (by omega)] at o
 cases e : (rowAt rs k).1 with
 | none => rw [e] at o; cases o.1
 | some i =>
  have := U k kl i e
  unfold upR
  rw [e]
  congr 1; show i = ((i.toNat : Nat) : Int); omega
theorem r0_tree {n : Nat} {rs : List Row} (T : Tree n rs) : (rowAt rs 0).1 = none := by
 have o := T.ok 0 T.pos
 unfold rowOk upOk at o
 rw [Bool.and_eq_true, if_pos rfl] at o
 cases e : (rowAt rs 0).1 with
 | none => rfl
 | some i => rw [e] at o; cases o.1
theorem tree_rw {n most : Nat} {rs : List Row} (W : Rw n most rs []) (sr : ∀ k, (bagR rs k).Pairwise (· < ·)) (l40 : rs.length ≤ 40) : Tree n rs := by
 have T := W.T
 refine ⟨T.pos, l40, fun k kl => ?_, fun v v0 v1 => ?_, fun v => ?_⟩
 ·unfold rowOk
  rw [Bool.and_eq_true]
  refine ⟨?_, (set_iff _ _).mpr ⟨T.lt k, sr k⟩⟩
  unfold upOk
  by_cases c : k = 0
  ·subst c; rw [if_pos rfl, W.r0]; rfl
  ·rw [if_neg c, W.ru k (by omega) kl]
   have := T.ups k (by omega) kl
   exact decide_eq_true ⟨by omega, by omega⟩
 ·rcases W.cov v v0 v1 with h | ⟨k, h⟩
  ·exact absurd h List.not_mem_nil
  ·have kl := T.in_ h
   exact ⟨rowAt rs k, List.mem_of_getElem? (rowAt_lt kl), h⟩
 ·have nd : (topsF rs v).Nodup := List.nodup_range.sublist List.filter_sublist
  have no : ∀ {a b : Nat}, a < b → b < rs.length → isTop rs v a = true → isTop rs v b = true → False := fun {a b} ab bl ha hb => by
   obtain ⟨a1, _⟩ := isTop_iff.mp ha
   obtain ⟨b1, b2⟩ := isTop_iff.mp hb
   rcases T.fr b (by omega) bl v b1 with h | h
   ·rw [W.ru b (by omega) bl] at b2
    have : heldF rs (some ((upR rs b : Nat) : Int)) v = true := decide_eq_true h
    rw [this] at b2
    cases b2
   ·exact h a ab a1
  have same : ∀ a ∈ topsF rs v, ∀ b ∈ topsF rs v, a = b := fun a ha b hb => by
   obtain ⟨a1, a2⟩ := List.mem_filter.mp ha
   obtain ⟨b1, b2⟩ := List.mem_filter.mp hb
   have al := List.mem_range.mp a1
   have bl := List.mem_range.mp b1
   rcases Nat.lt_trichotomy a b with c | c | c
   ·exact (no c bl a2 b2).elim
   ·exact c
   ·exact (no c al b2 a2).elim
  match e : topsF rs v, nd, same with
  | [], _, _ => exact Nat.zero_le _
  | [_], _, _ => exact Nat.le_refl _
  | a :: b :: r, nd, same =>
   have := same a (by simp) b (by simp)
   rw [this] at nd
   exact absurd List.mem_cons_self (List.nodup_cons.mp nd).1
end K
namespace K
open PySem L2 Lw Bg
def StpL (H : Hp) (v : V) (s : Stp) : Prop := ∃ p, v = .ref p ∧ H p = some (.tup s.vs)
theorem StpL.same {H H' : Hp} {v : V} {s : Stp} (e : Same H H') (h : StpL H v s) : StpL H' v s := by
 obtain ⟨p, rfl, h⟩ := h
 exact ⟨p, rfl, e _ _ h⟩
theorem StpL.v {K : PySem.W.Frag} {H : Hp} {v : V} {s : Stp} (h : StpL H v s) : StpV K H v s := by
 obtain ⟨p, rfl, h⟩ := h
 exact ⟨p, rfl, SqT.of h⟩
theorem paired_app {α β : Type} {R : α → β → Prop} : ∀ {xs xs' : List α} {ys ys' : List β}, Paired R xs ys → Paired R xs' ys' → Paired R (xs ++ xs') (ys ++ ys')
 | _, _, _, _, .nil, h => h
 | _, _, _, _, .cons a b, h => .cons a (paired_app b h)
theorem and_pure {ta tb : TT} {σ : St} {H : Hp} {b1 b2 : Bool} {Q : Bool → Hp → Prop} (h1 : ∀ Q : Bool → Hp → Prop, Q b1 H → ta σ H Q) (h2 : ∀ Q : Bool → Hp → Prop, Q b2 H → tb σ H Q) (h : Q (b1 && b2) H) : tAnd ta tb σ H Q := by
 refine h1 _ ?_
 cases b1 with
 | true => exact iteT (h2 _ h)
 | false => exact iteF h
theorem lc_stps {K : PySem.W.Frag} {a : Addr} {ix : List (Option Nat)} {g : TG} {tt : TT} {te : TE} {σ : St} {H : Hp} {Q : VK} (xs : List Int) (c : Int → Bool) (S : Int → Stp) (hx : SqL K H a (xs.map V.int)) (l9 : xs.length ≤ 900)
  (hs : ∀ (v : Int) (H1 : Hp) (N : VK) (M : Hp → Prop), v ∈ xs → Same H H1 → (c v = true → ∀ p H2, New H1 p (.tup (S v).vs) H2 → N (.ref p) H2) → (c v = false → M H1) → g (.int v) (capt ix σ) H1 fun σ2 H2 => tt σ2 H2 fun b H3 => if b = true then te σ2 H3 N else M H3)
  (hd : ∀ H1 p ys H2, Same H H1 → New H1 p (.lst ys) H2 → Paired (StpL H2) ys ((xs.filter c).map S) → Q (.ref p) H2) : LcGoal ix g tt te σ H Q (Itl K a) := by
 refine lc_list (K := K) (a := a) (xs := xs.map V.int) (fun i ys H' => Same H H' ∧ Paired (StpL H') ys (((xs.take i).filter c).map S)) ⟨Same.refl _, .nil⟩ (fun i ys H' hi ⟨s, p⟩ => ⟨s.seq hx, ?_⟩) (fun i x ys H' hi ⟨s, p⟩ => ?_) (fun ys H' ⟨s, p⟩ q hq => ?_)
 ·rw [Paired.length p, List.length_map]
  have := List.length_filter_le c (xs.take i)
  rw [List.length_take] at this
  exact Nat.le_of_lt (small1000 (by omega))
 ·rw [List.getElem?_map] at hi
  obtain ⟨v, hv, rfl⟩ := Option.map_eq_some_iff.mp hi
  have et : xs.take (i + 1) = xs.take i ++ [v] := by rw [List.take_succ, hv]; rfl
  refine hs v H' _ _ (List.mem_of_getElem? hv) s (fun cv p2 H2 n2 => ⟨s.trans n2.same, ?_⟩) (fun cv => ⟨s, ?_⟩)
  ·rw [et, List.filter_append, List.map_append, List.filter_cons, cv]
   exact paired_snoc (Paired.mapP p fun _ _ h => h.same n2.same) ⟨p2, rfl, n2.here⟩
  ·rw [et, List.filter_append, List.map_append, List.filter_cons, cv]
   simp only [Bool.false_eq_true, if_false, List.filter_nil, List.map_nil, List.append_nil]
   exact p
 ·have nq : New H' q (.lst ys) (upd H' q (.lst ys)) := New.mk0 hq
  rw [List.length_map, List.take_length] at p
  exact hd H' q ys _ s nq (Paired.mapP p fun _ _ h => h.same nq.same)
abbrev s_refuse_wide : Stmt := top 31
theorem sc_refuse_wide : FnScope ["bags"] ["bags"] (defScope s_refuse_wide) := ⟨rfl, rfl, rfl, by decide +kernel, rfl, by decide +kernel, by decide +kernel⟩
abbrev s_steps_between : Stmt := top 33
theorem sc_steps_between : FnScope ["lower", "upper"] ["lower", "upper"] (defScope s_steps_between) := ⟨rfl, rfl, rfl, by decide +kernel, rfl, by decide +kernel, by decide +kernel⟩
def spBetw (K : PySem.W.Frag) : Sp := fun vs H Q _ => ∃ (a b : Addr) (xs ys : List Int), vs = [.ref a, .ref b] ∧ SqL K H a (xs.map V.int) ∧ SqL K H b (ys.map V.int) ∧ xs.length ≤ 100 ∧ ys.length ≤ 100 ∧
 ∀ p us H', Same H H' → H p = none → H' p = some (.lst us) → Paired (StpL H') us ((betw xs ys).map .out ++ (betw ys xs).map .inn) → Q (.ref p) H'
section
variable {P : Program} {w : World} {K : PySem.W.Frag} {mg : Str → Option Value} {base : Heap}
set_option maxHeartbeats 8000000 in
theorem ok_steps_between (B : Bl mg) (d_less : Dn K mg "less" s_less ["one", "other"]) (d_steps_between : Dn K mg "steps_between" s_steps_between ["lower", "upper"]) : FnOk P w K mg base CX0 2 d_steps_between.f d_steps_between.fd ["lower", "upper"] (spBetw K) := by
 have G_less : FnOk P w K mg base CX0 1 _ _ _ _ := ok_less B d_less
 refine d_steps_between.F.ok sc_steps_between (fun vs H Q E h => ?_) (fun cdv A outer s H vs Q E hr h => ?_)
 ·obtain ⟨a, b, xs, ys, rfl, _⟩ := h
  rfl
 obtain ⟨a, b, xs, ys, rfl, hA, hB, zx, zy, q⟩ := h
 refine ⟨_, (pss_one (ps_ret (pe_op op_catN (pe_lc ["v"] [none]  (by kernel_rfl) rfl (pi_listK (K := K) rfl (pe_call G_less hr rfl d_less.m d_less.F.kp d_less.b .nil pass0 (pa_cons (pv 0) (pa_cons (pv 1) pa_nil)))) (fun _ _ _ _ _ => (pg_name (i := 0) (show (["v"] : List Str).Nodup by decide +kernel) rfl (Or.inl rfl))) (fun _ _ _ _ _ => pts_nil) (fun _ _ _ _ _ => (pe_tupN (pa_cons pe_str (pa_cons (pv 0) pa_nil))))) (pe_lc ["v"] [none]  (by kernel_rfl) rfl (pi_listK (K := K) rfl (pe_call G_less hr rfl d_less.m d_less.F.kp d_less.b .nil pass0 (pa_cons (pv 1) (pa_cons (pv 0) pa_nil)))) (fun _ _ _ _ _ => (pg_name (i := 0) (show (["v"] : List Str).Nodup by decide +kernel) rfl (Or.inl rfl))) (fun _ _ _ _ _ => pts_nil) (fun _ _ _ _ _ => (pe_tupN (pa_cons pe_str (pa_cons (pv 0) pa_nil)))))))), ?_⟩
 refine ⟨_, rfl, _, rfl, a, b, xs, ys, rfl, hA, hB, by omega, fun H1 p1 H2 s1 n1 => ?_⟩
 have s2 := s1.trans n1.same
 have l1 : (lessF xs ys).length ≤ xs.length := List.length_filter_le _ _
 have l2 : (lessF ys xs).length ≤ ys.length := List.length_filter_le _ _
 refine ⟨p1, rfl, ⟨_, SqL.of n1.here⟩, ?_⟩
 refine lc_stps (lessF xs ys) (fun _ => true) Stp.out (SqL.of n1.here) (by omega) (fun v H3 N M _ s3 hN hM => ?_) (fun H3 p3 y3 H4 s3 n4 p4 => ?_)
 ·exact ⟨_, rfl, (by show 2 ≤ 1000; decide), fun p H5 n5 => hN rfl p H5 n5⟩
 rw [List.filter_eq_self.mpr (fun _ _ => rfl)] at p4
 have s4 := s2.trans (s3.trans n4.same)
 refine ⟨_, rfl, _, rfl, b, a, ys, xs, rfl, s4.seq hB, s4.seq hA, by omega, fun H5 p5 H6 s5 n6 => ?_⟩
 have s6 := s4.trans (s5.trans n6.same)
 refine ⟨p5, rfl, ⟨_, SqL.of n6.here⟩, ?_⟩
 refine lc_stps (lessF ys xs) (fun _ => true) Stp.inn (SqL.of n6.here) (by omega) (fun v H7 N M _ s7 hN hM => ?_) (fun H7 p7 y7 H8 s7 n8 p8 => ?_)
 ·exact ⟨_, rfl, (by show 2 ≤ 1000; decide), fun p H5 n5 => hN rfl p H5 n5⟩
 rw [List.filter_eq_self.mpr (fun _ _ => rfl)] at p8
 have s48 : Same H4 H8 := s5.trans (n6.same.trans (s7.trans n8.same))
 have e4 := Paired.length p4
 have e8 := Paired.length p8
 rw [List.length_map] at e4 e8
 refine ⟨p3, p7, _, _, rfl, rfl, s48 _ _ n4.here, n8.here, by omega, fun p9 H9 n9 => ?_⟩
 refine q p9 _ H9 (s4.trans (s48.trans n9.same)) ((s4.trans s48).free n9.fresh) n9.here ?_
 exact paired_app (Paired.mapP p4 fun _ _ h => StpL.same (s48.trans n9.same) h) (Paired.mapP p8 fun _ _ h => StpL.same n9.same h)
end
end K
namespace K
open PySem L2 Lw Bg
abbrev s_steps_up_to : Stmt := top 32
theorem sc_steps_up_to : FnScope ["graph", "rows", "k", "up", "places", "steps", "j", "row", "joins", "above"] ["graph", "rows", "k"] (defScope s_steps_up_to) := ⟨rfl, rfl, rfl, by decide +kernel, rfl, by decide +kernel, by decide +kernel⟩
def kidsI (up : Nat → Nat) (k i : Nat) : List Nat := (List.range i).filter fun j => decide (k < j) && decide (up j = k)
theorem kidsI_succ {up : Nat → Nat} {k i : Nat} : kidsI up k (i + 1) = kidsI up k i ++ if k < i ∧ up i = k then [i] else [] := by
 unfold kidsI
 rw [List.range_succ, List.filter_append]
 congr 1
 rw [List.filter_cons]
 by_cases c : k < i ∧ up i = k
 ·rw [if_pos c, decide_eq_true c.1, decide_eq_true c.2]; rfl
 ·rw [if_neg c]
  have : (decide (k < i) && decide (up i = k)) = false := by
   rw [← Bool.decide_and]; exact decide_eq_false c
  rw [this]; rfl
theorem upJ_le (bag : Nat → List Int) (L : Nat → List Stp) (k : Nat) : ∀ (js : List Nat) (M : List Stp), M.length ≤ (js.foldl (upJ bag L k) M).length
 | [], _ => Nat.le_refl _
 | j :: js, M => by
  refine Nat.le_trans ?_ (upJ_le bag L k js (upJ bag L k M j))
  unfold upJ
  rw [List.length_append, List.length_append, List.length_append]
  omega
theorem kidsI_pre (up : Nat → Nat) (k i : Nat) : ∀ c, ∃ rest, kidsI up k (i + c) = kidsI up k i ++ rest
 | 0 => ⟨[], by rw [List.append_nil]; rfl⟩
 | c + 1 => by
  obtain ⟨r, e⟩ := kidsI_pre up k i c
  exact ⟨r ++ if k < i + c ∧ up (i + c) = k then [i + c] else [], by rw [← Nat.add_assoc, kidsI_succ, e, List.append_assoc]⟩
theorem lc_tys {K : PySem.W.Frag} {a : Addr} {ix : List (Option Nat)} {g : TG} {tt : TT} {te : TE} {σ : St} {H : Hp} {Q : VK} (tx : List V) (ts : List (Int × Int)) (c : Int × Int → Bool) (hx : SqL K H a tx) (hp : Paired (TieV K H) tx ts) (l9 : ts.length ≤ 900)
  (hs : ∀ (t : Int × Int) (p : Addr) (H1 : Hp) (N : VK) (M : Hp → Prop), t ∈ ts → SqT K H1 p [.int t.1, .int t.2] → Same H H1 → (c t = true → ∀ H2, Same H1 H2 → ∀ q H3, New H2 q (.tup (Stp.tie t.1 t.2).vs) H3 → N (.ref q) H3) → (c t = false → ∀ H2, Same H1 H2 → M H2) → g (.ref p) (capt ix σ) H1 fun σ2 H2 => tt σ2 H2 fun b H3 => if b = true then te σ2 H3 N else M H3)
  (hd : ∀ H1 p ys H2, Same H H1 → New H1 p (.lst ys) H2 → Paired (StpL H2) ys ((ts.filter c).map fun t => .tie t.1 t.2) → Q (.ref p) H2) : LcGoal ix g tt te σ H Q (Itl K a) := by
 have lt := Paired.length hp
 refine lc_list (K := K) (a := a) (xs := tx) (fun i ys H' => Same H H' ∧ Paired (StpL H') ys (((ts.take i).filter c).map fun t => .tie t.1 t.2)) ⟨Same.refl _, .nil⟩ (fun i ys H' hi ⟨s, p⟩ => ⟨s.seq hx, ?_⟩) (fun i x ys H' hi ⟨s, p⟩ => ?_) (fun ys H' ⟨s, p⟩ q hq => ?_)
 ·rw [Paired.length p, List.length_map]
  have := List.length_filter_le c (ts.take i)
  rw [List.length_take] at this
  exact Nat.le_of_lt (small1000 (by omega))
 ·obtain ⟨t, ht, ⟨px, rfl, hpx⟩⟩ := paired_get hp hi
  have et : ts.take (i + 1) = ts.take i ++ [t] := by rw [List.take_succ, ht]; rfl
  refine hs t px H' _ _ (List.mem_of_getElem? ht) (s.tupq hpx) s (fun cv H2 s2 p2 H3 n3 => ⟨s.trans (s2.trans n3.same), ?_⟩) (fun cv H2 s2 => ⟨s.trans s2, ?_⟩)
  ·rw [et, List.filter_append, List.map_append, List.filter_cons, cv]
   exact paired_snoc (Paired.mapP p fun _ _ h => h.same (s2.trans n3.same)) ⟨p2, rfl, n3.here⟩
  ·rw [et, List.filter_append, List.map_append, List.filter_cons, cv]
   simp only [Bool.false_eq_true, if_false, List.filter_nil, List.map_nil, List.append_nil]
   exact Paired.mapP p fun _ _ h => h.same s2
 ·have nq : New H' q (.lst ys) (upd H' q (.lst ys)) := New.mk0 hq
  rw [lt, List.take_length] at p
  exact hd H' q ys _ s nq (Paired.mapP p fun _ _ h => h.same nq.same)
def spUpTo (K : PySem.W.Frag) (d : Nat) : Sp := fun vs H Q _ => ∃ (g : V) (n : Nat) (ts : List (Int × Int)) (a : Addr) (xs : List V) (R : List Row) (k : Nat), vs = [g, .ref a, .int (k : Int)] ∧ GraphV K H g n ts ∧ SqL K H a xs ∧ Paired (RowV K H) xs R ∧ Tree n R ∧ R.length ≤ 10 ∧ ts.length ≤ 100 ∧ (∀ k, (bagR R k).length ≤ 4) ∧ k < R.length ∧ R.length ≤ k + d ∧
 ∀ p us H', Same H H' → H p = none → H' p = some (.lst us) → Paired (StpL H') us (stepsU ts R.length (upR R) (bagR R) d k) → Q (.ref p) H'
section
variable {P : Program} {w : World} {K : PySem.W.Frag} {mg : Str → Option Value} {base : Heap}
theorem ok_upto0 (d_steps_up_to : Dn K mg "steps_up_to" s_steps_up_to ["graph", "rows", "k"]) : FnOk P w K mg base CX0 3 d_steps_up_to.f d_steps_up_to.fd ["graph", "rows", "k"] (spUpTo K 0) := by
 refine d_steps_up_to.F.ok sc_steps_up_to (fun vs H Q E h => ?_) (fun cdv A outer s H vs Q E hr h => ?_)
 ·obtain ⟨g, n, ts, a, xs, R, k, _, _, _, _, _, _, _, _, h1, h2, _⟩ := h
  omega
 ·obtain ⟨g, n, ts, a, xs, R, k, _, _, _, _, _, _, _, _, h1, h2, _⟩ := h
  omega
set_option maxHeartbeats 8000000 in
theorem ok_upto1 (B : Bl mg) (d_less : Dn K mg "less" s_less ["one", "other"]) (d_steps_between : Dn K mg "steps_between" s_steps_between ["lower", "upper"]) (d_steps_up_to : Dn K mg "steps_up_to" s_steps_up_to ["graph", "rows", "k"]) (d : Nat) (G_steps_up_to : FnOk P w K mg base CX0 (d + 3) d_steps_up_to.f d_steps_up_to.fd ["graph", "rows", "k"] (spUpTo K d)) : FnOk P w K mg base CX0 (d + 4) d_steps_up_to.f d_steps_up_to.fd ["graph", "rows", "k"] (spUpTo K (d + 1)) := by
 have G_less : FnOk P w K mg base CX0 (d + 3) _ _ _ _ := (ok_less B d_less).mono (by omega)
 have G_steps_between : FnOk P w K mg base CX0 (d + 3) _ _ _ _ := (ok_steps_between B d_less d_steps_between).mono (by omega)
 refine d_steps_up_to.F.ok sc_steps_up_to (fun vs H Q E h => ?_) (fun cdv A outer s H vs Q E hr h => ?_)
 ·obtain ⟨g, n, ts, a, xs, R, k, rfl, _⟩ := h
  rfl
 obtain ⟨g, n, ts, a, xs, R, k, rfl, hG, hA, pA, T, r10, t100, b4, kl, dk, q⟩ := h
 have hv : (A.deeper (PyProof.Rows.envOfC "steps_up_to" (defScope s_steps_up_to) s.heap.objs.size d_steps_up_to.f cdv)).units + 65 < cLine := by have := hr.un; omega
 have Tb' := tb_tree T
 have lx := Paired.length pA
 have full := stepsU_240 Tb' b4 r10 t100 (f := d + 1) kl
 have lJ0 : ∀ j, j < R.length → (stepsU ts R.length (upR R) (bagR R) d j).length ≤ 240 := fun j hj => stepsU_240 Tb' b4 r10 t100 hj
 obtain ⟨L, eL⟩ : ∃ L : Nat → List Stp, L = stepsU ts R.length (upR R) (bagR R) d := ⟨_, rfl⟩
 have eS : stepsU ts R.length (upR R) (bagR R) (d + 1) k = (if ((kidsI (upR R) k R.length).foldl (upJ (bagR R) L k) []).isEmpty = true then .leaf :: (bagR R k).map .inn else (kidsI (upR R) k R.length).foldl (upJ (bagR R) L k) []) ++ ownS (upR R) (bagR R) ts k := by rw [eL]; rfl
 have hpre : ∀ i, i ≤ R.length → ((kidsI (upR R) k i).foldl (upJ (bagR R) L k) []).length ≤ 240 := fun i il => by
  obtain ⟨rest, e⟩ := kidsI_pre (upR R) k i (R.length - i)
  rw [Nat.add_sub_cancel' il] at e
  have h1 := upJ_le (bagR R) L k rest ((kidsI (upR R) k i).foldl (upJ (bagR R) L k) [])
  rw [← List.foldl_append, ← e] at h1
  rw [eS, List.length_append] at full
  by_cases c : ((kidsI (upR R) k R.length).foldl (upJ (bagR R) L k) []).isEmpty = true
  ·rw [List.isEmpty_iff.mp c] at h1
   exact Nat.le_trans h1 (Nat.zero_le _)
  ·rw [if_neg c] at full
   omega
 obtain ⟨vk, hxk, ⟨pk, bk, rfl, hTk, hbk, lbk⟩⟩ := paired_getr pA (rowAt_lt kl)
 obtain ⟨pg, pt, rfl, hPG, tx, hTx, pTx, lTx⟩ := id hG
 refine ⟨_, (pss_cons (ps_asg (pe_ix (ix_listK (K := K) rfl) (pv 1) (pv 2) (fun _ _ => rfl)) (pg_tupK (K := K) (n := 2) rfl rfl (pgs_cons (pg_name (i := 3) sc_steps_up_to.nd rfl (Or.inl rfl)) (pgs_cons (pg_name (i := 4) sc_steps_up_to.nd rfl (Or.inr rfl)) pgs_nil))))
   (pss_cons (ps_set (i := 5) sc_steps_up_to.nd rfl (Or.inl rfl) (pe_lstN pa_nil))
   (pss_cons (ps_for PassesOwn.never rfl (pi_enum (K := K) rfl rfl B.enumerate (pa_cons (pv 1) pa_nil)) (pg_tupK (K := K) (n := 2) rfl rfl (pgs_cons (pg_name (i := 6) sc_steps_up_to.nd rfl (Or.inl rfl)) (pgs_cons (pg_name (i := 7) sc_steps_up_to.nd rfl (Or.inl rfl)) pgs_nil)))
   (pss_one (ps_if (pt_cmpR op_eq (pe_ix (ix_tupK (K := K) rfl) (pv 7) pe_int (fun _ _ => rfl)) (pv 2) (nomark _))
   (pss_cons (ps_set (i := 8) sc_steps_up_to.nd rfl (Or.inl rfl) (pe_ifExp (pt_truthK (K := K) rfl (pv 5) (fun _ => rfl)) (pe_lstN (pa_cons (pe_tupN (pa_cons pe_str pa_nil)) pa_nil)) (pe_lstN pa_nil)))
   (pss_one (ps_set (i := 5) sc_steps_up_to.nd rfl (Or.inl rfl) (pe_op op_catN (pe_op op_catN (pe_op op_catN (pv 5) (pe_call G_steps_up_to hr rfl d_steps_up_to.m d_steps_up_to.F.kp d_steps_up_to.b .nil pass0 (pa_cons (pv 0) (pa_cons (pv 1) (pa_cons (pv 6) pa_nil))))) (pe_call G_steps_between hr rfl d_steps_between.m d_steps_between.F.kp d_steps_between.b .nil pass0 (pa_cons (pe_ix (ix_tupK (K := K) rfl) (pv 7) pe_int (fun _ _ => rfl)) (pa_cons (pv 4) pa_nil)))) (pv 8)))))
   pss_nil)))
   (pss_cut (ps_if (pt_not (pt_truthK (K := K) rfl (pv 5) (fun _ => rfl)))
   (pss_one (ps_set (i := 5) sc_steps_up_to.nd rfl (Or.inl rfl) (pe_op op_catN (pe_lstN (pa_cons (pe_tupN (pa_cons pe_str pa_nil)) pa_nil)) (pe_call G_steps_between hr rfl d_steps_between.m d_steps_between.F.kp d_steps_between.b .nil pass0 (pa_cons (pe_lstN pa_nil) (pa_cons (pv 4) pa_nil))))))
   pss_nil)
   (pss_cons (ps_set (i := 9) sc_steps_up_to.nd rfl (Or.inr rfl) (pe_ifExp (pt_cmpR op_isN (pv 3) pe_non (nomark _)) (pe_lstN pa_nil) (pe_ix (ix_tupK (K := K) rfl) (pe_ix (ix_listK (K := K) rfl) (pv 1) (pv 3) (fun _ _ => rfl)) pe_int (fun _ _ => rfl))))
   (pss_one (ps_ret (pe_op op_catN (pv 5) (pe_lc ["a", "b", "places", "above"] [none, none, some 4, some 9]  (by kernel_rfl) rfl (pi_listK (K := K) rfl (pe_ix (ix_tupK (K := K) rfl) (pv 0) pe_int (fun _ _ => rfl))) (fun _ _ _ _ _ => (pg_tupK (K := K) (n := 2) rfl rfl (pgs_cons (pg_name (i := 0) (show (["a", "b", "places", "above"] : List Str).Nodup by decide +kernel) rfl (Or.inl rfl)) (pgs_cons (pg_name (i := 1) (show (["a", "b", "places", "above"] : List Str).Nodup by decide +kernel) rfl (Or.inl rfl)) pgs_nil)))) (fun _ _ _ _ _ => (pts_one (PW.pt (pw_and (pt_cmpR (op_inDK (K := K) rfl hv) (pv 0) (pv 2) (by with_unfolding_all rfl)) (pw_and (pt_cmpR (op_inDK (K := K) rfl hv) (pv 1) (pv 2) (by with_unfolding_all rfl)) (pw_and1 (pt_truthK (K := K) rfl (pe_call G_less hr rfl d_less.m d_less.F.kp d_less.b .nil pass0 (pa_cons (pe_lstN (pa_cons (pv 0) (pa_cons (pv 1) pa_nil))) (pa_cons (pv 3) pa_nil))) (fun _ => rfl)))))))) (fun _ _ _ _ _ => (pe_tupN (pa_cons pe_str (pa_cons (pv 0) (pa_cons (pv 1) pa_nil)))))))))))))), ?_⟩
 refine ⟨_, rfl, _, rfl, a, _, _, _, rfl, rfl, hA, atI_nat hxk, pk, _, rfl, hTk, rfl, _, _, rfl, _, _, rfl, rfl, ?_⟩
 refine ⟨(by show 0 ≤ 1000; decide), fun p0 H0 n0 => ?_⟩
 have s0 := n0.same
 have hA0 := s0.seq hA
 refine ⟨_, rfl, a, rfl, ⟨_, hA0⟩, ?_⟩
 refine for_enum (xs := xs) (fun i σ H' => ∃ (jj rr js : Option V) (pM : Addr) (us : List V), σ = [some (.ref pg), some (.ref a), some (.int (k : Int)), some (upV (rowAt R k).1), some (.ref bk), some (.ref pM), jj, rr, js, none] ∧ Same H H' ∧ H pM = none ∧ H' pM = some (.lst us) ∧ Paired (StpL H') us ((kidsI (upR R) k i).foldl (upJ (bagR R) L k) []))
  ⟨none, none, none, p0, [], rfl, s0, n0.fresh, n0.here, .nil⟩ (fun i σ H' _ ⟨_, _, _, _, _, _, s, _⟩ => s.seq hA) ?_ ?_
 ·rintro i x σ H1 p1 H2 hx ⟨jj, rr, jn, pM, us, rfl, s1, fM, hM, qM⟩ n2
  have s2 := s1.trans n2.same
  obtain ⟨r, hr1, ⟨pr, b, rfl, hT, hb, hbl⟩⟩ := paired_get pA hx
  have il : i < R.length := (List.getElem?_eq_some_iff.mp hr1).1
  have er : rowAt R i = r := rowAt_get hr1
  have eb : bagR R i = r.2 := by unfold bagR; rw [er]
  have hM2 := n2.same _ _ hM
  refine ⟨p1, _, rfl, SqT.of n2.here, rfl, _, _, rfl, _, _, rfl, rfl, ?_⟩
  refine ⟨_, rfl, pr, _, _, _, rfl, rfl, s2.tupq hT, rfl, _, rfl, (by cases r.1 <;> rfl), _, rfl, ?_⟩
  have eu : decide (upV r.1 = V.int (k : Int)) = decide (k < i ∧ upR R i = k) := by
   by_cases i0 : i = 0
   ·subst i0
    rw [← er, r0_tree T]
    rw [decide_eq_false (show ¬ (k < 0 ∧ upR R 0 = k) by omega)]
    rfl
   ·rw [← er, ru_tree T (by omega) il]
    have := Tb'.ups i (by omega) il
    refine decide_eq_decide.mpr ⟨fun z => ?_, fun z => ?_⟩
    ·have : ((upR R i : Nat) : Int) = (k : Int) := V.int.inj z
     omega
    ·show V.int ((upR R i : Nat) : Int) = V.int (k : Int)
     rw [z.2]
  rw [eu, kidsI_succ]
  refine ite2 (fun c => ?_) (fun c => ?_)
  rotate_left
  ·have c := of_decide_eq_false (Bool.eq_false_iff.mpr c)
   rw [if_neg c, List.append_nil]
   exact ⟨_, _, _, pM, us, rfl, s2, fM, hM2, Paired.mapP qM fun _ _ h => h.same n2.same⟩
  have c := of_decide_eq_true c
  have pre1 := hpre (i + 1) il
  rw [kidsI_succ] at pre1
  rw [if_pos c, List.foldl_append] at pre1 ⊢
  have e1 : ∀ M : List Stp, ([i] : List Nat).foldl (upJ (bagR R) L k) M = upJ (bagR R) L k M i := fun _ => rfl
  rw [e1] at pre1 ⊢
  generalize (kidsI (upR R) k i).foldl (upJ (bagR R) L k) [] = M at qM pre1 ⊢
  have lu := Paired.length qM
  refine ⟨_, rfl, _, .inl ⟨_, SqL.of hM2, rfl⟩, ?_⟩
  have eM : us.isEmpty = M.isEmpty := by
   cases M with
   | nil => cases qM; rfl
   | cons _ _ => cases qM; rfl
  have lJ := lJ0 i il
  rw [← eL] at lJ
  have upl : (upJ (bagR R) L k M i).length = M.length + (L i).length + (blockS (bagR R) i k).length + (if M.isEmpty = true then ([] : List Stp) else [.join]).length := by
   unfold upJ
   rw [List.length_append, List.length_append, List.length_append]
  have go : ∀ (pj : Addr) (jx : List V) (H3 : Hp), Same H2 H3 → H3 pj = some (.lst jx) → Paired (StpL H3) jx (if M.isEmpty = true then ([] : List Stp) else [.join]) → ∀ (p9 : Addr) (xJ y6 : List V) (H9 : Hp), Same H3 H9 → H p9 = none → H9 p9 = some (.lst (us ++ xJ ++ y6 ++ jx)) → Paired (StpL H9) xJ (L i) → Paired (StpL H9) y6 (blockS (bagR R) i k) → Same H H9 ∧ H p9 = none ∧ H9 p9 = some (.lst (us ++ xJ ++ y6 ++ jx)) ∧ Paired (StpL H9) (us ++ xJ ++ y6 ++ jx) (upJ (bagR R) L k M i) := fun pj jx H3 s3 hj qj p9 xJ y6 H9 s9 f9 h9 qJ q6 =>
   ⟨s2.trans (s3.trans s9), f9, h9, paired_app (paired_app (paired_app (Paired.mapP qM fun _ _ h => StpL.same (n2.same.trans (s3.trans s9)) h) qJ) q6) (Paired.mapP qj fun _ _ h => StpL.same s9 h)⟩
  dsimp only
  rw [eM]
  cases eE : M.isEmpty with
  | true =>
   rw [eE] at go upl
   refine iteF ⟨(by show 0 ≤ 1000; decide), fun pj H3 n3 => ?_⟩
   have s3 := n3.same
   have G3 := go pj [] H3 s3 n3.here (by rw [if_pos rfl]; exact .nil)
   have lj : ([] : List V).length ≤ 1 := Nat.zero_le _
   have hj := n3.here
   obtain ⟨jx, ejx⟩ : ∃ jx : List V, jx = [] := ⟨_, rfl⟩
   rw [← ejx] at G3 lj hj
   have s03 := s2.trans s3
   refine ⟨_, rfl, _, rfl, _, rfl, _, rfl, .ref pg, n, ts, a, xs, R, i, rfl, hG.same s03, s03.seq hA, Paired.mapP pA fun _ _ h => RowV.same s03 h, T, r10, t100, b4, il, by omega, fun pJ xJ H4 s4 fJ hJ qJ => ?_⟩
   rw [← eL] at qJ
   have l4 := Paired.length qJ
   refine ⟨pM, pJ, _, _, rfl, rfl, s4 _ _ (s3 _ _ hM2), hJ, by omega, fun p5 H5 n5 => ?_⟩
   have s05 := s03.trans (s4.trans n5.same)
   refine ⟨_, rfl, pr, _, _, _, rfl, rfl, s05.tupq hT, rfl, _, rfl, b, bk, r.2, bagR R k, rfl, s05.seq hb, s05.seq hbk, (by have := b4 i; rw [eb] at this; omega), (by have := b4 k; omega), fun p6 y6 H6 s6 f6 h6 q6 => ?_⟩
   rw [← eb] at q6
   have l6 := Paired.length q6
   have l6' : y6.length = (blockS (bagR R) i k).length := l6
   refine ⟨p5, p6, _, _, rfl, rfl, s6 _ _ n5.here, h6, (by rw [List.length_append]; omega), fun p7 H7 n7 => ?_⟩
   have s37 := s4.trans (n5.same.trans (s6.trans n7.same))
   refine ⟨_, rfl, p7, pj, _, _, rfl, rfl, n7.here, s37 _ _ hj, (by rw [List.length_append, List.length_append]; omega), fun p9 H9 n9 => ?_⟩
   have s39 := s37.trans n9.same
   obtain ⟨g1, g2, g3, g4⟩ := G3 p9 xJ y6 H9 s39 ((s03.trans s37).free n9.fresh) n9.here (Paired.mapP qJ fun _ _ h => StpL.same (n5.same.trans (s6.trans (n7.same.trans n9.same))) h) (Paired.mapP q6 fun _ _ h => StpL.same (n7.same.trans n9.same) h)
   exact ⟨_, _, _, p9, _, rfl, g1, g2, g3, g4⟩
  | false =>
   rw [eE] at go upl
   refine iteT ⟨(by show 1 ≤ 1000; decide), fun pa Ha na => ⟨(by show 1 ≤ 1000; decide), fun pj H3 n3 => ?_⟩⟩
   have s3 := na.same.trans n3.same
   have G3 := go pj [.ref pa] H3 s3 n3.here (by rw [if_neg Bool.false_ne_true]; exact .cons ⟨pa, rfl, n3.same _ _ na.here⟩ .nil)
   have lj : ([.ref pa] : List V).length ≤ 1 := Nat.le_refl _
   have hj := n3.here
   generalize ([.ref pa] : List V) = jx at G3 lj hj
   have s03 := s2.trans s3
   refine ⟨_, rfl, _, rfl, _, rfl, _, rfl, .ref pg, n, ts, a, xs, R, i, rfl, hG.same s03, s03.seq hA, Paired.mapP pA fun _ _ h => RowV.same s03 h, T, r10, t100, b4, il, by omega, fun pJ xJ H4 s4 fJ hJ qJ => ?_⟩
   rw [← eL] at qJ
   have l4 := Paired.length qJ
   refine ⟨pM, pJ, _, _, rfl, rfl, s4 _ _ (s3 _ _ hM2), hJ, by omega, fun p5 H5 n5 => ?_⟩
   have s05 := s03.trans (s4.trans n5.same)
   refine ⟨_, rfl, pr, _, _, _, rfl, rfl, s05.tupq hT, rfl, _, rfl, b, bk, r.2, bagR R k, rfl, s05.seq hb, s05.seq hbk, (by have := b4 i; rw [eb] at this; omega), (by have := b4 k; omega), fun p6 y6 H6 s6 f6 h6 q6 => ?_⟩
   rw [← eb] at q6
   have l6 := Paired.length q6
   have l6' : y6.length = (blockS (bagR R) i k).length := l6
   refine ⟨p5, p6, _, _, rfl, rfl, s6 _ _ n5.here, h6, (by rw [List.length_append]; omega), fun p7 H7 n7 => ?_⟩
   have s37 := s4.trans (n5.same.trans (s6.trans n7.same))
   refine ⟨_, rfl, p7, pj, _, _, rfl, rfl, n7.here, s37 _ _ hj, (by rw [List.length_append, List.length_append]; omega), fun p9 H9 n9 => ?_⟩
   have s39 := s37.trans n9.same
   obtain ⟨g1, g2, g3, g4⟩ := G3 p9 xJ y6 H9 s39 ((s03.trans s37).free n9.fresh) n9.here (Paired.mapP qJ fun _ _ h => StpL.same (n5.same.trans (s6.trans (n7.same.trans n9.same))) h) (Paired.mapP q6 fun _ _ h => StpL.same (n7.same.trans n9.same) h)
   exact ⟨_, _, _, p9, _, rfl, g1, g2, g3, g4⟩
 ·rintro σ H1 ⟨jj, rr, jn, pM, us, rfl, s1, fM, hM, qM⟩
  rw [lx] at qM
  have pre := hpre R.length (Nat.le_refl _)
  rw [eS] at q full
  generalize (kidsI (upR R) k R.length).foldl (upJ (bagR R) L k) [] = M at qM q full pre
  have lu := Paired.length qM
  have eM : us.isEmpty = M.isEmpty := by
   cases M with
   | nil => cases qM; rfl
   | cons _ _ => cases qM; rfl
  refine ⟨fun σ' H' => ∃ (pN : Addr) (ys : List V), σ' = [some (.ref pg), some (.ref a), some (.int (k : Int)), some (upV (rowAt R k).1), some (.ref bk), some (.ref pN), jj, rr, jn, none] ∧ Same H H' ∧ H pN = none ∧ H' pN = some (.lst ys) ∧ Paired (StpL H') ys (if M.isEmpty = true then .leaf :: (bagR R k).map .inn else M), ?_, ?_⟩
  ·refine ⟨_, rfl, _, .inl ⟨_, SqL.of hM, rfl⟩, ?_⟩
   dsimp only
   rw [eM]
   cases eE : M.isEmpty with
   | true =>
    refine iteT ⟨(by show 1 ≤ 1000; decide), fun pa Ha na => ⟨(by show 1 ≤ 1000; decide), fun pl H3 n3 => ⟨(by show 0 ≤ 1000; decide), fun pe H4 n4 => ?_⟩⟩⟩
    have s4 := na.same.trans (n3.same.trans n4.same)
    have s04 := s1.trans s4
    refine ⟨_, rfl, pe, bk, [], bagR R k, rfl, SqL.of n4.here, s04.seq hbk, Nat.zero_le _, (by have := b4 k; omega), fun p6 y6 H6 s6 f6 h6 q6 => ?_⟩
    have eb0 : (betw [] (bagR R k)).map Stp.out ++ (betw (bagR R k) []).map Stp.inn = (bagR R k).map .inn := by
     have : betw (bagR R k) [] = bagR R k := List.filter_eq_self.mpr fun v _ => by simp
     rw [this]; rfl
    rw [eb0] at q6
    have l6 := Paired.length q6
    rw [List.length_map] at l6
    have := b4 k
    refine ⟨pl, p6, _, _, rfl, rfl, s6 _ _ (n4.same _ _ n3.here), h6, (by show 1 + y6.length ≤ 1000; omega), fun p7 H7 n7 => ?_⟩
    refine ⟨p7, _, rfl, s04.trans (s6.trans n7.same), (s04.trans s6).free n7.fresh, n7.here, ?_⟩
    rw [if_pos rfl]
    exact .cons ⟨pa, rfl, n7.same _ _ (s6 _ _ (n4.same _ _ (n3.same _ _ na.here)))⟩ (Paired.mapP q6 fun _ _ h => StpL.same n7.same h)
   | false =>
    refine iteF ⟨pM, us, rfl, s1, fM, hM, ?_⟩
    rw [if_neg Bool.false_ne_true]
    exact qM
  rintro σ' H2 ⟨pN, ys, rfl, s2, fN, hN, qN⟩
  have ely : ys.length ≤ 240 := by
   rw [Paired.length qN]
   rw [List.length_append] at full
   omega
  have fin : ∀ (pV : Addr) (ab : List Int) (H3 : Hp), Same H2 H3 → SqL K H3 pV (ab.map V.int) → (∀ t : Int × Int, (t.1 ∉ ab ∨ t.2 ∉ ab) ↔ (k = 0 ∨ ¬ (t.1 ∈ bagR R (upR R k) ∧ t.2 ∈ bagR R (upR R k)))) → tRet
   (tOp rCatN (tVar 5)
    (tLC [none, none, some 4, some 9] (iList K (tOp (rIxT K) (tVar 0) (tC (V.int 1))))
     (gTup K 2 (gCons (gName 0) (gCons (gName 1) gNil)))
     (tAnd (tTest (tOp (rInD K false) (tVar 0) (tVar 2)))
      (tAnd (tTest (tOp (rInD K false) (tVar 1) (tVar 2)))
       (tTru K
        (tCall (spLess K) [] E0 (tCons (tLstN (tCons (tVar 0) (tCons (tVar 1) tNil))) (tCons (tVar 3) tNil))))))
     (tTupN (tCons (tC (V.str (Str.ofString "tie"))) (tCons (tVar 0) (tCons (tVar 1) tNil))))))
   { nx := fun x H' => Q V.non H', rt := Q } [some (.ref pg), some (.ref a), some (.int (k : Int)), some (upV (rowAt R k).1), some (.ref bk), some (.ref pN), jj, rr, jn, some (.ref pV)] H3 := fun pV ab H3 s3 hV mA => by
   have s03 := s2.trans s3
   refine ⟨_, rfl, _, rfl, pg, _, _, _, rfl, rfl, s03.tupq hPG, rfl, pt, rfl, ⟨_, s03.seq hTx⟩, ?_⟩
   refine lc_tys tx ts (fun t => decide (Homed (upR R) (bagR R) k t)) (s03.seq hTx) (Paired.mapP pTx fun _ _ ⟨p, e, h⟩ => ⟨p, e, s03.tupq h⟩) (by omega) (fun t px H4 N M _ hpx s4 hN hM => ?_) (fun H4 p5 y5 H5 s4 n5 q5 => ?_)
   ·have s34 := s03.trans s4
    refine ⟨px, _, rfl, hpx, rfl, _, _, rfl, _, _, rfl, rfl, ?_⟩
    have eh : decide (Homed (upR R) (bagR R) k t) = (decide (t.1 ∈ bagR R k) && (decide (t.2 ∈ bagR R k) && !(lessF [t.1, t.2] ab).isEmpty)) := by
     have e2 : (!(lessF [t.1, t.2] ab).isEmpty) = decide (t.1 ∉ ab ∨ t.2 ∉ ab) := by
      show (!(List.filter (fun v => !decide (v ∈ ab)) [t.1, t.2]).isEmpty) = _
      rw [List.filter_cons, List.filter_cons]
      by_cases c1 : t.1 ∈ ab <;> by_cases c2 : t.2 ∈ ab <;> simp [c1, c2]
     rw [e2, Bool.eq_iff_iff, Bool.and_eq_true, Bool.and_eq_true, decide_eq_true_iff, decide_eq_true_iff, decide_eq_true_iff, decide_eq_true_iff]
     unfold Homed
     rw [mA t]
    rw [eh] at hN hM
    refine ⟨_, rfl, _, rfl, inInts (s34.seq hbk) ⟨_, rfl, ?_⟩⟩
    cases c1 : decide (t.1 ∈ (rowAt R k).2) with
    | false =>
     have c1' : decide (t.1 ∈ bagR R k) = false := c1
     rw [c1'] at hM
     exact iteF (hM rfl H4 (Same.refl _))
    | true =>
     have c1' : decide (t.1 ∈ bagR R k) = true := c1
     rw [c1'] at hN hM
     refine iteT ⟨_, rfl, _, rfl, inInts (s34.seq hbk) ⟨_, rfl, ?_⟩⟩
     cases c2 : decide (t.2 ∈ (rowAt R k).2) with
     | false =>
      have c2' : decide (t.2 ∈ bagR R k) = false := c2
      rw [c2'] at hM
      exact iteF (hM rfl H4 (Same.refl _))
     | true =>
      have c2' : decide (t.2 ∈ bagR R k) = true := c2
      rw [c2'] at hN hM
      refine iteT ⟨_, rfl, _, rfl, (by show 2 ≤ 1000; decide), fun p6 H6 n6 => ⟨_, rfl, p6, pV, [t.1, t.2], ab, rfl, SqL.of n6.here, n6.same.seq (s4.seq hV), (by show 2 ≤ 1000; decide), fun H7 p7 H8 s7 n8 => ?_⟩⟩
      refine ⟨_, .inl ⟨_, SqL.of n8.here, rfl⟩, ?_⟩
      have s48 := n6.same.trans (s7.trans n8.same)
      have ei : ∀ l : List Int, (l.map V.int).isEmpty = l.isEmpty := fun l => by cases l <;> rfl
      dsimp only
      rw [ei]
      cases c3 : (lessF [t.1, t.2] ab).isEmpty with
      | true =>
       rw [c3] at hM
       exact iteF (hM rfl H8 s48)
      | false =>
       rw [c3] at hN
       exact iteT ⟨_, rfl, _, rfl, (by show 3 ≤ 1000; decide), fun p9 H9 n9 => hN rfl H8 s48 p9 H9 n9⟩
   have s25 := s3.trans (s4.trans n5.same)
   have l5 := Paired.length q5
   rw [List.length_map] at l5
   have l5' := List.length_filter_le (fun t => decide (Homed (upR R) (bagR R) k t)) ts
   refine ⟨pN, p5, _, _, rfl, rfl, s25 _ _ hN, n5.here, (by omega), fun p9 H9 n9 => ?_⟩
   exact q p9 _ H9 (s2.trans (s25.trans n9.same)) ((s2.trans s25).free n9.fresh) n9.here (paired_app (Paired.mapP qN fun _ _ h => StpL.same (s25.trans n9.same) h) (Paired.mapP q5 fun _ _ h => StpL.same n9.same h))
  refine ⟨_, rfl, rfl, _, rfl, ?_⟩
  by_cases k0 : k = 0
  ·have e0 : (rowAt R k).1 = none := by rw [k0]; exact r0_tree T
   rw [e0] at fin ⊢
   refine iteT ⟨(by show 0 ≤ 1000; decide), fun pV H3 n3 => ?_⟩
   exact fin pV [] H3 n3.same (SqL.of n3.here) fun t => ⟨fun _ => .inl k0, fun _ => .inl List.not_mem_nil⟩
  ·have e0 := ru_tree T (k := k) (by omega) kl
   have ul := Tb'.ups k (by omega) kl
   rw [e0] at fin ⊢
   obtain ⟨vu, hxu, ⟨pu, bu, rfl, hTu, hbu, lbu⟩⟩ := paired_getr pA (rowAt_lt (show upR R k < R.length by omega))
   refine iteF ⟨_, rfl, _, rfl, a, _, _, _, rfl, rfl, s2.seq hA, atI_nat hxu, pu, _, _, _, rfl, rfl, s2.tupq hTu, rfl, ?_⟩
   refine fin bu (bagR R (upR R k)) H2 (Same.refl _) (s2.seq hbu) fun t => ?_
   by_cases c1 : t.1 ∈ bagR R (upR R k) <;> by_cases c2 : t.2 ∈ bagR R (upR R k) <;> simp [c1, c2, k0]
theorem ok_steps_up_to (B : Bl mg) (d_less : Dn K mg "less" s_less ["one", "other"]) (d_steps_between : Dn K mg "steps_between" s_steps_between ["lower", "upper"]) (d_steps_up_to : Dn K mg "steps_up_to" s_steps_up_to ["graph", "rows", "k"]) : ∀ d, FnOk P w K mg base CX0 (d + 3) d_steps_up_to.f d_steps_up_to.fd ["graph", "rows", "k"] (spUpTo K d)
 | 0 => ok_upto0 d_steps_up_to
 | d + 1 => ok_upto1 B d_less d_steps_between d_steps_up_to d (ok_steps_up_to B d_less d_steps_between d_steps_up_to d)
end
end K
namespace K
open PySem L2 Lw Bg
abbrev s_steps_of : Stmt := top 30
theorem sc_steps_of : FnScope ["graph", "tree", "rows"] ["graph", "tree"] (defScope s_steps_of) := ⟨rfl, rfl, rfl, by decide +kernel, rfl, by decide +kernel, by decide +kernel⟩
structure Cts (mg : Str → Option Value) where
 u_MOST_IN_A_BAG : Value
 m_MOST_IN_A_BAG : mg "MOST_IN_A_BAG" = some u_MOST_IN_A_BAG
 r_MOST_IN_A_BAG : RelV (.int 4) u_MOST_IN_A_BAG
theorem cts_mk {K : PySem.W.Frag} {h : Heap} {mg : Str → Option Value} {t_MOST_IN_A_BAG : Tok} (X : K.In h) (G : h.Ns mainGlobals mg) (a_MOST_IN_A_BAG : PySem.W.nsIn K mainGlobals "MOST_IN_A_BAG" = some (some (Value.int 4 t_MOST_IN_A_BAG))) : Nonempty (Cts mg) :=
 ⟨{ u_MOST_IN_A_BAG := _, m_MOST_IN_A_BAG := PySem.W.mg_of X G a_MOST_IN_A_BAG, r_MOST_IN_A_BAG := ⟨_, rfl⟩ }⟩
def spWide (K : PySem.W.Frag) : Sp := fun vs H Q _ => ∃ (a : Addr) (xs : List V) (rs : List Row), vs = [.ref a] ∧ SqL K H a xs ∧ Paired (fun v r => ∃ q, v = .ref q ∧ SqL K H q (r.2.map V.int)) xs rs ∧ rs.length ≤ 900 ∧ (∀ r ∈ rs, r.2.length ≤ 4) ∧ ∀ H', Same H H' → Q .non H'
def spStepsOf (K : PySem.W.Frag) : Sp := fun vs H Q _ => ∃ (g : V) (n : Nat) (ts : List (Int × Int)) (a : Addr) (rs : List Row), vs = [g, .ref a] ∧ GraphV K H g n ts ∧ n ≤ 10 ∧ RowsAt K H a rs ∧ Tree n rs ∧ (∀ r ∈ rs, r.2.length ≤ 4) ∧ ts.length ≤ 100 ∧ (∀ t ∈ ts, ∃ r ∈ rs, t.1 ∈ r.2 ∧ t.2 ∈ r.2) ∧
 ∀ p us H' R sp, Same H H' → H p = none → H' p = some (.lst us) → Tidy rs rs.length R sp → Paired (StpL H') us (stepsU ts R.length (upR R) (bagR R) 10 0 ++ (bagR R 0).map .out) → Q (.ref p) H'
theorem tidy_4 {rs R : List Row} {sp : List Nat} {c : Nat} (D : Tidy rs rs.length R sp) (h : ∀ r ∈ rs, r.2.length ≤ c) (k : Nat) : (bagR R k).length ≤ c := by
 by_cases kl : k < R.length
 ·obtain ⟨j, jl, _, e⟩ := D.own k kl
  unfold bagR
  rw [e]
  exact h _ (List.mem_of_getElem? (rowAt_lt jl))
 ·unfold bagR
  rw [rowAt_ge (by omega)]
  exact Nat.zero_le _
section
variable {P : Program} {w : World} {K : PySem.W.Frag} {mg : Str → Option Value} {base : Heap}
set_option maxHeartbeats 8000000 in
theorem ok_refuse_wide (B : Bl mg) (Ct : Cts mg) (d_refuse_wide : Dn K mg "refuse_wide" s_refuse_wide ["bags"]) : FnOk P w K mg base CX0 1 d_refuse_wide.f d_refuse_wide.fd ["bags"] (spWide K) := by
 refine d_refuse_wide.F.ok sc_refuse_wide (fun vs H Q E h => ?_) (fun cdv A outer s H vs Q E hr h => ?_)
 ·obtain ⟨a, xs, rs, rfl, _⟩ := h
  rfl
 obtain ⟨a, xs, rs, rfl, hx, hp, l9, h4, q⟩ := h
 have lx := Paired.length hp
 refine ⟨_, (pss_one (ps_if (pt_truthK (K := K) rfl (pe_callB (call_anyK (K := K) rfl rfl) rfl B.any (by decide +kernel) (pa_cons (pe_lc ["bag"] [none]  (by kernel_rfl) rfl (pi_listK (K := K) rfl (pv 0)) (fun _ _ _ _ _ => (pg_name (i := 0) (show (["bag"] : List Str).Nodup by decide +kernel) rfl (Or.inl rfl))) (fun _ _ _ _ _ => pts_nil) (fun _ _ _ _ _ => (pe_cmpR op_gt (pe_callB (call_lenK (K := K) rfl) rfl B.len (by decide +kernel) (pa_cons (pv 0) pa_nil)) (pe_glob (v := .int 4) rfl Ct.m_MOST_IN_A_BAG Ct.r_MOST_IN_A_BAG) (nomark _)))) pa_nil)) (fun _ => rfl))
   (pss_one ps_never)
   pss_nil)), ?_⟩
 refine ⟨_, rfl, a, rfl, ⟨_, hx⟩, ?_⟩
 refine lc_ixN (fun j => some (.bl false)) hx (by omega) (fun j x H3 N hj s3 hN => ?_) (fun H3 p H4 s3 nw => ?_)
 ·obtain ⟨r, hr1, ⟨b, rfl, hb⟩⟩ := paired_get hp hj
  refine ⟨_, rfl, b, _, rfl, .inl (s3.seq hb), _, _, rfl, rfl, ?_⟩
  have := h4 r (List.mem_of_getElem? hr1)
  dsimp only
  rw [decide_eq_false (show ¬ (4 : Int) < (((r.2.map V.int).length : Nat) : Int) by rw [List.length_map]; omega)]
  exact hN H3 s3
 have e1 : (List.range xs.length).filterMap (fun j => some (V.bl false)) = ((List.range rs.length).map fun _ => false).map V.bl := by
  rw [lx, List.map_map]
  exact fm_some fun _ _ => rfl
 rw [e1] at nw
 refine ⟨p, _, _, rfl, SqL.of nw.here, Truths.bls _, _, rfl, ?_⟩
 have e2 : ((List.range rs.length).map fun _ => false).any id = false := by
  rw [List.any_eq_false]
  intro x hx
  obtain ⟨_, _, rfl⟩ := List.mem_map.mp hx
  simp
 rw [e2]
 exact iteF (q H4 (s3.trans nw.same))
set_option maxHeartbeats 8000000 in
theorem ok_steps_of (B : Bl mg) (Ct : Cts mg) (d_is_whole : Dn K mg "is_whole" s_is_whole ["thing"]) (d_is_below : Dn K mg "is_below" s_is_below ["n", "thing"]) (d_is_set : Dn K mg "is_set" s_is_set ["n", "places"]) (d_is_up : Dn K mg "is_up" s_is_up ["k", "up"]) (d_row_fault : Dn K mg "row_fault" s_row_fault ["n", "rows"]) (d_place_fault : Dn K mg "place_fault" s_place_fault ["n", "rows"]) (d_tie_fault : Dn K mg "tie_fault" s_tie_fault ["ties", "rows"]) (d_is_held : Dn K mg "is_held" s_is_held ["rows", "up", "v"]) (d_apart_fault : Dn K mg "apart_fault" s_apart_fault ["n", "rows"]) (d_fault : Dn K mg "fault" s_fault ["graph", "rows"]) (d_refuse_wide : Dn K mg "refuse_wide" s_refuse_wide ["bags"]) (d_less : Dn K mg "less" s_less ["one", "other"]) (d_are_crossed : Dn K mg "are_crossed" s_are_crossed ["one", "other"]) (d_tidied : Dn K mg "tidied" s_tidied ["tree"]) (d_steps_between : Dn K mg "steps_between" s_steps_between ["lower", "upper"]) (d_steps_up_to : Dn K mg "steps_up_to" s_steps_up_to ["graph", "rows", "k"]) (d_steps_of : Dn K mg "steps_of" s_steps_of ["graph", "tree"]) : FnOk P w K mg base CX0 14 d_steps_of.f d_steps_of.fd ["graph", "tree"] (spStepsOf K) := by
 have G_fault : FnOk P w K mg base CX0 13 _ _ _ _ := (ok_fault B d_is_whole d_is_below d_is_set d_is_up d_row_fault d_place_fault d_tie_fault d_is_held d_apart_fault d_fault).mono (by decide)
 have G_refuse_wide : FnOk P w K mg base CX0 13 _ _ _ _ := (ok_refuse_wide B Ct d_refuse_wide).mono (by decide)
 have G_tidied : FnOk P w K mg base CX0 13 _ _ _ _ := (ok_tidied B d_less d_are_crossed d_tidied).mono (by decide)
 have G_steps_up_to : FnOk P w K mg base CX0 13 _ _ _ _ := ok_steps_up_to B d_less d_steps_between d_steps_up_to 10
 refine d_steps_of.F.ok sc_steps_of (fun vs H Q E h => ?_) (fun cdv A outer s H vs Q E hr h => ?_)
 ·obtain ⟨g, n, ts, a, rs, rfl, _⟩ := h
  rfl
 obtain ⟨g, n, ts, a, rs, rfl, hG, n10, hR, T, h4, t100, inb, q⟩ := h
 refine ⟨_, (pss_cons (ps_if (pt_cmpR op_notN (pe_call G_fault hr rfl d_fault.m d_fault.F.kp d_fault.b .nil pass0 (pa_cons (pv 0) (pa_cons (pv 1) pa_nil))) pe_non (nomark _))
   (pss_one ps_never)
   pss_nil)
   (pss_cons (ps_expr (pe_call G_refuse_wide hr rfl d_refuse_wide.m d_refuse_wide.F.kp d_refuse_wide.b .nil pass0 (pa_cons (pe_lc ["up", "places"] [none, none]  (by kernel_rfl) rfl (pi_listK (K := K) rfl (pv 1)) (fun _ _ _ _ _ => (pg_tupK (K := K) (n := 2) rfl rfl (pgs_cons (pg_name (i := 0) (show (["up", "places"] : List Str).Nodup by decide +kernel) rfl (Or.inl rfl)) (pgs_cons (pg_name (i := 1) (show (["up", "places"] : List Str).Nodup by decide +kernel) rfl (Or.inl rfl)) pgs_nil)))) (fun _ _ _ _ _ => pts_nil) (fun _ _ _ _ _ => (pv 1))) pa_nil)))
   (pss_cons (ps_set (i := 2) sc_steps_of.nd rfl (Or.inl rfl) (pe_call G_tidied hr rfl d_tidied.m d_tidied.F.kp d_tidied.b .nil pass0 (pa_cons (pv 1) pa_nil)))
   (pss_one (ps_ret (pe_op op_catN (pe_call G_steps_up_to hr rfl d_steps_up_to.m d_steps_up_to.F.kp d_steps_up_to.b .nil pass0 (pa_cons (pv 0) (pa_cons (pv 2) (pa_cons pe_int pa_nil)))) (pe_lc ["v"] [none]  (by kernel_rfl) rfl (pi_listK (K := K) rfl (pe_ix (ix_tupK (K := K) rfl) (pe_ix (ix_listK (K := K) rfl) (pv 2) pe_int (fun _ _ => rfl)) pe_int (fun _ _ => rfl))) (fun _ _ _ _ _ => (pg_name (i := 0) (show (["v"] : List Str).Nodup by decide +kernel) rfl (Or.inl rfl))) (fun _ _ _ _ _ => pts_nil) (fun _ _ _ _ _ => (pe_tupN (pa_cons pe_str (pa_cons (pv 0) pa_nil))))))))))), ?_⟩
 refine ⟨_, rfl, _, rfl, g, n, ts, a, rs, rfl, by omega, hG, hR, fun v H1 s1 fv => ?_⟩
 rw [fault_tree T inb] at fv
 obtain rfl : v = .non := fv
 refine ⟨rfl, _, rfl, iteF ?_⟩
 obtain ⟨xs, hx, hp, hz⟩ := id hR
 have lx := Paired.length hp
 have r40 := T.len
 refine ⟨_, rfl, a, rfl, ⟨_, s1.seq hx⟩, ?_⟩
 refine lc_list (K := K) (a := a) (xs := xs) (fun i ys H' => Same H1 H' ∧ Paired (fun v r => ∃ q, v = .ref q ∧ SqL K H' q (r.2.map V.int)) ys (rs.take i)) ⟨Same.refl _, .nil⟩ (fun i ys H' hi ⟨s, p⟩ => ⟨(s1.trans s).seq hx, ?_⟩) (fun i x ys H' hi ⟨s, p⟩ => ?_) (fun ys H2 ⟨s2, p2⟩ pb hpb => ?_)
 ·rw [Paired.length p, List.length_take]
  exact Nat.le_of_lt (small1000 (by omega))
 ·obtain ⟨r, hr1, ⟨pr, b, rfl, hT, hb, hbl⟩⟩ := paired_get hp hi
  have et : rs.take (i + 1) = rs.take i ++ [r] := by rw [List.take_succ, hr1]; rfl
  refine ⟨pr, _, rfl, (s1.trans s).tupq hT, rfl, _, _, rfl, _, _, rfl, rfl, _, rfl, s, ?_⟩
  rw [et]
  exact paired_snoc p ⟨b, rfl, (s1.trans s).seq hb⟩
 rw [lx, List.take_length] at p2
 have n3 : New H2 pb (.lst ys) (upd H2 pb (.lst ys)) := New.mk0 hpb
 generalize upd H2 pb (.lst ys) = H3 at n3 ⊢
 refine ⟨pb, ys, rs, rfl, SqL.of n3.here, Paired.mapP p2 fun _ _ ⟨q, e, h⟩ => ⟨q, e, n3.same.seq h⟩, by omega, h4, fun H4 s4 => ?_⟩
 have s04 := s1.trans (s2.trans (n3.same.trans s4))
 refine ⟨_, rfl, a, rs, n, rfl, RowsAt.same s04 hR, T, n10, fun p5 x5 R sp H5 s5 f5 h5 q5 D => ?_⟩
 have s05 := s04.trans s5
 have TR := tidy_tree T D
 have few := tidy_few T D
 have b4 := tidy_4 D h4
 have qR : Paired (RowV K H5) x5 R := Paired.mapP q5 fun _ _ ⟨p, b, e, h1, h2, _, _, h3⟩ => ⟨p, b, e, SqT.of h1, SqL.of h2, by omega⟩
 refine ⟨_, rfl, _, rfl, g, n, ts, p5, x5, R, 0, rfl, hG.same s05, SqL.of h5, qR, TR, by omega, t100, b4, TR.pos, by omega, fun p6 x6 H6 s6 f6 h6 q6 => ?_⟩
 obtain ⟨v0, hx0, ⟨pr0, b0, rfl, hT0, hb0, _⟩⟩ := paired_getr qR (rowAt_lt TR.pos)
 refine ⟨_, rfl, p5, _, _, _, rfl, rfl, SqL.of (s6 _ _ h5), atI_nat hx0, pr0, _, _, _, rfl, rfl, s6.tupq hT0, rfl, b0, rfl, ⟨_, s6.seq hb0⟩, ?_⟩
 have b0l := b4 0
 refine lc_stps (bagR R 0) (fun _ => true) Stp.out (s6.seq hb0) (by omega) (fun v H7 N M _ s7 hN hM => ?_) (fun H7 p7 y7 H8 s7 n8 q8 => ?_)
 ·exact ⟨_, rfl, (by show 2 ≤ 1000; decide), fun p H5 n5 => hN rfl p H5 n5⟩
 rw [List.filter_eq_self.mpr (fun _ _ => rfl)] at q8
 have l6 := Paired.length q6
 have l240 := stepsU_240 (tb_tree TR) b4 (by omega) t100 (f := 10) TR.pos
 have l8 := Paired.length q8
 rw [List.length_map] at l8
 have s68 := s7.trans n8.same
 refine ⟨p6, p7, _, _, rfl, rfl, s68 _ _ h6, n8.here, by omega, fun p9 H9 n9 => ?_⟩
 have s09 := s05.trans (s6.trans (s68.trans n9.same))
 exact q p9 _ H9 R sp s09 ((s05.trans (s6.trans s68)).free n9.fresh) n9.here D (paired_app (Paired.mapP q6 fun _ _ h => StpL.same (s68.trans n9.same) h) (Paired.mapP q8 fun _ _ h => StpL.same n9.same h))
end
end K
namespace K
open PySem L2 Lw Bg
abbrev s__law_at : Stmt := top 36
theorem sc__law_at : FnScope ["_law_script", "_law_k", "_law_base"] ["_law_script", "_law_k"] (defScope s__law_at) := ⟨rfl, rfl, rfl, by decide +kernel, rfl, by decide +kernel, by decide +kernel⟩
def spAt (K : PySem.W.Frag) : Sp := fun vs H Q _ => ∃ (a : Addr) (ns : List Int) (k : Int), vs = [.ref a, .int k] ∧ Scr K H a ns ∧ ns.length ≤ 63 ∧ 0 ≤ k ∧ k ≤ 1000 ∧ ∀ z, Q (.int z) H
section
variable {P : Program} {w : World} {K : PySem.W.Frag} {mg : Str → Option Value} {base : Heap}
set_option maxHeartbeats 4000000 in
theorem ok__law_at (B : Bl mg) (d__law_at : Dn K mg "_law_at" s__law_at ["_law_script", "_law_k"]) : FnOk P w K mg base CX0 1 d__law_at.f d__law_at.fd ["_law_script", "_law_k"] (spAt K) := by
 refine d__law_at.F.ok sc__law_at (fun vs H Q E h => ?_) (fun cdv A outer s H vs Q E hr h => ?_)
 ·obtain ⟨a, ns, k, rfl, _⟩ := h
  rfl
 obtain ⟨a, ns, k, rfl, hS, h63, k0, k1, q⟩ := h
 have hA := hS.seq
 refine ⟨_, (pss_cons (ps_if (pt_cmpR op_lt (pv 1) (pe_callB (call_lenK (K := K) rfl) rfl B.len (by decide +kernel) (pa_cons (pv 0) pa_nil)) (nomark _))
   (pss_one (ps_ret (pe_ix (ix_listK (K := K) rfl) (pv 0) (pv 1) (fun _ _ => rfl))))
   pss_nil)
   (pss_cons (ps_set (i := 2) sc__law_at.nd rfl (Or.inl rfl) pe_int)
   (pss_cut (ps_if (pt_cmpR op_gt (pe_callB (call_lenK (K := K) rfl) rfl B.len (by decide +kernel) (pa_cons (pv 0) pa_nil)) pe_int (nomark _))
   (pss_one (ps_set (i := 2) sc__law_at.nd rfl (Or.inl rfl) (pe_op op_mod (pe_ix (ix_listK (K := K) rfl) (pv 0) (pe_op op_mod (pe_op op_add (pe_op op_mul (pv 1) pe_int) pe_int) (pe_callB (call_lenK (K := K) rfl) rfl B.len (by decide +kernel) (pa_cons (pv 0) pa_nil))) (fun _ _ => rfl)) pe_int)))
   pss_nil)
   (pss_one (ps_ret (pe_op op_mod (pe_op op_mul (pe_op op_add (pe_op op_add (pv 2) (pe_op op_mul pe_int (pv 1))) pe_int) (pe_op op_add (pe_op op_add (pe_op op_mul (pv 2) pe_int) (pe_op op_mul (pv 1) (pv 1))) pe_int)) pe_int)))))), ?_⟩
 have hl : (ns.map V.int).length = ns.length := List.length_map _
 refine ⟨_, rfl, _, rfl, a, _, rfl, .inl hA, _, _, rfl, rfl, _, rfl, ?_⟩
 refine ite2 (fun c => ?_) (fun c => ?_)
 ·have c' : k < (((ns.map V.int).length : Nat) : Int) := of_decide_eq_true c
  rw [hl] at c'
  exact ⟨_, rfl, _, rfl, a, _, _, _, rfl, rfl, hA, at_ints k0 c', q _⟩
 refine ⟨fun σ' H' => ∃ b : Int, -(2 ^ 32) < b ∧ b < 2 ^ 32 ∧ σ' = [some (.ref a), some (.int k), some (.int b)] ∧ H' = H, ?_, ?_⟩
 ·refine ⟨_, rfl, a, _, rfl, .inl hA, _, _, rfl, rfl, _, rfl, ?_⟩
  refine ite2 (fun c2 => ?_) (fun c2 => ⟨97, by decide, by decide, rfl, rfl⟩)
  have c2' : (0 : Int) < (((ns.map V.int).length : Nat) : Int) := of_decide_eq_true c2
  rw [hl] at c2'
  have m0 := Int.emod_nonneg (k * 23 + 8) (show (ns.length : Int) ≠ 0 by omega)
  have m1 := Int.emod_lt_of_pos (k * 23 + 8) c2'
  refine ⟨_, rfl, _, rfl, _, _, rfl, rfl, .inr ⟨by decide, by decide⟩, _, _, rfl, rfl, _, rfl, a, _, rfl, .inl hA, _, _, rfl, rfl, (by rw [hl]; exact c2'), a, _, _, _, rfl, rfl, hA, (by rw [hl]; exact at_ints m0 m1), _, _, rfl, rfl, (show (0 : Int) < _ by decide), ?_⟩
  have e0 := Int.emod_nonneg (ns.getD ((k * 23 + 8) % (ns.length : Int)).toNat 0) (show (999907 : Int) ≠ 0 by decide)
  have e1 := Int.emod_lt_of_pos (ns.getD ((k * 23 + 8) % (ns.length : Int)).toNat 0) (show (0 : Int) < 999907 by decide)
  exact ⟨_, by omega, by omega, rfl, rfl⟩
 rintro σ' H' ⟨b, b0, b1, rfl, rfl⟩
 refine ⟨_, rfl, _, rfl, _, _, rfl, rfl, .inl ⟨by decide, by decide⟩, _, _, rfl, rfl, _, _, rfl, rfl, _, rfl, _, _, rfl, rfl, .inr ⟨by decide, by decide⟩, _, rfl, _, rfl, _, _, rfl, rfl, .inl ⟨by omega, by omega⟩, _, _, rfl, rfl, _, _, rfl, rfl, _, _, rfl, rfl, .inl ⟨by omega, by omega⟩, _, _, rfl, rfl, (show (0 : Int) < _ by decide), q _⟩
end
abbrev s__law_rows : Stmt := top 37
theorem sc__law_rows : FnScope ["_law_script", "_law_n", "_law_keys", "_law_left", "_law_many", "_law_rows_here", "_law_k", "_law_up", "_law_bag", "_law_fresh"] ["_law_script", "_law_n"] (defScope s__law_rows) := ⟨rfl, rfl, rfl, by decide +kernel, rfl, by decide +kernel, by decide +kernel⟩
def Asc (rs : List Row) : Prop := ∀ k, (bagR rs k).Pairwise (· < ·)
theorem asc_snoc {rs : List Row} {r : Row} (h : Asc rs) (hr : r.2.Pairwise (· < ·)) : Asc (rs ++ [r]) := fun k => by
 rw [bagR_snoc]
 split
 ·exact hr
 ·exact h k
theorem asc_of {zs : List Int} (nd : zs.Nodup) (h : zs.Pairwise (· ≤ ·)) : zs.Pairwise (· < ·) := (List.pairwise_and_iff.mpr ⟨h, nd⟩).imp fun {a b} z => by have := z.1; have := z.2; omega
def spRows55 (K : PySem.W.Frag) : Sp := fun vs H Q _ => ∃ (a : Addr) (ns : List Int) (n : Nat), vs = [.ref a, .int n] ∧ Scr K H a ns ∧ ns.length ≤ 63 ∧ n ≤ 10 ∧
 ∀ l xs rs H', Same H H' → H l = none → H' l = some (.lst xs) → Paired (RowL l H') xs rs → Rw n 4 rs [] → Asc rs → rs.length ≤ 20 → Q (.ref l) H'
def RowW (K : PySem.W.Frag) (a l pl : Addr) (v3 : Option V) (n many : Nat) (H : Hp) (m : Nat) (σ : St) (H' : Hp) : Prop :=
 ∃ (xs : List V) (rs : List Row) (us : List Int) (v7 v8 v9 v10 : Option V), σ = [some (.ref a), some (.int n), v3, some (.ref pl), some (.int many), some (.ref l), v7, v8, v9, v10] ∧ Same H H' ∧ H' l = some (.lst xs) ∧ H' pl = some (.lst (us.map V.int)) ∧ Paired (RwX [l, pl] H') xs rs ∧ Rw n 4 rs us ∧ Asc rs ∧ m = (many - rs.length) + us.length ∧ rs.length ≤ many + (n - us.length) ∧ us.length ≤ n
theorem cut_takeA (xs : List V) (k : Nat) : cutV xs none (some (k : Int)) = xs.take k := by
 unfold cutV
 have e1 : HT.sIx xs.length xs.length (some (k : Int)) = min k xs.length := HT.sIx_nat _ _ k
 have e2 : HT.sIx xs.length 0 none = 0 := rfl
 rw [e1, e2, List.drop_zero, Nat.sub_zero]
 rcases Nat.le_total k xs.length with c | c
 ·rw [Nat.min_eq_left c]
 ·rw [Nat.min_eq_right c, List.take_of_length_le (Nat.le_refl _), List.take_of_length_le c]
theorem rng_nat {l : List Nat} {n : Nat} (h : l.Perm (List.range n)) : (l.map fun i => ((i : Nat) : Int)).Perm (rng n) := h.map _
section
variable {P : Program} {w : World} {K : PySem.W.Frag} {mg : Str → Option Value} {base : Heap}
set_option maxHeartbeats 8000000 in
theorem ok__law_rows (B : Bl mg) (d__law_at : Dn K mg "_law_at" s__law_at ["_law_script", "_law_k"]) (d__law_rows : Dn K mg "_law_rows" s__law_rows ["_law_script", "_law_n"]) : FnOk P w K mg base CX0 2 d__law_rows.f d__law_rows.fd ["_law_script", "_law_n"] (spRows55 K) := by
 have G__law_at : FnOk P w K mg base CX0 1 _ _ _ _ := ok__law_at B d__law_at
 refine d__law_rows.F.ok sc__law_rows (fun vs H Q E h => ?_) (fun cdv A outer s H vs Q E hr h => ?_)
 ·obtain ⟨a, ns, n, rfl, _⟩ := h
  rfl
 obtain ⟨a, ns, n, rfl, hS, h63, n10, q⟩ := h
 refine ⟨_, (pss_cons (ps_set (i := 2) sc__law_rows.nd rfl (Or.inl rfl) (pe_callB (call_sortedT (K := K) rfl) rfl B.sorted (by decide +kernel) (pa_cons (pe_lc ["_law_v", "_law_script"] [none, some 0]  (by kernel_rfl) rfl (pi_range1 rfl B.range (pa_cons (pv 1) pa_nil)) (fun _ _ _ _ _ => (pg_name (i := 0) (show (["_law_v", "_law_script"] : List Str).Nodup by decide +kernel) rfl (Or.inl rfl))) (fun _ _ _ _ _ => pts_nil) (fun _ _ _ _ _ => (pe_tupN (pa_cons (pe_op op_mod (pe_call G__law_at hr rfl d__law_at.m d__law_at.F.kp d__law_at.b .nil pass0 (pa_cons (pv 1) (pa_cons (pe_op op_add pe_int (pv 0)) pa_nil))) pe_int) (pa_cons (pv 0) pa_nil))))) pa_nil)))
   (pss_cons (ps_set (i := 3) sc__law_rows.nd rfl (Or.inr rfl) (pe_lc ["_law_key", "_law_v"] [none, none]  (by kernel_rfl) rfl (pi_listK (K := K) rfl (pv 2)) (fun _ _ _ _ _ => (pg_tupK (K := K) (n := 2) rfl rfl (pgs_cons (pg_name (i := 0) (show (["_law_key", "_law_v"] : List Str).Nodup by decide +kernel) rfl (Or.inl rfl)) (pgs_cons (pg_name (i := 1) (show (["_law_key", "_law_v"] : List Str).Nodup by decide +kernel) rfl (Or.inl rfl)) pgs_nil)))) (fun _ _ _ _ _ => pts_nil) (fun _ _ _ _ _ => (pv 1))))
   (pss_cons (ps_set (i := 4) sc__law_rows.nd rfl (Or.inl rfl) (pe_op op_add pe_int (pe_op op_mod (pe_call G__law_at hr rfl d__law_at.m d__law_at.F.kp d__law_at.b .nil pass0 (pa_cons (pv 0) (pa_cons pe_int pa_nil))) pe_int)))
   (pss_cons (ps_set (i := 5) sc__law_rows.nd rfl (Or.inl rfl) (pe_lstN (pa_cons (pe_tupN (pa_cons pe_non (pa_cons (pe_callB (call_sortedI (K := K) rfl) rfl B.sorted (by decide +kernel) (pa_cons (pe_lc ["_law_k", "_law_left"] [none, some 3]  (by kernel_rfl) rfl (pi_range1 rfl B.range (pa_cons (pe_callB (call_min2 rfl) rfl B.min (by decide +kernel) (pa_cons (pe_callB (call_lenK (K := K) rfl) rfl B.len (by decide +kernel) (pa_cons (pv 3) pa_nil)) (pa_cons (pe_op op_mod (pe_call G__law_at hr rfl d__law_at.m d__law_at.F.kp d__law_at.b .nil pass0 (pa_cons (pv 0) (pa_cons pe_int pa_nil))) pe_int) pa_nil))) pa_nil)) (fun _ _ _ _ _ => (pg_name (i := 0) (show (["_law_k", "_law_left"] : List Str).Nodup by decide +kernel) rfl (Or.inl rfl))) (fun _ _ _ _ _ => pts_nil) (fun _ _ _ _ _ => (pe_bm0K (K := K) rfl PySem.F.plainAttrs_list PySem.F.slot_list_pop PySem.F.type_list_pop mt_popN (pv 1)))) pa_nil)) pa_nil))) pa_nil)))
   (pss_cons (ps_while PassesOwn.never (PW.pt (pw_or (pt_cmpR op_lt (pe_callB (call_lenK (K := K) rfl) rfl B.len (by decide +kernel) (pa_cons (pv 5) pa_nil)) (pv 4) (nomark _)) (pw_or1 (pt_cmpR op_gt (pe_callB (call_lenK (K := K) rfl) rfl B.len (by decide +kernel) (pa_cons (pv 3) pa_nil)) pe_int (nomark _)))))
   (pss_cons (ps_set (i := 6) sc__law_rows.nd rfl (Or.inr rfl) (pe_callB (call_lenK (K := K) rfl) rfl B.len (by decide +kernel) (pa_cons (pv 5) pa_nil)))
   (pss_cons (ps_set (i := 7) sc__law_rows.nd rfl (Or.inl rfl) (pe_op op_mod (pe_call G__law_at hr rfl d__law_at.m d__law_at.F.kp d__law_at.b .nil pass0 (pa_cons (pv 0) (pa_cons (pe_op op_add pe_int (pv 6)) pa_nil))) (pv 6)))
   (pss_cons (ps_setLC (i := 8) ["_law_v", "_law_script", "_law_k"] [none, some 0, some 6] sc__law_rows.nd rfl rfl (by kernel_rfl) rfl (pi_listK (K := K) rfl (pe_ix (ix_tupK (K := K) rfl) (pe_ix (ix_listK (K := K) rfl) (pv 5) (pv 7) (fun _ _ => rfl)) pe_int (fun _ _ => rfl))) (fun _ _ _ _ _ => (pg_name (i := 0) (show (["_law_v", "_law_script", "_law_k"] : List Str).Nodup by decide +kernel) rfl (Or.inl rfl))) (fun _ _ _ _ _ => (pts_one (pt_cmpR op_gt (pe_op op_mod (pe_call G__law_at hr rfl d__law_at.m d__law_at.F.kp d__law_at.b .nil pass0 (pa_cons (pv 1) (pa_cons (pe_op op_add (pe_op op_add pe_int (pe_op op_mul pe_int (pv 2))) (pv 0)) pa_nil))) pe_int) pe_int (nomark _)))) (fun _ _ _ _ _ => (pv 0)) (by rfl))
   (pss_cut (ps_if (pt_cmpR op_ge (pv 6) (pv 4) (nomark _))
   (pss_one (ps_set (i := 8) sc__law_rows.nd rfl (Or.inl rfl) (pe_slice (sl_listN (K := K) rfl) (pv 8) po_none (po_some pe_int))))
   pss_nil)
   (pss_cons (ps_set (i := 9) sc__law_rows.nd rfl (Or.inl rfl) (pe_op op_mod (pe_call G__law_at hr rfl d__law_at.m d__law_at.F.kp d__law_at.b .nil pass0 (pa_cons (pv 0) (pa_cons (pe_op op_add pe_int (pv 6)) pa_nil))) (pe_op op_sub pe_int (pe_callB (call_lenK (K := K) rfl) rfl B.len (by decide +kernel) (pa_cons (pv 8) pa_nil)))))
   (pss_cut (ps_if (pt_cmpR op_ge (pv 6) (pv 4) (nomark _))
   (pss_one (ps_set (i := 9) sc__law_rows.nd rfl (Or.inl rfl) (pe_callB (call_max2 rfl) rfl B.max (by decide +kernel) (pa_cons pe_int (pa_cons (pv 9) pa_nil)))))
   pss_nil)
   (pss_one (ps_expr (pe_bmK (K := K) rfl PySem.F.plainAttrs_list PySem.F.slot_list_append PySem.F.type_list_append mt_appendN (pv 5) (pa_cons (pe_tupN (pa_cons (pv 7) (pa_cons (pe_callB (call_sortedI (K := K) rfl) rfl B.sorted (by decide +kernel) (pa_cons (pe_op op_catN (pv 8) (pe_lc ["_law_j", "_law_left"] [none, some 3]  (by kernel_rfl) rfl (pi_range1 rfl B.range (pa_cons (pe_callB (call_min2 rfl) rfl B.min (by decide +kernel) (pa_cons (pv 9) (pa_cons (pe_callB (call_lenK (K := K) rfl) rfl B.len (by decide +kernel) (pa_cons (pv 3) pa_nil)) pa_nil))) pa_nil)) (fun _ _ _ _ _ => (pg_name (i := 0) (show (["_law_j", "_law_left"] : List Str).Nodup by decide +kernel) rfl (Or.inl rfl))) (fun _ _ _ _ _ => pts_nil) (fun _ _ _ _ _ => (pe_bm0K (K := K) rfl PySem.F.plainAttrs_list PySem.F.slot_list_pop PySem.F.type_list_pop mt_popN (pv 1))))) pa_nil)) pa_nil))) pa_nil)))))))))))
   (pss_one (ps_ret (pv 5)))))))), ?_⟩
 refine ⟨_, rfl, _, rfl, by omega, by omega, ?_⟩
 rw [Int.toNat_natCast]
 refine lc_range (fun i ys H' => ∃ (ps : List Addr) (zs : List Int), ys = ps.map V.ref ∧ ps.length = i ∧ zs.length = i ∧ Same H H' ∧ ∀ k p, ps[k]? = some p → H' p = some (.tup [.int (zs.getD k 0), .int (k : Int)])) ⟨[], [], rfl, rfl, rfl, Same.refl _, fun k p h => by cases h⟩ (fun i ys H' hi ⟨ps, zs, e, l, _⟩ => ?_) (fun i ys H1 hi ⟨ps, zs, e, l, lz, s1, hp⟩ => ?_) ?_
 ·rw [e, List.length_map, l]; exact Nat.le_of_lt (small1000 (by omega))
 ·refine ⟨_, rfl, _, rfl, _, _, rfl, rfl, a, ns, _, rfl, hS.same s1, h63, (by omega), (by omega), fun z => ⟨_, _, rfl, rfl, (show (0 : Int) < _ by decide), _, rfl, (by show 2 ≤ 1000; decide), fun p2 H2 n2 => ?_⟩⟩
  obtain ⟨z, nz⟩ : ∃ z, New H1 p2 (.tup [.int z, .int (0 + (i : Int))]) H2 := ⟨_, n2⟩
  refine ⟨ps ++ [p2], zs ++ [z], by rw [e, List.map_append]; rfl, by rw [List.length_append, l]; rfl, by rw [List.length_append, lz]; rfl, s1.trans n2.same, fun k p hk => ?_⟩
  by_cases c : k < ps.length
  ·rw [List.getElem?_append_left c] at hk
   have := n2.same _ _ (hp k p hk)
   rw [List.getD_eq_getElem?_getD, List.getElem?_append_left (by omega), ← List.getD_eq_getElem?_getD]
   exact this
  ·have k1 := (List.getElem?_eq_some_iff.mp hk).1
   rw [List.length_append] at k1
   have ek : k = i := by
    have : k < ps.length + 1 := k1
    omega
   subst ek
   rw [List.getElem?_append_right (by omega), l, Nat.sub_self] at hk
   cases hk
   rw [List.getD_eq_getElem?_getD, List.getElem?_append_right (by omega), lz, Nat.sub_self]
   have := nz.here
   rw [show (0 + (k : Int)) = (k : Int) by omega] at this
   exact this
 rintro ys H1 ⟨ps, zs, rfl, l, lz, s1, hp⟩ pk hpk
 have n2 := New.mk0 (H := H1) (p := pk) (o := .lst (ps.map V.ref)) hpk
 generalize upd H1 pk (.lst (ps.map V.ref)) = H2 at n2 ⊢
 have s2 : Same H H2 := s1.trans n2.same
 refine ⟨pk, ps.map V.ref, (List.range n).map fun k => [zs.getD k 0, (k : Int)], rfl, SqL.of n2.here, ?_, fun ns h => ?_, by rw [List.length_map]; omega, fun qq p3 H3 pq _ n3 => ?_⟩
 ·have all : ∀ (m : Nat), m ≤ n → Paired (TupV K H2) ((ps.take m).map V.ref) ((List.range m).map fun k => [zs.getD k 0, (k : Int)]) := fun m => by
   induction m with
   | zero => intro _; exact .nil
   | succ m ih =>
    intro hm
    have hml : m < ps.length := by omega
    rw [List.take_succ_eq_append_getElem hml, List.map_append, List.range_succ, List.map_append]
    exact paired_snoc (ih (by omega)) ⟨ps[m], rfl, SqT.of (n2.same _ _ (hp m _ (List.getElem?_eq_getElem hml)))⟩
  have := all n (Nat.le_refl _)
  rw [List.take_of_length_le (by omega)] at this
  exact this
 ·obtain ⟨k, _, rfl⟩ := List.mem_map.mp h
  exact fun z => by cases z
 have pq' : qq.Perm (List.range n) := by rw [List.length_map, l] at pq; exact pq
 have lq : qq.length = n := by rw [pq'.length_eq, List.length_range]
 refine ⟨_, rfl, p3, rfl, ⟨_, SqL.of n3.here⟩, ?_⟩
 refine lc_list (K := K) (a := p3) (xs := qq.map fun i => (ps.map V.ref).getD i V.non) (fun i ys H' => ys = natV (qq.take i) ∧ Same H3 H') ⟨rfl, Same.refl _⟩ (fun i ys H' hi ⟨e, s⟩ => ⟨SqL.of (s _ _ n3.here), ?_⟩) (fun i x ys H4 hx ⟨e, s4⟩ => ?_) (fun ys H4 ⟨e, s4⟩ p5 hp5 => ?_)
 ·rw [e, List.length_map, List.length_take]
  exact Nat.le_of_lt (small1000 (by omega))
 ·rw [List.getElem?_map] at hx
  obtain ⟨k, hk, rfl⟩ := Option.map_eq_some_iff.mp hx
  have kn : k < n := List.mem_range.mp (pq'.mem_iff.mp (List.mem_of_getElem? hk))
  have kl : k < ps.length := by omega
  have ex : (ps.map V.ref).getD k V.non = V.ref ps[k] := by rw [List.getD_eq_getElem?_getD, List.getElem?_map, List.getElem?_eq_getElem kl]; rfl
  rw [ex]
  have ht := (n2.same.trans (n3.same.trans s4)) _ _ (hp k _ (List.getElem?_eq_getElem kl))
  refine ⟨ps[k], _, rfl, SqT.of ht, rfl, _, _, rfl, _, _, rfl, rfl, _, rfl, ?_, s4⟩
  obtain ⟨hil, hik⟩ := List.getElem?_eq_some_iff.mp hk
  rw [e, List.take_succ_eq_append_getElem hil, hik]
  unfold natV
  rw [List.map_append]
  rfl
 subst e
 rw [List.length_map, List.take_length]
 have n5 : New H4 p5 (.lst (natV qq)) (upd H4 p5 (.lst (natV qq))) := New.mk0 hp5
 generalize upd H4 p5 (.lst (natV qq)) = H5 at n5
 have s5 := s2.trans (n3.same.trans (s4.trans n5.same))
 obtain ⟨us, eus⟩ : ∃ us : List Int, us = qq.map fun i => ((i : Nat) : Int) := ⟨_, rfl⟩
 have pu : us.Perm (rng n) := by rw [eus]; exact rng_nat pq'
 have lu : us.length = n := by rw [pu.length_eq, List.length_map, List.length_range]
 have h5 : H5 p5 = some (.lst (us.map V.int)) := by
  rw [n5.here, eus]
  unfold natV
  rw [List.map_map]; rfl
 have f5 : H p5 = none := s2.free (n3.same.free (s4.free n5.fresh))
 refine ⟨_, rfl, a, ns, 1, rfl, hS.same s5, h63, by decide, by decide, fun zm => ⟨_, _, rfl, rfl, (show (0 : Int) < _ by decide), _, _, rfl, rfl, ?_⟩⟩
 have y0 := Int.emod_nonneg zm (show (10 : Int) ≠ 0 by decide)
 have y1 := Int.emod_lt_of_pos zm (show (0 : Int) < 10 by decide)
 obtain ⟨many, em⟩ : ∃ k : Nat, 1 + zm % 10 = (k : Int) := ⟨(1 + zm % 10).toNat, by omega⟩
 dsimp only
 rw [em]
 refine ⟨_, rfl, p5, _, rfl, .inl (SqL.of h5), _, rfl, a, ns, 2, rfl, hS.same s5, h63, by decide, by decide, fun z3 => ?_⟩
 have w0 := Int.emod_nonneg z3 (show (5 : Int) ≠ 0 by decide)
 have w1 := Int.emod_lt_of_pos z3 (show (0 : Int) < 5 by decide)
 refine ⟨_, _, rfl, rfl, (show (0 : Int) < 5 by decide), _, _, rfl, ?_⟩
 obtain ⟨c, ec, c1, c2⟩ : ∃ c : Nat, (if z3 % 5 < (((us.map V.int).length : Nat) : Int) then z3 % 5 else (((us.map V.int).length : Nat) : Int)) = (c : Int) ∧ c ≤ 4 ∧ c ≤ us.length := by
  rw [List.length_map]
  split
  ·exact ⟨(z3 % 5).toNat, by omega, by omega, by omega⟩
  ·exact ⟨us.length, rfl, by omega, Nat.le_refl _⟩
 rw [ec]
 refine ⟨_, rfl, by omega, by omega, ?_⟩
 rw [Int.toNat_natCast]
 refine lc_pops h5 c2 (by omega) (fun i H' xs y N M h q => ⟨_, rfl, .inl ⟨rfl, _, SqL.of h⟩, p5, xs, y, rfl, rfl, h, q⟩) (fun H9 p9 H10 c9 n10 => ?_)
 refine ⟨p9, _, rfl, SqL.of n10.here, (by rw [List.length_reverse, List.length_drop]; omega), fun ps Hs zs ns' pz lz' => ?_⟩
 refine ⟨(by show 2 ≤ 1000; decide), fun p11 H11 n11 => ⟨(by show 1 ≤ 1000; decide), fun pr H12 n12 => ?_⟩⟩
 have sS : Same H9 H12 := n10.same.trans (ns'.same.trans (n11.same.trans n12.same))
 have h10l : H12 p5 = some (.lst ((us.take (us.length - c)).map V.int)) := sS _ _ c9.here
 have ne58 : p5 ≠ pr := fun z => by have := n12.fresh; rw [← z, n11.same _ _ (ns'.same _ _ (n10.same _ _ c9.here))] at this; cases this
 have s12 : Same H H12 := (s5.chg f5 c9).trans sS
 have f8 : H pr = none := (s5.chg f5 c9).free (n10.same.free (ns'.same.free (n11.same.free n12.fresh)))
 have ne9 : ps ∉ [pr, p5] := fun hm => by
  rcases List.mem_cons.mp hm with hm | hm
  ·have := n12.fresh
   rw [← hm, n11.same _ _ ns'.here] at this; cases this
  ·have := ns'.fresh
   rw [List.mem_singleton.mp hm, n10.same _ _ c9.here] at this; cases this
 have W0 := rw_0 (most := 4) (c := c) pu c1 pz
 have lt : (us.take (us.length - c)).length = us.length - c := by rw [List.length_take]; omega
 have ascz : zs.Pairwise (· < ·) := asc_of (W0.T.nd 0) lz'
 refine ⟨RowW K a pr p5 (some (.ref p3)) n many H, ⟨_, [.ref p11], [(none, zs)], _, none, none, none, none, rfl, s12, n12.here, h10l, .cons ⟨p11, ps, rfl, n12.same _ _ n11.here, n12.same _ _ (n11.same _ _ ns'.here), ne9, ?_⟩ .nil, W0, fun k => ?_, rfl, ?_, ?_⟩, ?_⟩
 ·show zs.length ≤ 1000
  rw [pz.length_eq, List.length_reverse, List.length_drop]; omega
 ·cases k with
  | zero => exact ascz
  | succ k => exact .nil
 ·show 1 ≤ _
  omega
 ·rw [lt]; omega
 rintro m σ H1 ⟨xs, rs, us, v7, v8, v9, v10, rfl, s1, hl, hpl, hpr, W, asc, em', b1, b2⟩
 have lx : xs.length = rs.length := Paired.length hpr
 have hS1 := hS.same s1
 have r1 := W.T.pos
 refine ⟨_, rfl, pr, _, rfl, .inl (SqL.of hl), _, rfl, _, _, rfl, rfl, _, rfl, ?_⟩
 refine ite2 (fun c => iteT ?_) (fun c => ⟨_, rfl, p5, _, rfl, .inl (SqL.of hpl), _, _, rfl, rfl, _, rfl, ite2 (fun d => ?_) (fun d => ?_)⟩)
 rotate_left 2
 ·have c' : ¬ ((xs.length : Nat) : Int) < (many : Int) := of_decide_eq_false (Bool.eq_false_iff.mpr c)
  have d' : ¬ (((us.map V.int).length : Nat) : Int) > 0 := of_decide_eq_false (Bool.eq_false_iff.mpr d)
  rw [List.length_map] at d'
  have e0 : us = [] := List.eq_nil_of_length_eq_zero (by omega)
  rw [e0] at W
  exact ⟨_, rfl, q pr xs rs H1 s1 f8 hl (Paired.mapP hpr fun _ _ h => h.l List.mem_cons_self) W asc (by omega)⟩
 all_goals
  have hc : rs.length < many ∨ (many ≤ rs.length ∧ 0 < us.length) := by
   first
   | exact .inr (by
     have c' : ¬ ((xs.length : Nat) : Int) < (many : Int) := of_decide_eq_false (Bool.eq_false_iff.mpr c)
     have d' : (((us.map V.int).length : Nat) : Int) > 0 := of_decide_eq_true d
     rw [List.length_map] at d'
     omega)
   | exact .inl (by have c' : ((xs.length : Nat) : Int) < (many : Int) := of_decide_eq_true c; omega)
  refine ⟨fun σ' H' => ∃ m', m' < m ∧ RowW K a pr p5 (some (.ref p3)) n many H m' σ' H', fun _ _ h => h, ?_⟩
  refine ⟨_, rfl, pr, _, rfl, .inl (SqL.of hl), ?_⟩
  rw [lx]
  refine ⟨_, rfl, _, rfl, _, _, rfl, rfl, a, ns, _, rfl, hS1, h63, (by omega), (by omega), fun z => ?_⟩
  have u0 := Int.emod_nonneg z (show ((rs.length : Nat) : Int) ≠ 0 by omega)
  have u1 := Int.emod_lt_of_pos z (show (0 : Int) < ((rs.length : Nat) : Int) by omega)
  refine ⟨_, rfl, _, _, rfl, rfl, (show (0 : Int) < ((rs.length : Nat) : Int) by omega), ?_⟩
  obtain ⟨f, ef⟩ : ∃ f : Nat, z % ((rs.length : Nat) : Int) = (f : Int) := ⟨(z % ((rs.length : Nat) : Int)).toNat, by omega⟩
  dsimp only
  rw [ef]
  have fl : f < rs.length := by omega
  obtain ⟨v, hx, ⟨pt, bb, rfl, hT, hbb, hbl, _⟩⟩ := paired_getr hpr (rowAt_lt fl)
  have lf : (rowAt rs f).2.length ≤ 4 := W.few f
  refine ⟨_, rfl, _, rfl, pr, _, _, _, rfl, rfl, SqL.of hl, atI_nat hx, pt, _, _, _, rfl, rfl, SqT.of hT, rfl, bb, rfl, ⟨_, SqL.of hbb⟩, ?_⟩
  refine lc_list (K := K) (a := bb) (xs := (rowAt rs f).2.map V.int) (fun i ys H' => ∃ ks : List Int, ys = ks.map V.int ∧ List.Sublist ks ((rowAt rs f).2.take i) ∧ Same H1 H') ⟨[], rfl, List.nil_sublist _, Same.refl _⟩ (fun i ys H' hi ⟨ks, e, sb, s⟩ => ⟨SqL.of (s _ _ hbb), ?_⟩) (fun i x ys H2 hx ⟨ks, e, sb, s2⟩ => ?_) (fun ys H2 ⟨ks, e, sb, s2⟩ p3' hp3 => ?_)
  ·have := sb.length_le
   rw [List.length_take] at this
   rw [e, List.length_map]; exact Nat.le_of_lt (small1000 (by omega))
  ·rw [List.getElem?_map] at hx
   obtain ⟨u, hu, rfl⟩ := Option.map_eq_some_iff.mp hx
   have et : (rowAt rs f).2.take (i + 1) = (rowAt rs f).2.take i ++ [u] := by rw [List.take_succ, hu]; rfl
   have ub := W.T.lt f u (List.mem_of_getElem? hu)
   refine ⟨_, rfl, _, rfl, _, _, rfl, rfl, .inl ⟨by decide, by decide⟩, _, _, rfl, rfl, _, rfl, _, _, rfl, rfl, a, ns, _, rfl, hS1.same s2, h63, (by omega), (by omega), fun z4 => ⟨_, _, rfl, rfl, (show (0 : Int) < _ by decide), _, _, rfl, rfl, _, rfl, ite2 (fun c4 => ⟨_, rfl, ks ++ [u], by rw [e, List.map_append]; rfl, by rw [et]; exact sb.append (List.Sublist.refl _), s2⟩) (fun c4 => ⟨ks, e, by rw [et]; exact sb.trans (List.sublist_append_left _ _), s2⟩)⟩⟩
  subst e
  rw [List.length_map, List.take_length] at sb
  have n3 : New H2 p3' (.lst (ks.map V.int)) (upd H2 p3' (.lst (ks.map V.int))) := New.mk0 hp3
  generalize upd H2 p3' (.lst (ks.map V.int)) = H3 at n3 ⊢
  have s13 := s2.trans n3.same
  have lk := sb.length_le
  have hl3 := s13 _ _ hl
  refine ⟨fun σ' H' => ∃ (pb : Addr) (ks : List Int), σ' = [some (.ref a), some (.int n), some (.ref p3), some (.ref p5), some (.int many), some (.ref pr), some (.int ((rs.length : Nat) : Int)), some (.int (f : Int)), some (.ref pb), v10] ∧ Same H1 H' ∧ H' pb = some (.lst (ks.map V.int)) ∧ H1 pb = none ∧ List.Sublist ks (bagR rs f) ∧ (many ≤ rs.length → ks.length + 1 ≤ 4), ?_, ?_⟩
  ·refine ⟨_, rfl, _, rfl, _, _, rfl, rfl, _, rfl, ?_⟩
   refine ite2 (fun c5 => ?_) (fun c5 => ⟨p3', ks, rfl, s13, n3.here, s2.free n3.fresh, sb, fun h => ?_⟩)
   ·refine ⟨_, rfl, _, rfl, p3', _, rfl, SqL.of n3.here, fun p4 H4 n4 => ?_⟩
    have e1 : (3 : Int) = ((3 : Nat) : Int) := rfl
    rw [e1, cut_takeA, ← List.map_take] at n4
    exact ⟨p4, ks.take 3, rfl, s13.trans n4.same, n4.here, s13.free n4.fresh, (List.take_sublist _ _).trans sb, fun _ => by rw [List.length_take]; omega⟩
   ·have c5' : ¬ (many : Int) ≤ ((rs.length : Nat) : Int) := of_decide_eq_false (Bool.eq_false_iff.mpr c5)
    omega
  rintro σ' H4 ⟨pb, ks, rfl, s14, hpb, fpb, sb, km⟩
  have lk : ks.length ≤ 4 := Nat.le_trans sb.length_le lf
  refine ⟨_, rfl, _, rfl, _, _, rfl, rfl, a, ns, _, rfl, hS1.same s14, h63, (by omega), (by omega), fun z5 => ?_⟩
  have t0 := Int.emod_nonneg z5 (show (5 : Int) - ((ks.length : Nat) : Int) ≠ 0 by omega)
  have t1 := Int.emod_lt_of_pos z5 (show (0 : Int) < (5 : Int) - ((ks.length : Nat) : Int) by omega)
  refine ⟨_, rfl, pb, _, rfl, .inl (SqL.of hpb), _, _, rfl, rfl, _, _, rfl, rfl, (by rw [List.length_map]; show (0 : Int) < (5 : Int) - ((ks.length : Nat) : Int); omega), ?_⟩
  rw [List.length_map]
  dsimp only
  refine ⟨fun σ' H' => ∃ fr : Nat, σ' = [some (.ref a), some (.int n), some (.ref p3), some (.ref p5), some (.int many), some (.ref pr), some (.int ((rs.length : Nat) : Int)), some (.int (f : Int)), some (.ref pb), some (.int (fr : Int))] ∧ H' = H4 ∧ ks.length + fr ≤ 4 ∧ (many ≤ rs.length → 1 ≤ fr), ?_, ?_⟩
  ·refine ⟨_, rfl, _, rfl, _, _, rfl, rfl, _, rfl, ?_⟩
   refine ite2 (fun c6 => ?_) (fun c6 => ?_)
   ·have c6' : (many : Int) ≤ ((rs.length : Nat) : Int) := of_decide_eq_true c6
    have := km (by omega)
    refine ⟨_, rfl, _, _, rfl, (if z5 % ((5 : Int) - ((ks.length : Nat) : Int)) > 1 then z5 % ((5 : Int) - ((ks.length : Nat) : Int)) else 1).toNat, ?_, rfl, ?_, fun _ => ?_⟩
    ·have : (((if z5 % ((5 : Int) - ((ks.length : Nat) : Int)) > 1 then z5 % ((5 : Int) - ((ks.length : Nat) : Int)) else 1).toNat : Nat) : Int) = if z5 % ((5 : Int) - ((ks.length : Nat) : Int)) > 1 then z5 % ((5 : Int) - ((ks.length : Nat) : Int)) else 1 := by split <;> omega
     rw [this]
     rfl
    ·split <;> omega
    ·split <;> omega
   ·have c6' : ¬ (many : Int) ≤ ((rs.length : Nat) : Int) := of_decide_eq_false (Bool.eq_false_iff.mpr c6)
    refine ⟨(z5 % ((5 : Int) - ((ks.length : Nat) : Int))).toNat, ?_, rfl, by omega, fun h => by omega⟩
    rw [Int.toNat_of_nonneg t0]
    rfl
  rintro σ' H5 ⟨fr, rfl, rfl, frm, fr1⟩
  have hpl4 := s14 _ _ hpl
  have hl4 := s14 _ _ hl
  refine ⟨_, rfl, .inl ⟨rfl, _, SqL.of hl4⟩, _, rfl, _, rfl, _, rfl, _, rfl, p5, _, rfl, .inl (SqL.of hpl4), _, _, rfl, ?_⟩
  obtain ⟨c, ec, c1, c2, c3⟩ : ∃ c : Nat, (if (((us.map V.int).length : Nat) : Int) < (fr : Int) then (((us.map V.int).length : Nat) : Int) else (fr : Int)) = (c : Int) ∧ c ≤ fr ∧ c ≤ us.length ∧ (1 ≤ fr → 0 < us.length → 1 ≤ c) := by
   rw [List.length_map]
   split
   ·exact ⟨us.length, rfl, by omega, Nat.le_refl _, fun _ h => h⟩
   ·exact ⟨fr, rfl, Nat.le_refl _, by omega, fun h _ => h⟩
  rw [ec]
  refine ⟨_, rfl, by omega, by omega, ?_⟩
  rw [Int.toNat_natCast]
  refine lc_pops hpl4 c2 (by omega) (fun i H' xs y N M h q => ⟨_, rfl, .inl ⟨rfl, _, SqL.of h⟩, p5, xs, y, rfl, rfl, h, q⟩) (fun H6 p7 H7 c6 n7 => ?_)
  have nb5 : pb ≠ p5 := fun z => by rw [z, hpl] at fpb; cases fpb
  have nl5 : pr ≠ p5 := ne58.symm
  have hb7 := n7.same _ _ ((c6.rest pb nb5).trans hpb)
  refine ⟨pb, p7, _, _, rfl, rfl, hb7, n7.here, (by rw [List.length_map, List.length_map, List.length_reverse, List.length_drop]; omega), fun p8 H8 n8' => ?_⟩
  rw [← List.map_append] at n8'
  refine ⟨p8, _, rfl, SqL.of n8'.here, (by rw [List.length_append, List.length_reverse, List.length_drop]; omega), fun pz Hz zs nz pmz lez => ?_⟩
  have hl8 := nz.same _ _ (n8'.same _ _ (n7.same _ _ ((c6.rest pr nl5).trans hl4)))
  have hp8 := nz.same _ _ (n8'.same _ _ (n7.same _ _ c6.here))
  refine ⟨(by show 2 ≤ 1000; decide), fun p10 H10 n10' => ?_⟩
  have hl10 := n10'.same _ _ hl8
  have hp10 := n10'.same _ _ hp8
  refine ⟨pr, _, _, rfl, rfl, hl10, (by omega), fun H11 c11 => ?_⟩
  have lks := sb.length_le
  have W2 := rw_add (c := c) W fl sb (by omega) pmz
  have ascz : zs.Pairwise (· < ·) := asc_of (by have := W2.T.nd rs.length; rw [bagR_snoc, if_pos rfl] at this; exact this) lez
  have lt2 : (us.take (us.length - c)).length = us.length - c := by rw [List.length_take]; omega
  have s8' : Same H6 H10 := n7.same.trans (n8'.same.trans (nz.same.trans n10'.same))
  have x8 : pz ∉ [pr, p5] := fun hm => by
   have f := nz.fresh
   rcases List.mem_cons.mp hm with hm | hm
   ·rw [hm, n8'.same _ _ (n7.same _ _ ((c6.rest pr nl5).trans hl4))] at f; cases f
   ·rw [List.mem_singleton.mp hm, n8'.same _ _ (n7.same _ _ c6.here)] at f; cases f
  refine ⟨_, ?_, xs ++ [.ref p10], rs ++ [(some (f : Int), zs)], us.take (us.length - c), _, _, _, _, rfl, (((s1.trans s14).chg f5 c6).trans s8').chg f8 c11, c11.here, (c11.rest p5 ne58).trans hp10, ?_, W2, asc_snoc asc ascz, rfl, ?_, ?_⟩
  ·rw [em', List.length_append, List.length_singleton, lt2]
   have := c3
   have := fr1
   omega
  ·refine paired_snoc (Paired.mapP hpr fun v t q => (((q.same s14).chg hpl4 c6 (List.mem_cons_of_mem _ List.mem_cons_self)).same s8').chg hl10 c11 List.mem_cons_self) (RwX.chg hl10 c11 List.mem_cons_self ⟨p10, pz, rfl, n10'.here, n10'.same _ _ nz.here, x8, ?_⟩)
   show zs.length ≤ 1000
   rw [pmz.length_eq, List.length_append, List.length_reverse, List.length_drop]; omega
  ·rw [List.length_append, List.length_singleton, lt2]
   have := c3
   have := fr1
   omega
  ·rw [lt2]; omega
end
end K
namespace K
open PySem L2 Lw Bg
def lexT (s t : Int × Int) : Prop := s.1 < t.1 ∨ (s.1 = t.1 ∧ s.2 < t.2)
structure Web (n : Int) (ts : List (Int × Int)) : Prop where
 ok : ∀ t ∈ ts, 0 ≤ t.1 ∧ t.1 < t.2 ∧ t.2 < n
 up : ts.Pairwise lexT
theorem pigA {α : Type} [DecidableEq α] {l U : List α} (nd : l.Nodup) (h : ∀ x ∈ l, x ∈ U) : l.length ≤ U.length := by
 induction l generalizing U with
 | nil => exact Nat.zero_le _
 | cons a r ih =>
  obtain ⟨n1, n2⟩ := List.nodup_cons.mp nd
  have am := h a List.mem_cons_self
  have := ih (U := U.erase a) n2 fun x hx => (List.mem_erase_of_ne (fun e => n1 (by rw [← e]; exact hx))).mpr (h x (List.mem_cons_of_mem _ hx))
  rw [List.length_erase_of_mem am] at this
  have := List.length_pos_of_mem am
  rw [List.length_cons]; omega
def allT : List (Int × Int) := (List.range 10).flatMap fun (a : Nat) => ((List.range 10).filter fun (b : Nat) => decide (a < b)).map fun (b : Nat) => (((a : Nat) : Int), ((b : Nat) : Int))
theorem lexT.asymm {s t : Int × Int} (h : lexT s t) (h' : lexT t s) : False := by
 unfold lexT at h h'
 omega
theorem Web.nd {n : Int} {ts : List (Int × Int)} (h : Web n ts) : ts.Nodup := h.up.imp fun l e => by
 subst e
 exact l.asymm l
theorem Web.few {n : Nat} {ts : List (Int × Int)} (h : Web n ts) (n10 : n ≤ 10) : ts.length ≤ 45 := by
 have := pigA (U := allT) h.nd fun t ht => by
  have o := h.ok t ht
  unfold allT
  refine List.mem_flatMap.mpr ⟨t.1.toNat, List.mem_range.mpr (by omega), List.mem_map.mpr ⟨t.2.toNat, List.mem_filter.mpr ⟨List.mem_range.mpr (by omega), decide_eq_true (by omega)⟩, ?_⟩⟩
  exact Prod.ext (by show ((t.1.toNat : Nat) : Int) = t.1; omega) (by show ((t.2.toNat : Nat) : Int) = t.2; omega)
 have e : allT.length = 45 := by decide +kernel
 omega
abbrev s__law_ties : Stmt := top 38
theorem sc__law_ties : FnScope ["_law_script", "_law_rows_here", "_law_n", "_law_share", "_law_found", "_law_a", "_law_b", "_law_together"] ["_law_script", "_law_rows_here", "_law_n"] (defScope s__law_ties) := ⟨rfl, rfl, rfl, by decide +kernel, rfl, by decide +kernel, by decide +kernel⟩
def BothIn (rs : List Row) (t : Int × Int) : Prop := ∃ k, t.1 ∈ bagR rs k ∧ t.2 ∈ bagR rs k
def spTies55 (K : PySem.W.Frag) : Sp := fun vs H Q _ => ∃ (a l : Addr) (ns : List Int) (ys : List V) (rs : List Row) (n : Nat), vs = [.ref a, .ref l, .int n] ∧ Scr K H a ns ∧ ns.length ≤ 63 ∧ H l = some (.lst ys) ∧ Paired (RowL l H) ys rs ∧ rs.length ≤ 40 ∧ n ≤ 10 ∧
 ∀ r xs ts H', Same H H' → H r = none → H' r = some (.lst xs) → Paired (TieL H') xs ts → (∀ t ∈ ts, 0 ≤ t.1 ∧ t.1 < t.2 ∧ t.2 < (n : Int)) → ts.Nodup → (∀ t ∈ ts, BothIn rs t) → ts.length ≤ 45 → Q (.ref r) H'
section
variable {P : Program} {w : World} {K : PySem.W.Frag} {mg : Str → Option Value} {base : Heap}
set_option maxHeartbeats 8000000 in
theorem ok__law_ties (B : Bl mg) (d__law_at : Dn K mg "_law_at" s__law_at ["_law_script", "_law_k"]) (d__law_ties : Dn K mg "_law_ties" s__law_ties ["_law_script", "_law_rows_here", "_law_n"]) : FnOk P w K mg base CX0 2 d__law_ties.f d__law_ties.fd ["_law_script", "_law_rows_here", "_law_n"] (spTies55 K) := by
 have G__law_at : FnOk P w K mg base CX0 1 _ _ _ _ := ok__law_at B d__law_at
 refine d__law_ties.F.ok sc__law_ties (fun vs H Q E h => ?_) (fun cdv A outer s H vs Q E hr h => ?_)
 ·obtain ⟨a, l, ns, ys, rs, n, rfl, _⟩ := h
  rfl
 obtain ⟨a, l, ns, ys, rs, n, rfl, hS, h63, hy, hpr, r40, hn, q⟩ := h
 have hv : (A.deeper (PyProof.Rows.envOfC "_law_ties" (defScope s__law_ties) s.heap.objs.size d__law_ties.f cdv)).units + 65 < cLine := by have := hr.un; omega
 have ly : ys.length = rs.length := Paired.length hpr
 refine ⟨_, (pss_cons (ps_set (i := 3) sc__law_ties.nd rfl (Or.inl rfl) (pe_op op_mod (pe_call G__law_at hr rfl d__law_at.m d__law_at.F.kp d__law_at.b .nil pass0 (pa_cons (pv 0) (pa_cons pe_int pa_nil))) pe_int))
   (pss_cons (ps_set (i := 4) sc__law_ties.nd rfl (Or.inl rfl) (pe_lstN pa_nil))
   (pss_cons (ps_for PassesOwn.never rfl (pi_range1 rfl B.range (pa_cons (pv 2) pa_nil)) (pg_name (i := 5) sc__law_ties.nd rfl (Or.inr rfl))
   (pss_one (ps_for PassesOwn.never rfl (pi_range2 rfl B.range (pa_cons (pe_op op_add (pv 5) pe_int) (pa_cons (pv 2) pa_nil))) (pg_name (i := 6) sc__law_ties.nd rfl (Or.inr rfl))
   (pss_cons (ps_setLC (i := 7) ["_law_row", "_law_a", "_law_b"] [none, some 5, some 6] sc__law_ties.nd rfl rfl (by kernel_rfl) rfl (pi_listK (K := K) rfl (pv 1)) (fun _ _ _ _ _ => (pg_name (i := 0) (show (["_law_row", "_law_a", "_law_b"] : List Str).Nodup by decide +kernel) rfl (Or.inl rfl))) (fun _ _ _ _ _ => (pts_one (PW.pt (pw_and (pt_cmpR (op_inDK (K := K) rfl hv) (pv 1) (pe_ix (ix_tupK (K := K) rfl) (pv 0) pe_int (fun _ _ => rfl)) (by with_unfolding_all rfl)) (pw_and1 (pt_cmpR (op_inDK (K := K) rfl hv) (pv 2) (pe_ix (ix_tupK (K := K) rfl) (pv 0) pe_int (fun _ _ => rfl)) (by with_unfolding_all rfl))))))) (fun _ _ _ _ _ => (pv 0)) (by rfl))
   (pss_one (ps_if (PW.pt (pw_and (pt_cmpR op_gt (pe_callB (call_lenK (K := K) rfl) rfl B.len (by decide +kernel) (pa_cons (pv 7) pa_nil)) pe_int (nomark _)) (pw_and1 (pt_cmpR op_lt (pe_op op_mod (pe_call G__law_at hr rfl d__law_at.m d__law_at.F.kp d__law_at.b .nil pass0 (pa_cons (pv 0) (pa_cons (pe_op op_add (pe_op op_add pe_int (pe_op op_mul pe_int (pv 5))) (pv 6)) pa_nil))) pe_int) (pv 3) (nomark _)))))
   (pss_one (ps_expr (pe_bmK (K := K) rfl PySem.F.plainAttrs_list PySem.F.slot_list_append PySem.F.type_list_append mt_appendN (pv 4) (pa_cons (pe_tupN (pa_cons (pv 5) (pa_cons (pv 6) pa_nil))) pa_nil))))
   pss_nil))))))
   (pss_one (ps_ret (pv 4)))))), ?_⟩
 refine ⟨_, rfl, a, ns, 3, rfl, hS, h63, by decide, by decide, fun z0 => ⟨_, _, rfl, rfl, (show (0 : Int) < _ by decide), ?_⟩⟩
 obtain ⟨sh, esh⟩ : ∃ sh : Int, sh = z0 % 5 := ⟨_, rfl⟩
 dsimp only
 rw [← esh]
 refine ⟨(by show 0 ≤ 1000; decide), fun r H0 nw => ?_⟩
 refine ⟨_, rfl, _, rfl, by omega, by omega, ?_⟩
 rw [Int.toNat_natCast]
 refine for_range (n := n) (fun i σ H2 => ∃ (aa bb bo : Option V) (xs : List V) (ts : List (Int × Int)), σ = [some (.ref a), some (.ref l), some (.int n), some (.int sh), some (.ref r), aa, bb, bo] ∧ Same H H2 ∧ H2 r = some (.lst xs) ∧ Paired (TieL H2) xs ts ∧ ts.length ≤ 10 * i ∧ Web n ts ∧ (∀ t ∈ ts, t.1 < (i : Int)) ∧ ∀ t ∈ ts, BothIn rs t)
  ⟨none, none, none, [], [], rfl, nw.same, nw.here, .nil, Nat.zero_le _, ⟨fun t h => absurd h List.not_mem_nil, .nil⟩, fun t h => absurd h List.not_mem_nil, fun t h => absurd h List.not_mem_nil⟩ ?_ ?_
 ·rintro i σ H2 hi ⟨aa, bb, bo, xs, ts, rfl, sm, hr2, hp, hz, hw, hlt, bi⟩
  refine ⟨_, rfl, _, _, rfl, rfl, _, rfl, _, _, rfl, ⟨by omega, by omega, by omega, by omega⟩, ?_⟩
  refine for_range (n := _) (fun j σ H3 => ∃ (bb bo : Option V) (xs : List V) (ts : List (Int × Int)), σ = [some (.ref a), some (.ref l), some (.int n), some (.int sh), some (.ref r), some (.int (0 + (i : Int))), bb, bo] ∧ Same H H3 ∧ H3 r = some (.lst xs) ∧ Paired (TieL H3) xs ts ∧ ts.length ≤ 10 * i + j ∧ Web n ts ∧ (∀ t ∈ ts, t.1 < (i : Int) ∨ (t.1 = (i : Int) ∧ t.2 < (i : Int) + 1 + j)) ∧ ∀ t ∈ ts, BothIn rs t)
   ⟨bb, bo, xs, ts, rfl, sm, hr2, hp, by omega, hw, fun t h => .inl (hlt t h), bi⟩ ?_ ?_
  ·rintro j σ H3 hj ⟨bb, bo, xs, ts, rfl, sm, hr3, hp, hz, hw, hlt, bi⟩
   have jn : (j : Int) + (0 + (i : Int) + 1) < n := by omega
   have hy3 := sm _ _ hy
   generalize eav : (0 + (i : Int)) = av
   generalize ebv : (av + 1 + (j : Int)) = bv
   refine ⟨_, rfl, l, rfl, ⟨_, SqL.of hy3⟩, ?_⟩
   refine lc_ixN (fun k => if (decide (av ∈ bagR rs k) && decide (bv ∈ bagR rs k)) = true then ys[k]? else none) (SqL.of hy3) (by omega) (fun k x H4 N hk s4 hN => ?_) (fun H4 p4 H5 s4 n4 => ?_)
   ·have kl : k < rs.length := by rw [← ly]; exact (List.getElem?_eq_some_iff.mp hk).1
    obtain ⟨v, hx, ⟨pp, b, rfl, hTk, hb, _⟩⟩ := paired_getr hpr (rowAt_lt kl)
    rw [hk] at hx
    cases hx
    have s04 := sm.trans s4
    have hN' := hN H4 s4
    rw [hk] at hN'
    refine ⟨_, rfl, _, rfl, pp, _, _, _, rfl, rfl, SqT.of (s04 _ _ hTk), rfl, inInts (SqL.of (s04 _ _ hb)) ⟨_, rfl, ?_⟩⟩
    refine ite2 (fun c => ?_) (fun c => ?_)
    ·refine ⟨_, rfl, _, rfl, pp, _, _, _, rfl, rfl, SqT.of (s04 _ _ hTk), rfl, inInts (SqL.of (s04 _ _ hb)) ⟨_, rfl, ?_⟩⟩
     refine ite2 (fun d => ?_) (fun d => ?_)
     ·rw [if_pos (by unfold bagR; rw [c, d]; rfl)] at hN'
      exact ⟨_, rfl, hN'⟩
     ·rw [if_neg (by unfold bagR; rw [Bool.eq_false_iff.mpr d]; simp)] at hN'
      exact hN'
    ·refine iteF ?_
     rw [if_neg (by unfold bagR; rw [Bool.eq_false_iff.mpr c]; simp)] at hN'
     exact hN'
   have s05 := sm.trans (s4.trans n4.same)
   have hr5 : H5 r = some (.lst xs) := (s4.trans n4.same) _ _ hr3
   have hp5 := Paired.mapP hp fun v t q => TieL.same (s4.trans n4.same) q
   have lxs : xs.length = ts.length := Paired.length hp
   have no : ∃ (bb bo : Option V) (xs : List V) (ts : List (Int × Int)), [some (V.ref a), some (.ref l), some (.int n), some (.int sh), some (.ref r), some (.int av), some (.int bv), some (.ref p4)] = [some (V.ref a), some (.ref l), some (.int n), some (.int sh), some (.ref r), some (.int av), bb, bo] ∧ Same H H5 ∧ H5 r = some (.lst xs) ∧ Paired (TieL H5) xs ts ∧ ts.length ≤ 10 * i + (j + 1) ∧ Web n ts ∧ (∀ t ∈ ts, t.1 < (i : Int) ∨ (t.1 = (i : Int) ∧ t.2 < (i : Int) + 1 + ((j + 1 : Nat) : Int))) ∧ ∀ t ∈ ts, BothIn rs t :=
    ⟨_, _, xs, ts, rfl, s05, hr5, hp5, by omega, hw, fun t ht => by have := hlt t ht; omega, bi⟩
   refine ⟨_, rfl, p4, _, rfl, .inl (SqL.of n4.here), _, _, rfl, rfl, _, rfl, ?_⟩
   refine ite2 (fun c => ?_) (fun c => iteF no)
   have c' := of_decide_eq_true c
   refine ⟨_, rfl, _, rfl, _, _, rfl, rfl, .inl ⟨by decide, by decide⟩, _, _, rfl, rfl, _, rfl, _, _, rfl, rfl, a, ns, _, rfl, hS.same s05, h63, (by omega), (by omega), fun z5 => ⟨_, _, rfl, rfl, (show (0 : Int) < _ by decide), _, rfl, _, _, rfl, rfl, _, rfl, ite2 (fun d => ?_) (fun d => no)⟩⟩
   have hrow : BothIn rs (av, bv) := by
    have c3 : 0 < ((List.range ys.length).filterMap (fun k => if (decide (av ∈ bagR rs k) && decide (bv ∈ bagR rs k)) = true then ys[k]? else none)).length := by omega
    obtain ⟨x, hx⟩ := List.exists_mem_of_length_pos c3
    obtain ⟨k, _, e⟩ := List.mem_filterMap.mp hx
    by_cases d2 : (decide (av ∈ bagR rs k) && decide (bv ∈ bagR rs k)) = true
    ·rw [Bool.and_eq_true] at d2
     exact ⟨k, of_decide_eq_true d2.1, of_decide_eq_true d2.2⟩
    ·rw [if_neg d2] at e; cases e
   refine ⟨_, rfl, .inl ⟨rfl, _, SqL.of hr5⟩, _, rfl, _, rfl, (by show 2 ≤ 1000; decide), fun p6 H6 n6 => ?_⟩
   have h6 := n6.same _ _ hr5
   refine ⟨r, _, _, rfl, rfl, h6, (by omega), fun H7 c7 => ?_⟩
   refine ⟨_, _, xs ++ [.ref p6], ts ++ [(av, bv)], rfl, (s05.trans n6.same).chg nw.fresh c7, c7.here, ?_, ?_, ⟨fun t ht => ?_, ?_⟩, fun t ht => ?_, fun t ht => ?_⟩
   ·exact paired_snoc (Paired.mapP hp5 fun v t q => (TieL.same n6.same q).chg h6 c7) (TieL.chg h6 c7 ⟨p6, rfl, n6.here⟩)
   ·rw [List.length_append]; show ts.length + 1 ≤ _; omega
   ·rcases List.mem_append.mp ht with ht | ht
    ·exact hw.ok t ht
    ·rw [List.mem_singleton.mp ht]
     exact ⟨by show 0 ≤ av; omega, by show av < bv; omega, by show bv < n; omega⟩
   ·refine List.pairwise_append.mpr ⟨hw.up, List.pairwise_singleton _ _, fun t ht u hu => ?_⟩
    rw [List.mem_singleton.mp hu]
    show t.1 < av ∨ (t.1 = av ∧ t.2 < bv)
    have := hlt t ht
    omega
   ·rcases List.mem_append.mp ht with ht | ht
    ·have := hlt t ht
     omega
    ·rw [List.mem_singleton.mp ht]
     show av < (i : Int) ∨ (av = (i : Int) ∧ bv < (i : Int) + 1 + ((j + 1 : Nat) : Int))
     omega
   ·rcases List.mem_append.mp ht with ht | ht
    ·exact bi t ht
    ·rw [List.mem_singleton.mp ht]; exact hrow
  ·rintro σ H3 ⟨bb, bo, xs, ts, rfl, sm, hr3, hp, hz, hw, hlt, bi⟩
   exact ⟨_, bb, bo, xs, ts, rfl, sm, hr3, hp, by omega, hw, fun t ht => by have := hlt t ht; omega, bi⟩
 ·rintro σ H2 ⟨aa, bb, bo, xs, ts, rfl, sm, hr2, hp, hz, hw, hlt, bi⟩
  have few := hw.few hn
  exact ⟨_, rfl, q r xs ts H2 sm nw.fresh hr2 hp (fun t ht => hw.ok t ht) hw.nd bi (by omega)⟩
end
end K
namespace K
open PySem L2 Lw Bg
section
variable {n : Nat} {ts : List (Int × Int)} {ss : List Stp}
end
def upsO (m : Nat) (feeds : List (List Nat)) : Nat → List (Option Int)
 | 0 => List.replicate m none
 | i + 1 => (feeds.getD i []).foldl (fun u j => u.set j (some ((m : Int) - 1 - (i : Int)))) (upsO m feeds i)
theorem upsO_len (m : Nat) (feeds : List (List Nat)) : ∀ i, (upsO m feeds i).length = m
 | 0 => List.length_replicate
 | i + 1 => by
  have h : ∀ (f : List Nat) (us : List (Option Int)) (z : Option Int), (f.foldl (fun u j => u.set j z) us).length = us.length := fun f => by
   induction f with
   | nil => exact fun _ _ => rfl
   | cons j f ih => intro us z; show (f.foldl _ (us.set j z)).length = _; rw [ih, List.length_set]
  exact (h (feeds.getD i []) (upsO m feeds i) _).trans (upsO_len m feeds i)
theorem upsV_eq (m : Nat) (feeds : List (List Nat)) : ∀ i, upsV m feeds i = (upsO m feeds i).map upV
 | 0 => by
  show List.replicate m V.non = (List.replicate m none).map upV
  rw [List.map_replicate]; rfl
 | i + 1 => by
  have h : ∀ (f : List Nat) (us : List (Option Int)) (z : Option Int), setAll (us.map upV) f (upV z) = (f.foldl (fun u j => u.set j z) us).map upV := fun f => by
   induction f with
   | nil => exact fun _ _ => rfl
   | cons j f ih =>
    intro us z
    show setAll ((us.map upV).set j (upV z)) f (upV z) = (f.foldl _ (us.set j z)).map upV
    rw [← ih, List.map_set]
  show setAll (upsV m feeds i) _ _ = _
  rw [upsV_eq m feeds i]
  exact h _ _ (some _)
theorem upsV_at (m : Nat) (feeds : List (List Nat)) (i k : Nat) : (upsV m feeds i).getD k .non = upV ((upsO m feeds i).getD k none) := by
 rw [upsV_eq, List.getD_eq_getElem?_getD, List.getElem?_map, List.getD_eq_getElem?_getD]
 cases (upsO m feeds i)[k]? <;> rfl
section
variable {n : Nat} {ts : List (Int × Int)} {ss : List Stp}
theorem feed_at (go : ∀ i, i ≤ ss.length → (runR n ts ss i).2 = true) (n10 : n ≤ 10) {k : Nat} {s : Stp} (h : ss[k]? = some s) : ∀ j, k + 1 ≤ j → j ≤ ss.length → (runR n ts ss j).1.feeds.getD k [] = (runR n ts ss k).1.pile.drop (leftR s (runR n ts ss k).1)
 | 0, h1, _ => absurd h1 (by omega)
 | j + 1, h1, h2 => by
  have kl := (List.getElem?_eq_some_iff.mp h).1
  obtain ⟨b, _, _, e⟩ := run_next (n := n) (ts := ts) (s := ss[j]'(by omega)) (List.getElem?_eq_getElem (by omega)) (go j (by omega)) (go (j + 1) h2)
  have I := run_inv n10 (go j (by omega))
  rw [e]
  show ((runR n ts ss j).1.feeds ++ [_]).getD k [] = _
  by_cases c : j = k
  ·subst c
   rw [List.getD_eq_getElem?_getD, List.getElem?_append_right (by rw [I.fl]; omega), I.fl, Nat.sub_self]
   rw [List.getElem?_eq_getElem kl] at h
   cases h
   rfl
  ·rw [List.getD_eq_getElem?_getD, List.getElem?_append_left (by rw [I.fl]; omega), ← List.getD_eq_getElem?_getD]
   exact feed_at go n10 h j (by omega) (by omega)
theorem last_pile (n10 : n ≤ 10) (ok : sfF n ts ss (endR n ts ss) = .ok) : (endR n ts ss).pile = [ss.length - 1] ∧ 0 < ss.length := by
 have go := sf_go n10 ok
 have l1 : laidF (endR n ts ss) = [[]] := by
  unfold sfF at ok
  have I := sf_full n10 ok
  rw [if_neg (by rw [I.tl]; omega)] at ok
  by_cases c : laidF (endR n ts ss) = [[]]
  ·exact c
  ·rw [if_neg c] at ok; cases ok
 have l2 : (endR n ts ss).pile.length = 1 := by
  have := congrArg List.length l1
  unfold laidF at this
  rwa [List.length_map] at this
 cases hm : ss.length with
 | zero =>
  unfold endR at l2
  rw [hm] at l2
  exact absurd l2 (by show ¬ 0 = 1; decide)
 | succ m =>
  obtain ⟨b, _, _, e⟩ := run_next (n := n) (ts := ts) (s := ss[m]'(by omega)) (List.getElem?_eq_getElem (by omega)) (go m (by omega)) (go (m + 1) (by omega))
  unfold endR at l2 ⊢
  rw [hm, e] at l2 ⊢
  have l3 : ((runR n ts ss m).1.pile.take _ ++ [m]).length = 1 := l2
  rw [List.length_append, List.length_singleton] at l3
  have l4 : (runR n ts ss m).1.pile.take (leftR (ss[m]'(by omega)) (runR n ts ss m).1) = [] := List.eq_nil_of_length_eq_zero (Nat.succ.inj l3)
  refine ⟨?_, by omega⟩
  show (runR n ts ss m).1.pile.take _ ++ [m] = [m + 1 - 1]
  rw [l4]
  rfl
def rowsB (n : Nat) (ts : List (Int × Int)) (ss : List Stp) : List Row := (List.range ss.length).map fun i => ((upsO ss.length (endR n ts ss).feeds ss.length).getD (ss.length - 1 - i) none, (endR n ts ss).tops.getD (ss.length - 1 - i) [])
theorem rowsB_len (n : Nat) (ts : List (Int × Int)) (ss : List Stp) : (rowsB n ts ss).length = ss.length := by
 unfold rowsB
 rw [List.length_map, List.length_range]
theorem rowsB_at {i : Nat} (h : i < ss.length) : (rowsB n ts ss)[i]? = some ((upsO ss.length (endR n ts ss).feeds ss.length).getD (ss.length - 1 - i) none, (endR n ts ss).tops.getD (ss.length - 1 - i) []) := by
 unfold rowsB
 rw [List.getElem?_map, List.getElem?_range h]
 rfl
end
section
variable {n wd : Nat} {ts : List (Int × Int)} {ss : List Stp}
theorem sim_pref (n10 : n ≤ 10) (c : AllC n wd ts ⟨[], [], []⟩ ss) : ∀ i, i ≤ ss.length → ∃ E, SimI n ts ss i (goK ⟨[], [], []⟩ (ss.take i)) E
 | 0, _ => ⟨[], sim_0⟩
 | i + 1, il => by
  obtain ⟨E, D⟩ := sim_pref n10 c i (by omega)
  have hs : ss[i]? = some (ss[i]'(by omega)) := List.getElem?_eq_getElem (by omega)
  have c1 : AllC n wd ts ⟨[], [], []⟩ (ss.take i ++ ss.drop i) := by rw [List.take_append_drop]; exact c
  have c2 := (allC_take c1).2
  rw [List.drop_eq_getElem_cons (show i < ss.length by omega)] at c2
  obtain ⟨E', _, D'⟩ := sim_go n10 D hs c2.1.1
  refine ⟨E', ?_⟩
  rw [take_at hs, goK_app]
  exact D'
theorem wide_at (c : AllC n wd ts ⟨[], [], []⟩ ss) {i : Nat} (il : i < ss.length) : (goK ⟨[], [], []⟩ (ss.take (i + 1))).top.length ≤ wd := by
 have c1 : AllC n wd ts ⟨[], [], []⟩ (ss.take i ++ ss.drop i) := by rw [List.take_append_drop]; exact c
 have c2 := (allC_take c1).2
 rw [List.drop_eq_getElem_cons il] at c2
 have hs : ss[i]? = some (ss[i]'il) := List.getElem?_eq_getElem il
 rw [take_at hs, goK_app]
 exact c2.1.2
end
section
variable {n : Nat} {ts : List (Int × Int)} {ss : List Stp}
abbrev tpE (n : Nat) (ts : List (Int × Int)) (ss : List Stp) (k : Nat) : List Int := (endR n ts ss).tops.getD k []
abbrev fdE (n : Nat) (ts : List (Int × Int)) (ss : List Stp) (k : Nat) : List Nat := (endR n ts ss).feeds.getD k []
theorem top_at (go : ∀ i, i ≤ ss.length → (runR n ts ss i).2 = true) (n10 : n ≤ 10) {k : Nat} : ∀ j, k + 1 ≤ j → j ≤ ss.length → (runR n ts ss j).1.tops.getD k [] = (runR n ts ss (k + 1)).1.tops.getD k []
 | 0, h1, _ => absurd h1 (by omega)
 | j + 1, h1, h2 => by
  by_cases c : j = k
  ·rw [c]
  obtain ⟨b, _, _, e⟩ := run_next (n := n) (ts := ts) (s := ss[j]'(by omega)) (List.getElem?_eq_getElem (by omega)) (go j (by omega)) (go (j + 1) h2)
  have I := run_inv n10 (go j (by omega))
  rw [e]
  show ((runR n ts ss j).1.tops ++ [_]).getD k [] = _
  rw [List.getD_eq_getElem?_getD, List.getElem?_append_left (by rw [I.tl]; omega), ← List.getD_eq_getElem?_getD]
  exact top_at go n10 j (by omega) (by omega)
theorem top_end (go : ∀ i, i ≤ ss.length → (runR n ts ss i).2 = true) (n10 : n ≤ 10) {k j : Nat} (h1 : k + 1 ≤ j) (h2 : j ≤ ss.length) : (runR n ts ss j).1.tops.getD k [] = tpE n ts ss k := by
 rw [top_at go n10 j h1 h2]
 exact (top_at go n10 ss.length (by omega) (Nat.le_refl _)).symm
structure StE (n : Nat) (ts : List (Int × Int)) (ss : List Stp) (k : Nat) (s : Stp) : Prop where
 bag : bagF n ts (ss.take k) s ((fdE n ts ss k).map (tpE n ts ss)) = some (tpE n ts ss k)
 len : (fdE n ts ss k).length = s.need
 lt : ∀ j ∈ fdE n ts ss k, j < k
 pile : (runR n ts ss (k + 1)).1.pile = (runR n ts ss k).1.pile.take (leftR s (runR n ts ss k).1) ++ [k]
 feed : fdE n ts ss k = (runR n ts ss k).1.pile.drop (leftR s (runR n ts ss k).1)
theorem st_end (go : ∀ i, i ≤ ss.length → (runR n ts ss i).2 = true) (n10 : n ≤ 10) {k : Nat} {s : Stp} (h : ss[k]? = some s) : StE n ts ss k s := by
 have kl := (List.getElem?_eq_some_iff.mp h).1
 obtain ⟨b, hb, hn, e⟩ := run_next (n := n) (ts := ts) h (go k (by omega)) (go (k + 1) (by omega))
 have I := run_inv n10 (go k (by omega))
 have ef : fdE n ts ss k = (runR n ts ss k).1.pile.drop (leftR s (runR n ts ss k).1) := feed_at go n10 h ss.length (by omega) (Nat.le_refl _)
 have lt : ∀ j ∈ fdE n ts ss k, j < k := fun j hj => by
  rw [ef] at hj
  exact I.lt j (List.mem_of_mem_drop hj)
 have eu : usedR s (runR n ts ss k).1 = (fdE n ts ss k).map (tpE n ts ss) := by
  unfold usedR
  rw [← ef]
  exact List.map_congr_left fun j hj => top_end go n10 (lt j hj) (by omega)
 have eb : tpE n ts ss k = b := by
  rw [← top_end go n10 (Nat.le_refl (k + 1)) (by omega), e]
  show ((runR n ts ss k).1.tops ++ [b]).getD k [] = b
  rw [List.getD_eq_getElem?_getD, List.getElem?_append_right (by rw [I.tl]; omega), I.tl, Nat.sub_self]
  rfl
 refine ⟨by rw [eb, ← eu]; exact hb, ?_, lt, by rw [e], ef⟩
 rw [ef, List.length_drop]
 unfold leftR
 omega
theorem fold_other {m : Nat} : ∀ (f : List Nat) (us : List (Option Int)) (z : Option Int), m ∉ f → (f.foldl (fun u j => u.set j z) us).getD m none = us.getD m none
 | [], _, _, _ => rfl
 | a :: f, us, z, h => by
  show (f.foldl _ (us.set a z)).getD m none = _
  rw [fold_other f _ z fun q => h (List.mem_cons_of_mem _ q), List.getD_eq_getElem?_getD, List.getElem?_set_ne (fun q => h (by rw [q]; exact List.mem_cons_self)), ← List.getD_eq_getElem?_getD]
theorem fold_here {m : Nat} : ∀ (f : List Nat) (us : List (Option Int)) (z : Option Int), m ∈ f → m < us.length → (f.foldl (fun u j => u.set j z) us).getD m none = z
 | [], _, _, h, _ => absurd h List.not_mem_nil
 | a :: f, us, z, h, l => by
  show (f.foldl _ (us.set a z)).getD m none = _
  by_cases c : m ∈ f
  ·exact fold_here f _ z c (by rw [List.length_set]; exact l)
  ·have e : a = m := by
    rcases List.mem_cons.mp h with q | q
    ·exact q.symm
    ·exact absurd q c
   subst e
   rw [fold_other f _ z c, List.getD_eq_getElem?_getD, List.getElem?_set_self l]
   rfl
structure UseI (n : Nat) (ts : List (Int × Int)) (ss : List Stp) (i : Nat) : Prop where
 nd : (runR n ts ss i).1.pile.Nodup
 used : ∀ k, k < i → ∀ j ∈ fdE n ts ss k, j ∉ (runR n ts ss i).1.pile ∧ (upsO ss.length (endR n ts ss).feeds i).getD j none = some ((ss.length : Int) - 1 - (k : Int))
 all : ∀ j, j < i → j ∈ (runR n ts ss i).1.pile ∨ ∃ k, k < i ∧ j ∈ fdE n ts ss k
 none : ∀ j, (∀ k, k < i → j ∉ fdE n ts ss k) → (upsO ss.length (endR n ts ss).feeds i).getD j none = none
theorem use_at (go : ∀ i, i ≤ ss.length → (runR n ts ss i).2 = true) (n10 : n ≤ 10) : ∀ i, i ≤ ss.length → UseI n ts ss i
 | 0, _ => by
  refine ⟨.nil, fun k hk => absurd hk (Nat.not_lt_zero _), fun j hj => absurd hj (Nat.not_lt_zero _), fun j _ => ?_⟩
  show (List.replicate ss.length (none : Option Int)).getD j none = none
  rw [List.getD_eq_getElem?_getD, List.getElem?_replicate]
  split <;> rfl
 | i + 1, il => by
  have D := use_at go n10 i (by omega)
  have hs : ss[i]? = some (ss[i]'(by omega)) := List.getElem?_eq_getElem (by omega)
  have S := st_end go n10 hs
  have I := run_inv n10 (go i (by omega))
  generalize ss[i]'(by omega) = s at S
  have ndt := D.nd
  rw [← List.take_append_drop (leftR s (runR n ts ss i).1) (runR n ts ss i).1.pile] at ndt
  obtain ⟨nd1, nd2, nd3⟩ := List.nodup_append.mp ndt
  have nt : ∀ j, j ∈ (runR n ts ss i).1.pile.take (leftR s (runR n ts ss i).1) → j < i := fun j hj => I.lt j (List.mem_of_mem_take hj)
  have eu : upsO ss.length (endR n ts ss).feeds (i + 1) = (fdE n ts ss i).foldl (fun u j => u.set j (some ((ss.length : Int) - 1 - (i : Int)))) (upsO ss.length (endR n ts ss).feeds i) := rfl
  refine ⟨?_, fun k hk j hj => ?_, fun j hj => ?_, fun j hj => ?_⟩
  ·rw [S.pile]
   refine List.nodup_append.mpr ⟨nd1, by simp, fun a ha b hb z => ?_⟩
   rw [List.mem_singleton.mp hb] at z
   have := nt a ha
   omega
  ·rw [S.pile, eu]
   by_cases c : k = i
   ·subst c
    have hd := hj
    rw [S.feed] at hd
    have jl := S.lt j hj
    refine ⟨fun z => ?_, fold_here _ _ _ hj (by rw [upsO_len]; omega)⟩
    rcases List.mem_append.mp z with z | z
    ·exact nd3 j z j hd rfl
    ·have := List.mem_singleton.mp z
     omega
   ·obtain ⟨h1, h2⟩ := D.used k (by omega) j hj
    have hk' : ss[k]? = some (ss[k]'(by omega)) := List.getElem?_eq_getElem (by omega)
    have jl := (st_end go n10 hk').lt j hj
    refine ⟨fun z => ?_, ?_⟩
    ·rcases List.mem_append.mp z with z | z
     ·exact h1 (List.mem_of_mem_take z)
     ·have := List.mem_singleton.mp z
      omega
    ·rw [fold_other _ _ _ fun z => h1 (by rw [S.feed] at z; exact List.mem_of_mem_drop z)]
     exact h2
  ·rw [S.pile]
   by_cases c : j = i
   ·exact .inl (List.mem_append_right _ (by rw [c]; exact List.mem_cons_self))
   rcases D.all j (by omega) with z | ⟨k, kl, z⟩
   ·rw [← List.take_append_drop (leftR s (runR n ts ss i).1) (runR n ts ss i).1.pile] at z
    rcases List.mem_append.mp z with z | z
    ·exact .inl (List.mem_append_left _ z)
    ·exact .inr ⟨i, by omega, by rw [S.feed]; exact z⟩
   ·exact .inr ⟨k, by omega, z⟩
  ·rw [eu, fold_other _ _ _ (hj i (by omega))]
   exact D.none j fun k hk => hj k (by omega)
end
section
variable {n wd : Nat} {ts : List (Int × Int)}
theorem put_in : ∀ (a : List Stp) {κ : Kp} {pre : List Stp}, AllC n wd ts κ a → (∀ v, (v ∈ κ.G ∨ ∃ b ∈ κ.P, v ∈ b) → Stp.inn v ∈ pre) → ∀ v, (v ∈ (goK κ a).G ∨ ∃ b ∈ (goK κ a).P, v ∈ b) → Stp.inn v ∈ pre ++ a
 | [], κ, pre, _, h, v, hv => by rw [List.append_nil]; exact h v hv
 | s :: r, κ, pre, c, h, v, hv => by
  have e : pre ++ s :: r = (pre ++ [s]) ++ r := by rw [List.append_assoc]; rfl
  rw [e]
  refine put_in r c.2 (fun u hu => ?_) v hv
  have old : ∀ {u}, (u ∈ κ.G ∨ ∃ b ∈ κ.P, u ∈ b) → Stp.inn u ∈ pre ++ [s] := fun hu => List.mem_append_left _ (h _ hu)
  have dl : ∀ {b : List Int}, b ∈ κ.P.dropLast → b ∈ κ.P := fun hb => List.mem_of_mem_take (by rw [List.dropLast_eq_take] at hb; exact hb)
  have can := c.1.1
  cases s with
  | leaf =>
   rcases hu with hu | ⟨b, hb, hu⟩
   ·exact old (.inl hu)
   ·rcases List.mem_append.mp (show b ∈ κ.P ++ [[]] from hb) with hb | hb
    ·exact old (.inr ⟨b, hb, hu⟩)
    ·rw [List.mem_singleton.mp hb] at hu; exact absurd hu List.not_mem_nil
  | inn x =>
   rcases hu with hu | ⟨b, hb, hu⟩
   ·exact old (.inl hu)
   ·rcases List.mem_append.mp (show b ∈ κ.P.dropLast ++ [κ.top ++ [x]] from hb) with hb | hb
    ·exact old (.inr ⟨b, dl hb, hu⟩)
    ·rw [List.mem_singleton.mp hb] at hu
     rcases List.mem_append.mp hu with hu | hu
     ·exact old (.inr ⟨_, last_mem can.1, hu⟩)
     ·rw [List.mem_singleton.mp hu]
      exact List.mem_append_right _ List.mem_cons_self
  | tie x y => exact old hu
  | out x =>
   rcases hu with hu | ⟨b, hb, hu⟩
   ·rcases List.mem_append.mp (show u ∈ κ.G ++ [x] from hu) with hu | hu
    ·exact old (.inl hu)
    ·rw [List.mem_singleton.mp hu]
     exact old (.inr ⟨_, last_mem can.1, can.2.1⟩)
   ·rcases List.mem_append.mp (show b ∈ κ.P.dropLast ++ [κ.top.erase x] from hb) with hb | hb
    ·exact old (.inr ⟨b, dl hb, hu⟩)
    ·rw [List.mem_singleton.mp hb] at hu
     exact old (.inr ⟨_, last_mem can.1, List.mem_of_mem_erase hu⟩)
  | join =>
   rcases hu with hu | ⟨b, hb, hu⟩
   ·exact old (.inl hu)
   ·exact old (.inr ⟨b, dl hb, hu⟩)
end
structure TreeB (n : Nat) (ts : List (Int × Int)) (rows : List Row) (M : Nat) : Prop where
 len : 0 < rows.length
 up0 : (rowAt rows 0).1 = none
 up : ∀ i, 0 < i → i < rows.length → ∃ u : Nat, u < i ∧ (rowAt rows i).1 = some (u : Int)
 asc : ∀ i, (bagR rows i).Pairwise (· < ·)
 lt : ∀ i, ∀ v ∈ bagR rows i, 0 ≤ v ∧ v < (n : Int)
 tops : ∀ v : Int, 0 ≤ v → v < (n : Int) → ∃ i0, i0 < rows.length ∧ ∀ i, i < rows.length → isTop rows v i = decide (i = i0)
 ties : ∀ t ∈ ts, ∃ i, i < rows.length ∧ t.1 ∈ bagR rows i ∧ t.2 ∈ bagR rows i
 few : ∀ i, (bagR rows i).length ≤ M
section
variable {n wd : Nat} {ts : List (Int × Int)} {ss : List Stp}
theorem two_of {l : List Nat} (h : l.length = 2) : ∃ a b, l = [a, b] := by
 match l, h with
 | [a, b], _ => exact ⟨a, b, rfl⟩
theorem sf_ok (n10 : n ≤ 10) (c : AllC n wd ts ⟨[], [], []⟩ ss) {G : List Int} {B : List (Int × Int)} (h : goK ⟨[], [], []⟩ ss = ⟨[[]], G, B⟩) (cov : ∀ v : Int, 0 ≤ v → v < (n : Int) → v ∈ G) (mB : ∀ t, t ∈ B ↔ t ∈ ts) : sfF n ts ss (endR n ts ss) = .ok := by
  obtain ⟨E, D⟩ := sim_pref n10 c ss.length (Nat.le_refl _)
  rw [List.take_length, h] at D
  have hE : ∀ j : Nat, j < n → (j : Int) ∈ E := fun j hj => by
    have h1 := put_in ss c (pre := []) (fun v hv => by
      rcases hv with z | ⟨b, z, _⟩ <;> exact absurd z List.not_mem_nil) (j : Int) (.inl (by rw [h]; exact cov _ (by omega) (by omega)))
    have h2 := (D.ins (j : Int)).mp (by rw [List.take_length]; exact h1)
    exact h2
  have := (sim_end n10 D).2.2 rfl hE
  rw [this]
  have e : (ts.find? fun t => !decide (t ∈ B)) = none := List.find?_eq_none.mpr fun t ht => by
    rw [decide_eq_true ((mB t).mpr ht)]; simp
  first
  | rw [e]
  | (show _ = _; simp only [e])
theorem rowsB_row {i : Nat} (h : i < ss.length) : rowAt (rowsB n ts ss) i = ((upsO ss.length (endR n ts ss).feeds ss.length).getD (ss.length - 1 - i) none, tpE n ts ss (ss.length - 1 - i)) := by
 unfold rowAt
 rw [List.getD_eq_getElem?_getD, rowsB_at h]
 rfl
theorem top_lt (go : ∀ i, i ≤ ss.length → (runR n ts ss i).2 = true) (n10 : n ≤ 10) : ∀ k, k < ss.length → ∀ v ∈ tpE n ts ss k, 0 ≤ v ∧ v < (n : Int) := by
 intro k
 induction k using Nat.strongRecOn with
 | ind k ih =>
  intro kl v hv
  have hs : ss[k]? = some (ss[k]'kl) := List.getElem?_eq_getElem kl
  have S := st_end go n10 hs
  generalize ss[k]'kl = s at S
  obtain ⟨hb, hl, lt, _, _⟩ := S
  have prev : ∀ j ∈ fdE n ts ss k, ∀ u ∈ tpE n ts ss j, 0 ≤ u ∧ u < (n : Int) := fun j hj => ih j (lt j hj) (by have := lt j hj; omega)
  generalize fdE n ts ss k = f at hb hl prev
  cases s with
  | leaf =>
   have hb' : ([] : List Int) = tpE n ts ss k := Option.some.inj hb
   rw [← hb'] at hv; exact absurd hv List.not_mem_nil
  | inn x =>
   obtain ⟨j, rfl⟩ := List.length_eq_one_iff.mp hl
   have hb' : (if (0 ≤ x ∧ x < (n : Int)) ∧ x ∉ tpE n ts ss j ∧ Stp.out x ∉ ss.take k then some (jointF (tpE n ts ss j) [x]) else none) = some (tpE n ts ss k) := hb
   split at hb'
   ·rename_i c
    rw [← Option.some.inj hb'] at hv
    have := of_decide_eq_true (mem_upF.mp hv).2.2
    rcases this with z | z
    ·exact prev j List.mem_cons_self v z
    ·rw [List.mem_singleton.mp z]; exact c.1
   ·cases hb'
  | tie x y =>
   obtain ⟨j, rfl⟩ := List.length_eq_one_iff.mp hl
   have hb' : (if (x, y) ∈ ts ∧ lessF [x, y] (tpE n ts ss j) = [] ∧ Stp.tie x y ∉ ss.take k then some (tpE n ts ss j) else none) = some (tpE n ts ss k) := hb
   split at hb'
   ·rw [← Option.some.inj hb'] at hv
    exact prev j List.mem_cons_self v hv
   ·cases hb'
  | out x =>
   obtain ⟨j, rfl⟩ := List.length_eq_one_iff.mp hl
   have hb' : (if x ∈ tpE n ts ss j ∧ Stp.out x ∉ ss.take k then some (lessF (tpE n ts ss j) [x]) else none) = some (tpE n ts ss k) := hb
   split at hb'
   ·rw [← Option.some.inj hb'] at hv
    exact prev j List.mem_cons_self v (List.mem_filter.mp hv).1
   ·cases hb'
  | join =>
   obtain ⟨j, j2, rfl⟩ := two_of hl
   have hb' : (if tpE n ts ss j = tpE n ts ss j2 then some (tpE n ts ss j) else none) = some (tpE n ts ss k) := hb
   split at hb'
   ·rw [← Option.some.inj hb'] at hv
    exact prev j List.mem_cons_self v hv
   ·cases hb'
theorem goes_out (go : ∀ i, i ≤ ss.length → (runR n ts ss i).2 = true) (n10 : n ≤ 10) {k j : Nat} {v : Int} (kl : k < ss.length) (hj : j ∈ fdE n ts ss k) (hv : v ∈ tpE n ts ss j) (nv : v ∉ tpE n ts ss k) : ss[k]? = some (.out v) := by
 have hs : ss[k]? = some (ss[k]'kl) := List.getElem?_eq_getElem kl
 have S := st_end go n10 hs
 rw [hs]
 generalize ss[k]'kl = s at S
 obtain ⟨hb, hl, lt, _, _⟩ := S
 have bd := top_lt go n10 j (by have := lt j hj; omega) v hv
 generalize fdE n ts ss k = f at hb hl hj
 cases s with
 | leaf => rw [List.eq_nil_of_length_eq_zero hl] at hj; exact absurd hj List.not_mem_nil
 | inn x =>
  obtain ⟨j', rfl⟩ := List.length_eq_one_iff.mp hl
  obtain rfl := List.mem_singleton.mp hj
  have hb' : (if (0 ≤ x ∧ x < (n : Int)) ∧ x ∉ tpE n ts ss j ∧ Stp.out x ∉ ss.take k then some (jointF (tpE n ts ss j) [x]) else none) = some (tpE n ts ss k) := hb
  split at hb'
  ·rw [← Option.some.inj hb'] at nv
   exact absurd (mem_upF.mpr ⟨bd.1, by omega, decide_eq_true (.inl hv)⟩) nv
  ·cases hb'
 | tie x y =>
  obtain ⟨j', rfl⟩ := List.length_eq_one_iff.mp hl
  obtain rfl := List.mem_singleton.mp hj
  have hb' : (if (x, y) ∈ ts ∧ lessF [x, y] (tpE n ts ss j) = [] ∧ Stp.tie x y ∉ ss.take k then some (tpE n ts ss j) else none) = some (tpE n ts ss k) := hb
  split at hb'
  ·rw [← Option.some.inj hb'] at nv
   exact absurd hv nv
  ·cases hb'
 | out x =>
  obtain ⟨j', rfl⟩ := List.length_eq_one_iff.mp hl
  obtain rfl := List.mem_singleton.mp hj
  have hb' : (if x ∈ tpE n ts ss j ∧ Stp.out x ∉ ss.take k then some (lessF (tpE n ts ss j) [x]) else none) = some (tpE n ts ss k) := hb
  split at hb'
  ·rw [← Option.some.inj hb'] at nv
   by_cases c : v = x
   ·rw [c]
   ·exact absurd (List.mem_filter.mpr ⟨hv, by simp [c]⟩) nv
  ·cases hb'
 | join =>
  obtain ⟨j1, j2, rfl⟩ := two_of hl
  have hb' : (if tpE n ts ss j1 = tpE n ts ss j2 then some (tpE n ts ss j1) else none) = some (tpE n ts ss k) := hb
  split at hb'
  ·rename_i c
   rw [← Option.some.inj hb'] at nv
   rcases List.mem_cons.mp hj with z | z
   ·exact absurd (z ▸ hv) nv
   ·rw [c] at nv
    exact absurd (List.mem_singleton.mp z ▸ hv) nv
  ·cases hb'
theorem out_at (go : ∀ i, i ≤ ss.length → (runR n ts ss i).2 = true) (n10 : n ≤ 10) {k : Nat} {v : Int} (h : ss[k]? = some (.out v)) : ∃ j, fdE n ts ss k = [j] ∧ j < k ∧ v ∈ tpE n ts ss j ∧ v ∉ tpE n ts ss k ∧ Stp.out v ∉ ss.take k := by
 obtain ⟨hb, hl, lt, _, _⟩ := st_end go n10 h
 obtain ⟨j, e⟩ := List.length_eq_one_iff.mp hl
 rw [e] at hb
 have hb' : (if v ∈ tpE n ts ss j ∧ Stp.out v ∉ ss.take k then some (lessF (tpE n ts ss j) [v]) else none) = some (tpE n ts ss k) := hb
 refine ⟨j, e, lt j (by rw [e]; exact List.mem_cons_self), ?_⟩
 split at hb'
 ·rename_i c
  refine ⟨c.1, ?_, c.2⟩
  rw [← Option.some.inj hb']
  intro z
  have := (List.mem_filter.mp z).2
  simp at this
 ·cases hb'
theorem tie_at (go : ∀ i, i ≤ ss.length → (runR n ts ss i).2 = true) (n10 : n ≤ 10) {k : Nat} {a b : Int} (h : ss[k]? = some (.tie a b)) : a ∈ tpE n ts ss k ∧ b ∈ tpE n ts ss k := by
 obtain ⟨hb, hl, lt, _, _⟩ := st_end go n10 h
 obtain ⟨j, e⟩ := List.length_eq_one_iff.mp hl
 rw [e] at hb
 have hb' : (if (a, b) ∈ ts ∧ lessF [a, b] (tpE n ts ss j) = [] ∧ Stp.tie a b ∉ ss.take k then some (tpE n ts ss j) else none) = some (tpE n ts ss k) := hb
 split at hb'
 ·rename_i c
  rw [← Option.some.inj hb']
  have h2 := List.filter_eq_nil_iff.mp c.2.1
  have ha := h2 a List.mem_cons_self
  have hc := h2 b (List.mem_cons_of_mem _ List.mem_cons_self)
  simp at ha hc
  exact ⟨ha, hc⟩
 ·cases hb'
theorem mem_take_lt {s : Stp} {k k' : Nat} (h : ss[k]? = some s) (l : k < k') : s ∈ ss.take k' := by
 refine List.mem_of_getElem? (i := k) ?_
 rw [List.getElem?_take_of_lt l]
 exact h
theorem rowsB_tree (n10 : n ≤ 10) (c : AllC n wd ts ⟨[], [], []⟩ ss) {G : List Int} {B : List (Int × Int)} (h : goK ⟨[], [], []⟩ ss = ⟨[[]], G, B⟩) (cov : ∀ v : Int, 0 ≤ v → v < (n : Int) → v ∈ G) (mB : ∀ t, t ∈ B ↔ t ∈ ts) : TreeB n ts (rowsB n ts ss) wd := by
 have ok := sf_ok n10 c h cov mB
 have go := sf_go n10 ok
 have I := sf_full n10 ok
 obtain ⟨lp, lpos⟩ := last_pile n10 ok
 have U := use_at go n10 ss.length (Nat.le_refl _)
 obtain ⟨E, D⟩ := sim_pref n10 c ss.length (Nat.le_refl _)
 rw [List.take_length, h] at D
 have pileE : (runR n ts ss ss.length).1.pile = [ss.length - 1] := lp
 have lastE : tpE n ts ss (ss.length - 1) = [] := by
  have r := D.rel
  rw [pileE] at r
  cases r with
  | cons a _ =>
   refine List.eq_nil_iff_forall_not_mem.mpr fun v hv => ?_
   exact absurd ((a v).mp hv) List.not_mem_nil
 have bagE : ∀ i, i < ss.length → bagR (rowsB n ts ss) i = tpE n ts ss (ss.length - 1 - i) := fun i hi => by
  unfold bagR
  rw [rowsB_row hi]
 have bagN : ∀ i, ss.length ≤ i → bagR (rowsB n ts ss) i = [] := fun i hi => by
  unfold bagR
  rw [rowAt_ge (by rw [rowsB_len]; exact hi)]
 have userE : ∀ j, j < ss.length → j ≠ ss.length - 1 → ∃ k, k < ss.length ∧ j ∈ fdE n ts ss k ∧ j < k ∧ (upsO ss.length (endR n ts ss).feeds ss.length).getD j none = some (((ss.length - 1 - k : Nat) : Nat) : Int) := fun j jl jn => by
  rcases U.all j jl with z | ⟨k, kl, z⟩
  ·rw [pileE] at z
   exact absurd (List.mem_singleton.mp z) jn
  ·have := (st_end go n10 (List.getElem?_eq_getElem kl)).lt j z
   refine ⟨k, kl, z, this, ?_⟩
   rw [(U.used k kl j z).2]
   congr 1
   omega
 refine ⟨by rw [rowsB_len]; exact lpos, ?_, fun i i0 il => ?_, fun i => ?_, fun i v hv => ?_, fun v v0 v1 => ?_, fun t ht => ?_, fun i => ?_⟩
 ·rw [rowsB_row lpos, Nat.sub_zero]
  refine U.none _ fun k kl z => ?_
  have := (U.used k kl _ z).1
  rw [pileE] at this
  exact this List.mem_cons_self
 ·rw [rowsB_len] at il
  obtain ⟨k, kl, _, jk, e⟩ := userE (ss.length - 1 - i) (by omega) (by omega)
  refine ⟨ss.length - 1 - k, by omega, ?_⟩
  rw [rowsB_row il]
  exact e
 ·rcases Nat.lt_or_ge i ss.length with il | il
  ·rw [bagE i il]
   have kl : ss.length - 1 - i < (endR n ts ss).tops.length := by rw [I.tl]; omega
   show ((endR n ts ss).tops.getD (ss.length - 1 - i) []).Pairwise _
   rw [List.getD_eq_getElem?_getD, List.getElem?_eq_getElem kl]
   exact D.asc _ (List.getElem_mem kl)
  ·rw [bagN i il]; exact .nil
 ·rcases Nat.lt_or_ge i ss.length with il | il
  ·rw [bagE i il] at hv
   exact top_lt go n10 _ (by omega) v hv
  ·rw [bagN i il] at hv; exact absurd hv List.not_mem_nil
 ·have ho : Stp.out v ∈ ss := by
   have := (D.outs v).mpr (cov v v0 v1)
   rwa [List.take_length] at this
  obtain ⟨k0, hk0⟩ := List.mem_iff_getElem?.mp ho
  have k0l := (List.getElem?_eq_some_iff.mp hk0).1
  obtain ⟨j0, ef, jl, h1, h2, h3⟩ := out_at go n10 hk0
  refine ⟨ss.length - 1 - j0, by rw [rowsB_len]; omega, fun i il => ?_⟩
  rw [rowsB_len] at il
  rw [Bool.eq_iff_iff, decide_eq_true_iff]
  unfold isTop has
  rw [rowsB_row il, Bool.and_eq_true, decide_eq_true_iff]
  dsimp only
  constructor
  ·rintro ⟨hv, hn⟩
   have jn : ss.length - 1 - i ≠ ss.length - 1 := fun z => by
    rw [z, lastE] at hv
    exact absurd hv List.not_mem_nil
   obtain ⟨k, kl, hj, jk, e⟩ := userE (ss.length - 1 - i) (by omega) jn
   rw [e] at hn
   have nv : v ∉ tpE n ts ss k := fun z => by
    have : heldF (rowsB n ts ss) (some (((ss.length - 1 - k : Nat) : Nat) : Int)) v = true := by
     unfold heldF has
     dsimp only
     rw [Int.toNat_natCast, rowsB_row (by omega), show ss.length - 1 - (ss.length - 1 - k) = k by omega]
     exact decide_eq_true z
    rw [this] at hn
    cases hn
   have hk := goes_out go n10 kl hj hv nv
   have ek : k = k0 := by
    rcases Nat.lt_trichotomy k k0 with z | z | z
    ·exact absurd (mem_take_lt hk z) h3
    ·exact z
    ·obtain ⟨_, _, _, _, _, h3'⟩ := out_at go n10 hk
     exact absurd (mem_take_lt hk0 z) h3'
   rw [ek, ef] at hj
   have := List.mem_singleton.mp hj
   omega
  ·intro ei
   have ej : ss.length - 1 - i = j0 := by omega
   rw [ej]
   refine ⟨h1, ?_⟩
   rw [(U.used k0 k0l j0 (by rw [ef]; exact List.mem_cons_self)).2]
   have : heldF (rowsB n ts ss) (some ((ss.length : Int) - 1 - (k0 : Int))) v = false := by
    unfold heldF has
    dsimp only
    rw [show ((ss.length : Int) - 1 - (k0 : Int)).toNat = ss.length - 1 - k0 by omega, rowsB_row (by omega), show ss.length - 1 - (ss.length - 1 - k0) = k0 by omega]
    exact decide_eq_false h2
   rw [this]
   rfl
 ·have ht' : Stp.tie t.1 t.2 ∈ ss := by
   have := (D.ties t.1 t.2).mpr ((mB t).mpr ht)
   rwa [List.take_length] at this
  obtain ⟨k, hk⟩ := List.mem_iff_getElem?.mp ht'
  have kl := (List.getElem?_eq_some_iff.mp hk).1
  refine ⟨ss.length - 1 - k, by rw [rowsB_len]; omega, ?_⟩
  rw [bagE _ (by omega), show ss.length - 1 - (ss.length - 1 - k) = k by omega]
  exact tie_at go n10 hk
 ·rcases Nat.lt_or_ge i ss.length with il | il
  ·rw [bagE i il]
   obtain ⟨k, ek⟩ : ∃ k, k = ss.length - 1 - i := ⟨_, rfl⟩
   rw [← ek]
   have kl : k < ss.length := by omega
   obtain ⟨E', D'⟩ := sim_pref n10 c (k + 1) (by omega)
   have S := st_end go n10 (List.getElem?_eq_getElem kl)
   have r := D'.rel
   have wd' := wide_at c kl
   have ok' := D'.ok
   generalize goK ⟨[], [], []⟩ (ss.take (k + 1)) = κ at r wd' ok'
   rw [S.pile] at r
   have ne : κ.P ≠ [] := fun z => by
    rw [z] at r
    have := Paired.length r
    simp at this
   rw [top_split ne] at r
   obtain ⟨xs', x, ex, _, hx⟩ := paired_unsnoc r
   have ex' := (List.append_inj' ex rfl).2
   cases ex'
   rw [top_end go n10 (Nat.le_refl _) (by omega)] at hx
   have hx' : ∀ v, v ∈ tpE n ts ss k ↔ v ∈ κ.top := hx
   have asc : (tpE n ts ss k).Pairwise (· < ·) := by
    have kl' : k < (endR n ts ss).tops.length := by rw [I.tl]; exact kl
    show ((endR n ts ss).tops.getD k []).Pairwise _
    rw [List.getD_eq_getElem?_getD, List.getElem?_eq_getElem kl']
    exact D.asc _ (List.getElem_mem kl')
   have nd1 : (tpE n ts ss k).Nodup := asc.imp fun h => by omega
   exact Nat.le_trans (pigA nd1 fun v hv => (hx' v).mp hv) wd'
  ·rw [bagN i il]; exact Nat.zero_le _
end
end K
namespace K
open PySem L2 Lw Bg
abbrev s__law_formed : Stmt := top 39
theorem sc__law_formed : FnScope ["_law_n", "_law_found", "_law_k", "_law_up", "_law_one"] ["_law_n", "_law_found"] (defScope s__law_formed) := ⟨rfl, rfl, rfl, by decide +kernel, rfl, by decide +kernel, by decide +kernel⟩
theorem kitTT {K : PySem.W.Frag} : PySem.W.kitOne K (.type "tuple") (.type "tuple") = some true := by rfl
theorem kitLL {K : PySem.W.Frag} : PySem.W.kitOne K (.type "list") (.type "list") = some true := by rfl
theorem or_pure {ta tb : TT} {σ : St} {H : Hp} {b1 b2 : Bool} {Q : Bool → Hp → Prop} (h1 : ∀ Q : Bool → Hp → Prop, Q b1 H → ta σ H Q) (h2 : ∀ Q : Bool → Hp → Prop, Q b2 H → tb σ H Q) (h : Q (b1 || b2) H) : tOr ta tb σ H Q := by
 refine h1 _ ?_
 cases b1 with
 | true => exact iteT h
 | false => exact iteF (h2 _ h)
def RowG (H : Hp) (v : V) (r : Row) : Prop := ∃ p b, v = .ref p ∧ H p = some (.tup [upV r.1, .ref b]) ∧ H b = some (.lst (r.2.map V.int))
theorem RowG.same {H H' : Hp} {v : V} {r : Row} (s : Same H H') (h : RowG H v r) : RowG H' v r := by
 obtain ⟨p, b, e, h1, h2⟩ := h
 exact ⟨p, b, e, s _ _ h1, s _ _ h2⟩
theorem RowG.get {H : Hp} {xs : List V} {rows : List Row} (p : Paired (RowG H) xs rows) {i : Nat} (il : i < rows.length) : ∃ pt b, xs[i]? = some (.ref pt) ∧ H pt = some (.tup [upV (rowAt rows i).1, .ref b]) ∧ H b = some (.lst ((bagR rows i).map V.int)) := by
 obtain ⟨v, hv, ⟨pt, b, rfl, h1, h2⟩⟩ := paired_getr p (rowAt_lt il)
 exact ⟨pt, b, hv, h1, h2⟩
def spFormed58 (K : PySem.W.Frag) : Sp := fun vs H Q _ => ∃ (f : Addr) (xs : List V) (rows : List Row) (n M : Nat) (ts : List (Int × Int)), vs = [.int n, .ref f] ∧ H f = some (.lst xs) ∧ Paired (RowG H) xs rows ∧ TreeB n ts rows M ∧ n ≤ 10 ∧ rows.length ≤ 900 ∧ ∀ H', Same H H' → Q (.bl true) H'
theorem asc_up {b : List Int} (h : b.Pairwise (· < ·)) (s : ∀ v ∈ b, 0 ≤ v ∧ v < 16) {L : List Nat} (hL : ∀ u : Nat, u ∈ L ↔ (u : Int) ∈ b) : (upF fun v => decide (v.toNat ∈ L)) = b := by
 refine asc_ext (upF_asc _) h fun v => ?_
 rw [mem_upF, decide_eq_true_iff, hL]
 constructor
 ·rintro ⟨h0, _, h1⟩
  rwa [Int.toNat_of_nonneg h0] at h1
 ·intro hv
  have := s v hv
  exact ⟨this.1, this.2, by rwa [Int.toNat_of_nonneg this.1]⟩
section
variable {P : Program} {w : World} {K : PySem.W.Frag} {mg : Str → Option Value} {base : Heap}
set_option maxHeartbeats 8000000 in
theorem ok__law_formed (B : Bl mg) (d__law_formed : Dn K mg "_law_formed" s__law_formed ["_law_n", "_law_found"]) : FnOk P w K mg base CX0 1 d__law_formed.f d__law_formed.fd ["_law_n", "_law_found"] (spFormed58 K) := by
 refine d__law_formed.F.ok sc__law_formed (fun vs H Q E h => ?_) (fun cdv A outer s H vs Q E hr h => ?_)
 ·obtain ⟨f, xs, rows, n, M, ts, rfl, _⟩ := h
  rfl
 obtain ⟨f, xs, rows, n, M, ts, rfl, hF, pX, T, n10, l900, q⟩ := h
 have hu : (A.deeper (PyProof.Rows.envOfC "_law_formed" (defScope s__law_formed) s.heap.objs.size d__law_formed.f cdv)).units + 64 < cLine := by have := hr.un; omega
 have lx := Paired.length pX
 have pos := T.len
 refine ⟨_, (pss_cons (ps_if (PW.pt (pw_or (pt_not (pt_truthK (K := K) rfl (pe_callB (call_isinstK (K := K) rfl) rfl B.isinstance (by decide +kernel) (pa_cons (pv 1) (pa_cons (pe_bltn (v := .ty "list") (u := .type "list") rfl B.list (by decide +kernel) rfl) pa_nil))) (fun _ => rfl))) (pw_or1 (pt_cmpR op_eq (pe_callB (call_lenK (K := K) rfl) rfl B.len (by decide +kernel) (pa_cons (pv 1) pa_nil)) pe_int (nomark _)))))
   (pss_one (ps_ret pe_bl))
   pss_nil)
   (pss_cons (ps_for PassesOwn.never rfl (pi_range1 rfl B.range (pa_cons (pe_callB (call_lenK (K := K) rfl) rfl B.len (by decide +kernel) (pa_cons (pv 1) pa_nil)) pa_nil)) (pg_name (i := 2) sc__law_formed.nd rfl (Or.inl rfl))
   (pss_cons (ps_if (PW.pt (pw_or (pt_not (pt_truthK (K := K) rfl (pe_callB (call_isinstK (K := K) rfl) rfl B.isinstance (by decide +kernel) (pa_cons (pe_ix (ix_listK (K := K) rfl) (pv 1) (pv 2) (fun _ _ => rfl)) (pa_cons (pe_bltn (v := .ty "tuple") (u := .type "tuple") rfl B.tuple (by decide +kernel) rfl) pa_nil))) (fun _ => rfl))) (pw_or (pt_cmpR op_ne (pe_callB (call_lenK (K := K) rfl) rfl B.len (by decide +kernel) (pa_cons (pe_ix (ix_listK (K := K) rfl) (pv 1) (pv 2) (fun _ _ => rfl)) pa_nil)) pe_int (nomark _)) (pw_or1 (pt_not (pt_truthK (K := K) rfl (pe_callB (call_isinstK (K := K) rfl) rfl B.isinstance (by decide +kernel) (pa_cons (pe_ix (ix_tupK (K := K) rfl) (pe_ix (ix_listK (K := K) rfl) (pv 1) (pv 2) (fun _ _ => rfl)) pe_int (fun _ _ => rfl)) (pa_cons (pe_bltn (v := .ty "list") (u := .type "list") rfl B.list (by decide +kernel) rfl) pa_nil))) (fun _ => rfl)))))))
   (pss_one (ps_ret pe_bl))
   pss_nil)
   (pss_cons (ps_set (i := 3) sc__law_formed.nd rfl (Or.inl rfl) (pe_ix (ix_tupK (K := K) rfl) (pe_ix (ix_listK (K := K) rfl) (pv 1) (pv 2) (fun _ _ => rfl)) pe_int (fun _ _ => rfl)))
   (pss_cons (ps_if (PW.pt (pw_and (pt_cmpR op_eq (pv 2) pe_int (nomark _)) (pw_and1 (pt_cmpR op_notN (pv 3) pe_non (nomark _)))))
   (pss_one (ps_ret pe_bl))
   pss_nil)
   (pss_cons (ps_if (PW.pt (pw_and (pt_cmpR op_gt (pv 2) pe_int (nomark _)) (pw_and1 (PW.pt (pw_or (pt_not (pt_truthK (K := K) rfl (pe_callB (call_isinstK (K := K) rfl) rfl B.isinstance (by decide +kernel) (pa_cons (pv 3) (pa_cons (pe_bltn (v := .ty "int") (u := .type "int") rfl B.int (by decide +kernel) rfl) pa_nil))) (fun _ => rfl))) (pw_or (pt_truthK (K := K) rfl (pe_callB (call_isinstK (K := K) rfl) rfl B.isinstance (by decide +kernel) (pa_cons (pv 3) (pa_cons (pe_bltn (v := .ty "bool") (u := .type "bool") rfl B.bool (by decide +kernel) rfl) pa_nil))) (fun _ => rfl)) (pw_or (pt_cmpR op_lt (pv 3) pe_int (nomark _)) (pw_or1 (pt_cmpR op_ge (pv 3) (pv 2) (nomark _))))))))))
   (pss_one (ps_ret pe_bl))
   pss_nil)
   (pss_cons (ps_for PassesOwn.never rfl (pi_listK (K := K) rfl (pe_ix (ix_tupK (K := K) rfl) (pe_ix (ix_listK (K := K) rfl) (pv 1) (pv 2) (fun _ _ => rfl)) pe_int (fun _ _ => rfl))) (pg_name (i := 4) sc__law_formed.nd rfl (Or.inl rfl))
   (pss_one (ps_if (PW.pt (pw_or (pt_not (pt_truthK (K := K) rfl (pe_callB (call_isinstK (K := K) rfl) rfl B.isinstance (by decide +kernel) (pa_cons (pv 4) (pa_cons (pe_bltn (v := .ty "int") (u := .type "int") rfl B.int (by decide +kernel) rfl) pa_nil))) (fun _ => rfl))) (pw_or (pt_truthK (K := K) rfl (pe_callB (call_isinstK (K := K) rfl) rfl B.isinstance (by decide +kernel) (pa_cons (pv 4) (pa_cons (pe_bltn (v := .ty "bool") (u := .type "bool") rfl B.bool (by decide +kernel) rfl) pa_nil))) (fun _ => rfl)) (pw_or (pt_cmpR op_lt (pv 4) pe_int (nomark _)) (pw_or1 (pt_cmpR op_ge (pv 4) (pv 0) (nomark _)))))))
   (pss_one (ps_ret pe_bl))
   pss_nil)))
   (pss_one (ps_if (pt_cmpR (op_neDK (K := K) rfl hu) (pe_ix (ix_tupK (K := K) rfl) (pe_ix (ix_listK (K := K) rfl) (pv 1) (pv 2) (fun _ _ => rfl)) pe_int (fun _ _ => rfl)) (pe_callB (call_sortedS (w := w) rfl rfl) rfl B.sorted (by decide +kernel) (pa_cons (pe_callTy (call_setS (K := K) (w := w) rfl rfl rfl) rfl B.set (by decide +kernel) (pa_cons (pe_ix (ix_tupK (K := K) rfl) (pe_ix (ix_listK (K := K) rfl) (pv 1) (pv 2) (fun _ _ => rfl)) pe_int (fun _ _ => rfl)) pa_nil)) pa_nil)) (nomark _))
   (pss_one (ps_ret pe_bl))
   pss_nil))))))))
   (pss_one (ps_ret pe_bl)))), ?_⟩
 refine or_pure (b1 := false) (b2 := false) (fun Q h => ⟨_, rfl, _, _, _, _, _, rfl, rfl, TyOf.lst hF, kitLL, _, rfl, h⟩) (fun Q h => ⟨_, rfl, f, _, rfl, .inl (SqL.of hF), rfl, _, rfl, by rw [decide_eq_false (by intro z; injection z with z; omega)]; exact h⟩) (iteF ?_)
 refine ⟨_, rfl, f, _, rfl, .inl (SqL.of hF), _, rfl, by omega, by omega, ?_⟩
 rw [Int.toNat_natCast]
 refine for_range (n := xs.length) (fun i σ H' => (∃ kk uu on : Option V, σ = [some (.int n), some (.ref f), kk, uu, on]) ∧ Same H H') ⟨⟨none, none, none, rfl⟩, Same.refl _⟩ ?_ ?_
 ·rintro i σ H1 hi ⟨⟨kk, uu, on, rfl⟩, s1⟩
  have ei : (0 : Int) + (i : Int) = ((i : Nat) : Int) := by omega
  rw [ei]
  have il : i < rows.length := by omega
  obtain ⟨p, b, hx, hp, hb⟩ := RowG.get pX il
  have hF1 := s1 _ _ hF
  have hp1 := s1 _ _ hp
  have hb1 := s1 _ _ hb
  have b10 : (bagR rows i).length ≤ 10 := bag10 n10 ((T.asc i).imp fun h => by omega) (T.lt i)
  refine or_pure (b1 := false) (b2 := false) (fun Q h => ⟨_, rfl, _, rfl, f, _, _, _, rfl, rfl, SqL.of hF1, atI_nat hx, _, _, _, _, _, rfl, rfl, TyOf.tup hp1, kitTT, _, rfl, h⟩) (fun Q h => or_pure (b1 := false) (b2 := false) (fun Q h => ⟨_, rfl, _, rfl, f, _, _, _, rfl, rfl, SqL.of hF1, atI_nat hx, p, _, rfl, .inr (SqT.of hp1), rfl, _, rfl, h⟩) (fun Q h => ⟨_, rfl, _, rfl, f, _, _, _, rfl, rfl, SqL.of hF1, atI_nat hx, p, _, _, _, rfl, rfl, SqT.of hp1, rfl, _, _, _, _, _, rfl, rfl, TyOf.lst hb1, kitLL, _, rfl, h⟩) h) (iteF ?_)
  refine ⟨_, rfl, _, rfl, f, _, _, _, rfl, rfl, SqL.of hF1, atI_nat hx, p, _, _, _, rfl, rfl, SqT.of hp1, rfl, ?_⟩
  by_cases k0 : i = 0
  ·have en : (rowAt rows i).1 = none := by rw [k0]; exact T.up0
   rw [en]
   refine ⟨_, rfl, rfl, _, rfl, ?_⟩
   rw [k0]
   refine iteT ⟨_, rfl, rfl, _, rfl, iteF ?_⟩
   refine ⟨_, rfl, _, _, rfl, rfl, _, rfl, iteF (iteF ?_)⟩
   have ek : ((0 : Nat) : Int) = (0 : Int) := rfl
   rw [k0] at hx hb1 b10
   have hlt := T.lt 0
   have hasc := T.asc 0
   generalize bagR rows 0 = bag at hb1 b10 hlt hasc
   refine ⟨_, rfl, _, rfl, f, _, _, _, rfl, rfl, SqL.of hF1, atI_nat (j := 0) hx, p, _, _, _, rfl, rfl, SqT.of hp1, rfl, b, rfl, ⟨_, SqL.of hb1⟩, ?_⟩
   refine for_list (xs := bag.map V.int) (fun j σ H' => (∃ uu on : Option V, σ = [some (.int n), some (.ref f), some (.int ((0 : Nat) : Int)), uu, on]) ∧ H' = H1) ⟨⟨_, _, rfl⟩, rfl⟩ (fun j σ H' _ ⟨_, e⟩ => e ▸ SqL.of hb1) ?_ ?_
   ·rintro j x σ H6 hx6 ⟨⟨uu, on, rfl⟩, rfl⟩
    rw [List.getElem?_map] at hx6
    obtain ⟨v, hv, rfl⟩ := Option.map_eq_some_iff.mp hx6
    have vb := hlt v (List.mem_of_getElem? hv)
    refine or_pure (b1 := false) (b2 := false) (fun Q h => ⟨_, rfl, _, _, _, _, _, rfl, rfl, TyOf.int _, kit_int_int, _, rfl, h⟩) (fun Q h => or_pure (b1 := false) (b2 := false) (fun Q h => ⟨_, rfl, _, _, _, _, _, rfl, rfl, TyOf.int _, kit_int_bool, _, rfl, h⟩) (fun Q h => or_pure (b1 := false) (b2 := false) (fun Q h => ⟨_, rfl, _, _, rfl, rfl, _, rfl, by rw [decide_eq_false (by omega)]; exact h⟩) (fun Q h => ⟨_, rfl, _, rfl, _, _, rfl, rfl, _, rfl, by rw [decide_eq_false (by omega)]; exact h⟩) h) h) (iteF ⟨⟨_, _, rfl⟩, rfl⟩)
   rintro σ H6 ⟨⟨uu, on, rfl⟩, rfl⟩
   dsimp only
   refine ⟨_, rfl, _, rfl, f, _, _, _, rfl, rfl, SqL.of hF1, atI_nat (j := 0) hx, p, _, _, _, rfl, rfl, SqT.of hp1, rfl, _, rfl, _, rfl, f, _, _, _, rfl, rfl, SqL.of hF1, atI_nat (j := 0) hx, p, _, _, _, rfl, rfl, SqT.of hp1, rfl, b, bag, rfl, SqL.of hb1, (fun v hv => ⟨(hlt v hv).1, by have := (hlt v hv).2; omega⟩), fun pS L H7 n7 hL => ?_⟩
   refine ⟨pS, true, L, rfl, n7.here, fun p8 H8 n8 => ?_⟩
   rw [asc_up hasc (fun v hv => ⟨(hlt v hv).1, by have := (hlt v hv).2; omega⟩) hL] at n8
   have s18 := n7.same.trans n8.same
   refine ⟨.list (bag.map PyData.int), .list (bag.map PyData.int), .lst (SqL.of (s18 _ _ hb1)) (IsDs.ints _), .lst (SqL.of n8.here) (IsDs.ints _), shaped_ints _, shaped_ints _, _, rfl, ?_⟩
   rw [if_pos rfl, eqv_self (shaped_ints _)]
   exact iteF ⟨⟨_, _, _, rfl⟩, s1.trans s18⟩
  ·obtain ⟨u, ul, eu⟩ := T.up i (by omega) il
   rw [eu] at hp1
   rw [eu]
   refine ⟨_, rfl, rfl, _, rfl, ?_⟩
   rw [decide_eq_false (by intro z; injection z with z; omega)]
   refine iteF (iteF ?_)
   refine ⟨_, rfl, _, _, rfl, rfl, _, rfl, ?_⟩
   rw [decide_eq_true (by omega)]
   refine iteT ?_
   refine or_pure (b1 := false) (b2 := false) (fun Q h => ⟨_, rfl, _, _, _, _, _, rfl, rfl, TyOf.int _, kit_int_int, _, rfl, h⟩) (fun Q h => or_pure (b1 := false) (b2 := false) (fun Q h => ⟨_, rfl, _, _, _, _, _, rfl, rfl, TyOf.int _, kit_int_bool, _, rfl, h⟩) (fun Q h => or_pure (b1 := false) (b2 := false) (fun Q h => ⟨_, rfl, _, _, rfl, rfl, _, rfl, by rw [decide_eq_false (by omega)]; exact h⟩) (fun Q h => ⟨_, rfl, _, rfl, _, _, rfl, rfl, _, rfl, by rw [decide_eq_false (by omega)]; exact h⟩) h) h) (iteF ?_)
   have hlt := T.lt i
   have hasc := T.asc i
   generalize bagR rows i = bag at hb1 b10 hlt hasc
   refine ⟨_, rfl, _, rfl, f, _, _, _, rfl, rfl, SqL.of hF1, atI_nat (j := i) hx, p, _, _, _, rfl, rfl, SqT.of hp1, rfl, b, rfl, ⟨_, SqL.of hb1⟩, ?_⟩
   refine for_list (xs := bag.map V.int) (fun j σ H' => (∃ uu on : Option V, σ = [some (.int n), some (.ref f), some (.int ((i : Nat) : Int)), uu, on]) ∧ H' = H1) ⟨⟨_, _, rfl⟩, rfl⟩ (fun j σ H' _ ⟨_, e⟩ => e ▸ SqL.of hb1) ?_ ?_
   ·rintro j x σ H6 hx6 ⟨⟨uu, on, rfl⟩, rfl⟩
    rw [List.getElem?_map] at hx6
    obtain ⟨v, hv, rfl⟩ := Option.map_eq_some_iff.mp hx6
    have vb := hlt v (List.mem_of_getElem? hv)
    refine or_pure (b1 := false) (b2 := false) (fun Q h => ⟨_, rfl, _, _, _, _, _, rfl, rfl, TyOf.int _, kit_int_int, _, rfl, h⟩) (fun Q h => or_pure (b1 := false) (b2 := false) (fun Q h => ⟨_, rfl, _, _, _, _, _, rfl, rfl, TyOf.int _, kit_int_bool, _, rfl, h⟩) (fun Q h => or_pure (b1 := false) (b2 := false) (fun Q h => ⟨_, rfl, _, _, rfl, rfl, _, rfl, by rw [decide_eq_false (by omega)]; exact h⟩) (fun Q h => ⟨_, rfl, _, rfl, _, _, rfl, rfl, _, rfl, by rw [decide_eq_false (by omega)]; exact h⟩) h) h) (iteF ⟨⟨_, _, rfl⟩, rfl⟩)
   rintro σ H6 ⟨⟨uu, on, rfl⟩, rfl⟩
   dsimp only
   refine ⟨_, rfl, _, rfl, f, _, _, _, rfl, rfl, SqL.of hF1, atI_nat (j := i) hx, p, _, _, _, rfl, rfl, SqT.of hp1, rfl, _, rfl, _, rfl, f, _, _, _, rfl, rfl, SqL.of hF1, atI_nat (j := i) hx, p, _, _, _, rfl, rfl, SqT.of hp1, rfl, b, bag, rfl, SqL.of hb1, (fun v hv => ⟨(hlt v hv).1, by have := (hlt v hv).2; omega⟩), fun pS L H7 n7 hL => ?_⟩
   refine ⟨pS, true, L, rfl, n7.here, fun p8 H8 n8 => ?_⟩
   rw [asc_up hasc (fun v hv => ⟨(hlt v hv).1, by have := (hlt v hv).2; omega⟩) hL] at n8
   have s18 := n7.same.trans n8.same
   refine ⟨.list (bag.map PyData.int), .list (bag.map PyData.int), .lst (SqL.of (s18 _ _ hb1)) (IsDs.ints _), .lst (SqL.of n8.here) (IsDs.ints _), shaped_ints _, shaped_ints _, _, rfl, ?_⟩
   rw [if_pos rfl, eqv_self (shaped_ints _)]
   exact iteF ⟨⟨_, _, _, rfl⟩, s1.trans s18⟩
 ·rintro σ H1 ⟨⟨kk, uu, on, rfl⟩, s1⟩
  exact q H1 s1
end
end K
namespace K
open PySem L2 Lw Bg
abbrev s__law_a_tree : Stmt := top 40
theorem sc__law_a_tree : FnScope ["_law_web", "_law_found", "_law_v", "_law_tops", "_law_up", "_law_bag", "_law_a", "_law_b"] ["_law_web", "_law_found"] (defScope s__law_a_tree) := ⟨rfl, rfl, rfl, by decide +kernel, rfl, by decide +kernel, by decide +kernel⟩
def spATree (K : PySem.W.Frag) : Sp := fun vs H Q _ => ∃ (pw r f : Addr) (tx xs : List V) (rows : List Row) (n M : Nat) (ts : List (Int × Int)), vs = [.ref pw, .ref f] ∧ H pw = some (.tup [.int n, .ref r]) ∧ H r = some (.lst tx) ∧ Paired (TieL H) tx ts ∧ H f = some (.lst xs) ∧ Paired (RowG H) xs rows ∧ TreeB n ts rows M ∧ n ≤ 10 ∧ rows.length ≤ 900 ∧ ∀ H', Same H H' → Q (.bl true) H'
def cntT (i0 j : Nat) : Int := if i0 < j then 1 else 0
theorem cntT_succ (i0 j : Nat) : cntT i0 (j + 1) = cntT i0 j + (if j = i0 then 1 else 0) := by
 unfold cntT
 by_cases c : i0 < j
 ·rw [if_pos c, if_pos (by omega), if_neg (by omega)]; rfl
 ·rw [if_neg c]
  by_cases d : j = i0
  ·rw [if_pos (by omega), if_pos d]; rfl
  ·rw [if_neg (by omega), if_neg d]; rfl
section
variable {P : Program} {w : World} {K : PySem.W.Frag} {mg : Str → Option Value} {base : Heap}
set_option maxHeartbeats 8000000 in
theorem ok__law_a_tree (B : Bl mg) (d__law_a_tree : Dn K mg "_law_a_tree" s__law_a_tree ["_law_web", "_law_found"]) : FnOk P w K mg base CX0 1 d__law_a_tree.f d__law_a_tree.fd ["_law_web", "_law_found"] (spATree K) := by
 refine d__law_a_tree.F.ok sc__law_a_tree (fun vs H Q E h => ?_) (fun cdv A outer s H vs Q E hr h => ?_)
 ·obtain ⟨pw, r, f, tx, xs, rows, n, M, ts, rfl, _⟩ := h
  rfl
 obtain ⟨pw, r, f, tx, xs, rows, n, M, ts, rfl, hW, hR, pT, hF, pX, T, n10, l900, q⟩ := h
 have hu : (A.deeper (PyProof.Rows.envOfC "_law_a_tree" (defScope s__law_a_tree) s.heap.objs.size d__law_a_tree.f cdv)).units + 64 < cLine := by have := hr.un; omega
 have hv : (A.deeper (PyProof.Rows.envOfC "_law_a_tree" (defScope s__law_a_tree) s.heap.objs.size d__law_a_tree.f cdv)).units + 65 < cLine := by have := hr.un; omega
 have lx := Paired.length pX
 have pos := T.len
 refine ⟨_, (pss_cons (ps_for PassesOwn.never rfl (pi_range1 rfl B.range (pa_cons (pe_ix (ix_tupK (K := K) rfl) (pv 0) pe_int (fun _ _ => rfl)) pa_nil)) (pg_name (i := 2) sc__law_a_tree.nd rfl (Or.inl rfl))
   (pss_cons (ps_set (i := 3) sc__law_a_tree.nd rfl (Or.inl rfl) pe_int)
   (pss_cons (ps_for PassesOwn.never rfl (pi_listK (K := K) rfl (pv 1)) (pg_tupK (K := K) (n := 2) rfl rfl (pgs_cons (pg_name (i := 4) sc__law_a_tree.nd rfl (Or.inl rfl)) (pgs_cons (pg_name (i := 5) sc__law_a_tree.nd rfl (Or.inl rfl)) pgs_nil)))
   (pss_one (ps_if (PW.pt (pw_and (pt_cmpR (op_inDK (K := K) rfl hv) (pv 2) (pv 5) (by with_unfolding_all rfl)) (pw_and1 (PW.pt (pw_or (pt_cmpR op_isN (pv 4) pe_non (nomark _)) (pw_or1 (pt_cmpR (op_notInDK (K := K) rfl hv) (pv 2) (pe_ix (ix_tupK (K := K) rfl) (pe_ix (ix_listK (K := K) rfl) (pv 1) (pv 4) (fun _ _ => rfl)) pe_int (fun _ _ => rfl)) (by with_unfolding_all rfl))))))))
   (pss_one (ps_set (i := 3) sc__law_a_tree.nd rfl (Or.inl rfl) (pe_op op_add (pv 3) pe_int)))
   pss_nil)))
   (pss_one (ps_if (pt_cmpR op_ne (pv 3) pe_int (nomark _))
   (pss_one (ps_ret pe_bl))
   pss_nil)))))
   (pss_cons (ps_for PassesOwn.never rfl (pi_listK (K := K) rfl (pe_ix (ix_tupK (K := K) rfl) (pv 0) pe_int (fun _ _ => rfl))) (pg_tupK (K := K) (n := 2) rfl rfl (pgs_cons (pg_name (i := 6) sc__law_a_tree.nd rfl (Or.inr rfl)) (pgs_cons (pg_name (i := 7) sc__law_a_tree.nd rfl (Or.inr rfl)) pgs_nil)))
   (pss_one (ps_if (pt_cmpR op_eq (pe_callB (call_lenK (K := K) rfl) rfl B.len (by decide +kernel) (pa_cons (pe_lc ["_law_up", "_law_bag", "_law_a", "_law_b"] [none, none, some 6, some 7]  (by kernel_rfl) rfl (pi_listK (K := K) rfl (pv 1)) (fun _ _ _ _ _ => (pg_tupK (K := K) (n := 2) rfl rfl (pgs_cons (pg_name (i := 0) (show (["_law_up", "_law_bag", "_law_a", "_law_b"] : List Str).Nodup by decide +kernel) rfl (Or.inl rfl)) (pgs_cons (pg_name (i := 1) (show (["_law_up", "_law_bag", "_law_a", "_law_b"] : List Str).Nodup by decide +kernel) rfl (Or.inl rfl)) pgs_nil)))) (fun _ _ _ _ _ => (pts_one (PW.pt (pw_and (pt_cmpR (op_inDK (K := K) rfl hv) (pv 2) (pv 1) (by with_unfolding_all rfl)) (pw_and1 (pt_cmpR (op_inDK (K := K) rfl hv) (pv 3) (pv 1) (by with_unfolding_all rfl))))))) (fun _ _ _ _ _ => (pv 1))) pa_nil)) pe_int (nomark _))
   (pss_one (ps_ret pe_bl))
   pss_nil)))
   (pss_one (ps_ret pe_bl)))), ?_⟩
 refine ⟨_, rfl, pw, _, _, _, rfl, rfl, SqT.of hW, rfl, _, rfl, by omega, by omega, ?_⟩
 rw [Int.toNat_natCast]
 refine for_range (n := n) (fun i σ H' => (∃ v2 v3 v4 v5 : Option V, σ = [some (.ref pw), some (.ref f), v2, v3, v4, v5, none, none]) ∧ Same H H') ⟨⟨none, none, none, none, rfl⟩, Same.refl _⟩ ?_ ?_
 ·rintro i σ H1 hi ⟨⟨v2, v3, v4, v5, rfl⟩, s1⟩
  have ei : (0 : Int) + (i : Int) = ((i : Nat) : Int) := by omega
  rw [ei]
  obtain ⟨i0, i0l, top⟩ := T.tops (i : Int) (by omega) (by omega)
  have hF1 := s1 _ _ hF
  refine ⟨_, rfl, f, rfl, ⟨_, SqL.of hF1⟩, ?_⟩
  refine for_list (xs := xs) (fun j σ H' => (∃ v4 v5 : Option V, σ = [some (.ref pw), some (.ref f), some (.int ((i : Nat) : Int)), some (.int (cntT i0 j)), v4, v5, none, none]) ∧ H' = H1) ⟨⟨_, _, rfl⟩, rfl⟩ (fun j σ H' _ ⟨_, e⟩ => e ▸ SqL.of hF1) ?_ ?_
  ·rintro j x σ H2 hx ⟨⟨v4, v5, rfl⟩, rfl⟩
   have jl : j < rows.length := by rw [← lx]; exact (List.getElem?_eq_some_iff.mp hx).1
   obtain ⟨p, b, hx', hp, hb⟩ := RowG.get pX jl
   rw [hx] at hx'
   cases hx'
   have hp1 := s1 _ _ hp
   have hb1 := s1 _ _ hb
   refine ⟨p, _, rfl, SqT.of hp1, rfl, _, _, rfl, _, _, rfl, rfl, ?_⟩
   have tj := top j jl
   refine and_pure (b1 := has (i : Int) (rowAt rows j)) (b2 := !heldF rows (rowAt rows j).1 (i : Int)) (fun Q h => ⟨_, rfl, _, rfl, inInts (SqL.of hb1) ⟨_, rfl, h⟩⟩) (fun Q h => ?_) ?_
   ·cases e : (rowAt rows j).1 with
    | none =>
     rw [e] at h
     exact ⟨_, rfl, rfl, _, rfl, iteT h⟩
    | some z =>
     have j0 : 0 < j := by
      rcases Nat.eq_zero_or_pos j with c | c
      ·rw [c, T.up0] at e; cases e
      ·exact c
     obtain ⟨u, ul, eu⟩ := T.up j j0 jl
     rw [eu] at e
     cases e
     rw [eu] at h
     obtain ⟨p2, b2, hx2, hp2, hb2⟩ := RowG.get pX (i := u) (by omega)
     have h' : Q (!decide ((i : Int) ∈ bagR rows u)) H2 := by
      unfold heldF has at h
      dsimp only at h
      rw [Int.toNat_natCast] at h
      exact h
     refine or_pure (b1 := false) (b2 := !decide ((i : Int) ∈ bagR rows u)) (fun Q h => ⟨_, rfl, rfl, _, rfl, h⟩) (fun Q h => ⟨_, rfl, _, rfl, _, rfl, f, _, _, _, rfl, rfl, SqL.of hF1, atI_nat hx2, p2, _, _, _, rfl, rfl, SqT.of (s1 _ _ hp2), rfl, notInInts (SqL.of (s1 _ _ hb2)) ⟨_, rfl, h⟩⟩) h'
   rw [show (has (i : Int) (rowAt rows j) && !heldF rows (rowAt rows j).1 (i : Int)) = isTop rows (i : Int) j from rfl, tj]
   by_cases c : j = i0
   ·rw [decide_eq_true c]
    refine iteT ⟨_, rfl, _, _, rfl, rfl, ⟨some (upV (rowAt rows j).1), some (.ref b), ?_⟩, rfl⟩
    rw [cntT_succ, if_pos c]
    rfl
   ·rw [decide_eq_false c]
    refine iteF ⟨⟨some (upV (rowAt rows j).1), some (.ref b), ?_⟩, rfl⟩
    rw [cntT_succ, if_neg c, Int.add_zero]
    rfl
  ·rintro σ H2 ⟨⟨v4, v5, rfl⟩, rfl⟩
   dsimp only
   refine ⟨_, rfl, rfl, _, rfl, ?_⟩
   rw [show cntT i0 xs.length = 1 by unfold cntT; rw [if_pos (by omega)]]
   exact iteF ⟨⟨_, _, _, _, rfl⟩, s1⟩
 ·rintro σ H1 ⟨⟨v2, v3, v4, v5, rfl⟩, s1⟩
  dsimp only
  have hW1 := s1 _ _ hW
  have hR1 := s1 _ _ hR
  refine ⟨_, rfl, pw, _, _, _, rfl, rfl, SqT.of hW1, rfl, r, rfl, ⟨_, SqL.of hR1⟩, ?_⟩
  refine for_list (xs := tx) (fun j σ H' => (∃ v2 v3 v4 v5 v6 v7 : Option V, σ = [some (.ref pw), some (.ref f), v2, v3, v4, v5, v6, v7]) ∧ Same H H') ⟨⟨_, _, _, _, _, _, rfl⟩, s1⟩ (fun j σ H' _ ⟨_, s⟩ => SqL.of (s _ _ hR)) ?_ ?_
  ·rintro j x σ H2 hx ⟨⟨v2, v3, v4, v5, v6, v7, rfl⟩, s2⟩
   obtain ⟨t, ht, ⟨pt, ept, htp⟩⟩ := paired_get pT hx
   subst ept
   have tm := List.mem_of_getElem? ht
   obtain ⟨k, kl, k1, k2⟩ := T.ties t tm
   refine ⟨pt, _, rfl, SqT.of (s2 _ _ htp), rfl, _, _, rfl, _, _, rfl, rfl, ?_⟩
   refine ⟨_, rfl, f, rfl, ⟨_, SqL.of (s2 _ _ hF)⟩, ?_⟩
   refine lc_list (K := K) (a := f) (xs := xs) (fun i ys H' => H' = H2 ∧ ys.length ≤ i ∧ (k < i → 0 < ys.length)) ⟨rfl, Nat.le_refl _, fun z => absurd z (Nat.not_lt_zero _)⟩ (fun i ys H' hi ⟨e, l, _⟩ => ⟨e ▸ SqL.of (s2 _ _ hF), Nat.le_of_lt (small1000 (by omega))⟩) (fun i x ys H3 hx3 ⟨e3, l3, k3⟩ => ?_) (fun ys H3 ⟨e3, l3, k3⟩ p4 hp4 => ?_)
   ·subst e3
    have il : i < rows.length := by rw [← lx]; exact (List.getElem?_eq_some_iff.mp hx3).1
    obtain ⟨p, b, hx', hp, hb⟩ := RowG.get pX il
    rw [hx3] at hx'
    cases hx'
    have hp1 := s2 _ _ hp
    have hb1 := s2 _ _ hb
    refine ⟨p, _, rfl, SqT.of hp1, rfl, _, _, rfl, _, _, rfl, rfl, ?_⟩
    refine and_pure (b1 := decide (t.1 ∈ bagR rows i)) (b2 := decide (t.2 ∈ bagR rows i)) (fun Q h => ⟨_, rfl, _, rfl, inInts (SqL.of hb1) ⟨_, rfl, h⟩⟩) (fun Q h => ⟨_, rfl, _, rfl, inInts (SqL.of hb1) ⟨_, rfl, h⟩⟩) ?_
    cases c : (decide (t.1 ∈ bagR rows i) && decide (t.2 ∈ bagR rows i)) with
    | true => exact iteT ⟨_, rfl, rfl, by rw [List.length_append]; show ys.length + 1 ≤ _; omega, fun _ => by rw [List.length_append]; show 0 < ys.length + 1; omega⟩
    | false =>
     refine iteF ⟨rfl, by omega, fun z => k3 ?_⟩
     rcases Nat.lt_or_ge k i with d | d
     ·exact d
     ·obtain rfl : k = i := by omega
      rw [decide_eq_true k1, decide_eq_true k2] at c
      cases c
   ·subst e3
    have n4 : New H3 p4 (.lst ys) (upd H3 p4 (.lst ys)) := New.mk0 hp4
    refine ⟨p4, _, rfl, .inl (SqL.of n4.here), rfl, _, rfl, ?_⟩
    have := k3 (by omega)
    rw [decide_eq_false (by intro z; injection z with z; omega)]
    exact iteF ⟨⟨_, _, _, _, _, _, rfl⟩, s2.trans n4.same⟩
  ·rintro σ H2 ⟨⟨v2, v3, v4, v5, v6, v7, rfl⟩, s2⟩
   exact q H2 s2
end
end K
namespace K
open PySem L2 Lw Bg
theorem paired_at {α : Type} {R : V → α → Prop} : ∀ {ps : List Addr} {rows : List α}, ps.length = rows.length → (∀ i r, rows[i]? = some r → R (.ref (ps.getD i 0)) r) → Paired R (ps.map V.ref) rows
 | [], [], _, _ => .nil
 | [], _ :: _, h, _ => by cases h
 | _ :: _, [], h, _ => by cases h
 | p :: ps, r :: rows, h, a => .cons (a 0 r rfl) (paired_at (Nat.succ.inj h) fun i x hx => a (i + 1) x hx)
theorem bags_rows {n : Nat} {ts : List (Int × Int)} {ss : List Stp} {H : Hp} {ps bs : List Addr} (lp : ps.length = ss.length) (at_ : ∀ i, i < ss.length → H (ps.getD i 0) = some (.tup [(upsV ss.length (endR n ts ss).feeds ss.length).getD (ss.length - 1 - i) .non, .ref (bs.getD i 0)]) ∧ H (bs.getD i 0) = some (.lst (((endR n ts ss).tops.getD (ss.length - 1 - i) []).map V.int))) : Paired (RowG H) (ps.map V.ref) (rowsB n ts ss) ∧ ∀ i r, (rowsB n ts ss)[i]? = some r → H (ps.getD i 0) = some (.tup [upV r.1, .ref (bs.getD i 0)]) ∧ H (bs.getD i 0) = some (.lst (r.2.map V.int)) := by
 have key : ∀ i r, (rowsB n ts ss)[i]? = some r → H (ps.getD i 0) = some (.tup [upV r.1, .ref (bs.getD i 0)]) ∧ H (bs.getD i 0) = some (.lst (r.2.map V.int)) := fun i r h => by
  have il : i < ss.length := by have := (List.getElem?_eq_some_iff.mp h).1; rwa [rowsB_len] at this
  rw [rowsB_at il] at h
  cases h
  obtain ⟨h1, h2⟩ := at_ i il
  rw [upsV_at] at h1
  exact ⟨h1, h2⟩
 exact ⟨paired_at (by rw [lp, rowsB_len]) fun i r h => ⟨_, _, rfl, (key i r h).1, (key i r h).2⟩, key⟩
def Good55 (n : Nat) (ts : List (Int × Int)) (rs : List Row) (ss : List Stp) : Prop := ss.length ≤ 400 ∧ (∀ M, (∀ r ∈ rs, r.2.length ≤ M) → AllC n M ts ⟨[], [], []⟩ ss) ∧ ∃ G B, goK ⟨[], [], []⟩ ss = ⟨[[]], G, B⟩ ∧ (∀ v : Int, 0 ≤ v → v < (n : Int) → v ∈ G) ∧ ∀ t, t ∈ B ↔ t ∈ ts
theorem good55 {n : Nat} {ts : List (Int × Int)} {rs R : List Row} {sp : List Nat} (T : Tree n rs) (n10 : n ≤ 10) (D : Tidy rs rs.length R sp) (h4 : ∀ r ∈ rs, r.2.length ≤ 4) (tn : ts.Nodup) (t100 : ts.length ≤ 100) (inb : ∀ t ∈ ts, ∃ r ∈ rs, t.1 ∈ r.2 ∧ t.2 ∈ r.2) : Good55 n ts rs (stepsU ts R.length (upR R) (bagR R) 10 0 ++ (bagR R 0).map .out) := by
 have TR := tidy_tree T D
 have few := tidy_few T D
 have b4 := tidy_4 D h4
 have Tb' := tb_tree TR
 have inR : ∀ t ∈ ts, ∃ k, t.1 ∈ bagR R k ∧ t.2 ∈ bagR R k := fun t ht => by
  obtain ⟨r, hr, h1, h2⟩ := inb t ht
  obtain ⟨j, jl, e⟩ := mem_rowAt hr
  rw [← e] at h1 h2
  exact ⟨sp.getD j 0, (D.mem _ (D.lt j jl) _).mpr ⟨j, jl, rfl, h1⟩, (D.mem _ (D.lt j jl) _).mpr ⟨j, jl, rfl, h2⟩⟩
 refine ⟨?_, fun M hM => (whole55 Tb' (tidy_4 D hM) tn (fun t h => h) inR (by omega)).1, ?_⟩
 ·have h1 := stepsU_240 Tb' b4 (by omega) t100 (f := 10) TR.pos
  have h2 := b4 0
  rw [List.length_append, List.length_map]
  omega
 ·obtain ⟨G, Bb, e, c, m⟩ := (whole55 Tb' b4 tn (fun t h => h) inR (d := 10) (by omega)).2
  refine ⟨G, Bb, e, fun v v0 v1 => ?_, m⟩
  obtain ⟨r, hr, hv⟩ := TR.cov v v0 v1
  obtain ⟨k, _, ek⟩ := mem_rowAt hr
  exact c k v (by unfold bagR; rw [ek]; exact hv)
theorem rw_4 {n : Nat} {rs : List Row} {us : List Int} (W : Rw n 4 rs us) : ∀ r ∈ rs, r.2.length ≤ 4 := fun r hr => by
 obtain ⟨k, _, e⟩ := mem_rowAt hr
 have := W.few k
 unfold bagR at this
 rw [e] at this
 exact this
theorem both_row {rs : List Row} {t : Int × Int} (h : BothIn rs t) : ∃ r ∈ rs, t.1 ∈ r.2 ∧ t.2 ∈ r.2 := by
 obtain ⟨k, h1, h2⟩ := h
 by_cases kl : k < rs.length
 ·exact ⟨rowAt rs k, List.mem_of_getElem? (rowAt_lt kl), h1, h2⟩
 ·unfold bagR at h1
  rw [rowAt_ge (by omega)] at h1
  exact absurd h1 List.not_mem_nil
abbrev s_law : Stmt := top 41
theorem sc_law : FnScope ["_law_script", "_law_n", "_law_rows_here", "_law_web", "_law_steps", "_law_found", "_law_most"] ["_law_script"] (defScope s_law) := ⟨rfl, rfl, rfl, by decide +kernel, rfl, by decide +kernel, by decide +kernel⟩
theorem maxN {xs : List Row} {M : Int} {c : Nat} (h : M ∈ xs.map fun r => ((r.2.length : Nat) : Int)) (b : ∀ r ∈ xs, r.2.length ≤ c) : M ≤ (c : Int) := by
 obtain ⟨r, hr, rfl⟩ := List.mem_map.mp h
 have := b r hr
 omega
abbrev lensN (xs : List Row) : List Int := xs.map fun r => ((r.2.length : Nat) : Int)
theorem lc_lens {K : PySem.W.Frag} {a : Addr} {xs : List V} {rs : List Row} {ix : List (Option Nat)} {g : TG} {tt : TT} {te : TE} {σ : St} {H : Hp} {Q : VK} (hx : H a = some (.lst xs)) (p : Paired (RowG H) xs rs) (l900 : rs.length ≤ 900)
  (hs : ∀ (pt b : Addr) (r : Row) (N : V → Hp → Prop) (R : Hp → Prop), H pt = some (.tup [upV r.1, .ref b]) → H b = some (.lst (r.2.map V.int)) → N (V.int ((r.2.length : Nat) : Int)) H → g (.ref pt) (capt ix σ) H fun σ2 H2 => tt σ2 H2 fun b H3 => if b = true then te σ2 H3 fun v H4 => N v H4 else R H3)
  (hd : ∀ p H', New H p (.lst ((lensN rs).map V.int)) H' → Q (.ref p) H') : LcGoal ix g tt te σ H Q (Itl K a) := by
 have lx := Paired.length p
 refine lc_list (K := K) (a := a) (xs := xs) (fun i ys H' => H' = H ∧ ys = ((lensN rs).take i).map V.int) ⟨rfl, rfl⟩ (fun i ys H' hi ⟨e, l⟩ => ⟨e ▸ SqL.of hx, ?_⟩) (fun i x ys H3 hx3 ⟨e3, e4⟩ => ?_) (fun ys H3 ⟨e3, e4⟩ p4 hp4 => ?_)
 ·rw [l, List.length_map, List.length_take]
  exact Nat.le_of_lt (small1000 (by omega))
 ·subst e3
  obtain ⟨row, hrow, ⟨pt, b, rfl, hT, hb⟩⟩ := paired_get p hx3
  have et : ((lensN rs).take (i + 1)).map V.int = ys ++ [V.int ((row.2.length : Nat) : Int)] := by
   rw [List.take_succ, List.getElem?_map, hrow, e4, List.map_append]; rfl
  have h := hs pt b row (fun v H4 => H4 = H3 ∧ ys ++ [v] = ((lensN rs).take (i + 1)).map V.int) (fun H4 => H4 = H3 ∧ ys = ((lensN rs).take (i + 1)).map V.int) hT hb ⟨rfl, et.symm⟩
  exact h
 ·subst e3
  rw [e4, lx, List.take_of_length_le (by rw [List.length_map]; omega)]
  exact hd _ _ (New.mk0 hp4)
section
variable {P : Program} {w : World} {K : PySem.W.Frag} {mg : Str → Option Value} {base : Heap}
set_option maxHeartbeats 16000000 in
theorem ok_law (B : Bl mg) (U : Used w K mg) (Ct : Cts mg) (d_is_whole : Dn K mg "is_whole" s_is_whole ["thing"]) (d_is_below : Dn K mg "is_below" s_is_below ["n", "thing"]) (d_is_set : Dn K mg "is_set" s_is_set ["n", "places"]) (d_is_up : Dn K mg "is_up" s_is_up ["k", "up"]) (d_row_fault : Dn K mg "row_fault" s_row_fault ["n", "rows"]) (d_place_fault : Dn K mg "place_fault" s_place_fault ["n", "rows"]) (d_tie_fault : Dn K mg "tie_fault" s_tie_fault ["ties", "rows"]) (d_is_held : Dn K mg "is_held" s_is_held ["rows", "up", "v"]) (d_apart_fault : Dn K mg "apart_fault" s_apart_fault ["n", "rows"]) (d_fault : Dn K mg "fault" s_fault ["graph", "rows"]) (d_refuse_wide : Dn K mg "refuse_wide" s_refuse_wide ["bags"]) (d_less : Dn K mg "less" s_less ["one", "other"]) (d_are_crossed : Dn K mg "are_crossed" s_are_crossed ["one", "other"]) (d_tidied : Dn K mg "tidied" s_tidied ["tree"]) (d_steps_between : Dn K mg "steps_between" s_steps_between ["lower", "upper"]) (d_steps_up_to : Dn K mg "steps_up_to" s_steps_up_to ["graph", "rows", "k"]) (d_steps_of : Dn K mg "steps_of" s_steps_of ["graph", "tree"]) (d_joint : Dn K mg "joint" s_joint ["one", "other"]) (d_run : Dn K mg "run" s_run ["graph", "steps"]) (d_bag_behind : Dn K mg "bag_behind" s_bag_behind ["graph", "done", "step", "used"]) (d_fault_behind : Dn K mg "fault_behind" s_fault_behind ["graph", "steps", "tops", "pile"]) (d_steps_fault : Dn K mg "steps_fault" s_steps_fault ["graph", "steps"]) (d_run_whole : Dn K mg "run_whole" s_run_whole ["graph", "steps"]) (d_bags_of : Dn K mg "bags_of" s_bags_of ["graph", "steps"]) (d__law_at : Dn K mg "_law_at" s__law_at ["_law_script", "_law_k"]) (d__law_rows : Dn K mg "_law_rows" s__law_rows ["_law_script", "_law_n"]) (d__law_ties : Dn K mg "_law_ties" s__law_ties ["_law_script", "_law_rows_here", "_law_n"]) (d__law_formed : Dn K mg "_law_formed" s__law_formed ["_law_n", "_law_found"]) (d__law_a_tree : Dn K mg "_law_a_tree" s__law_a_tree ["_law_web", "_law_found"]) (d_law : Dn K mg "law" s_law ["_law_script"]) : FnOk P w K mg base CX0 15 d_law.f d_law.fd ["_law_script"] (spLaw K) := by
 have G__law_at : FnOk P w K mg base CX0 14 _ _ _ _ := (ok__law_at B d__law_at).mono (by decide)
 have G__law_rows : FnOk P w K mg base CX0 14 _ _ _ _ := (ok__law_rows B d__law_at d__law_rows).mono (by decide)
 have G__law_ties : FnOk P w K mg base CX0 14 _ _ _ _ := (ok__law_ties B d__law_at d__law_ties).mono (by decide)
 have G__law_formed : FnOk P w K mg base CX0 14 _ _ _ _ := (ok__law_formed B d__law_formed).mono (by decide)
 have G__law_a_tree : FnOk P w K mg base CX0 14 _ _ _ _ := (ok__law_a_tree B d__law_a_tree).mono (by decide)
 have G_steps_of : FnOk P w K mg base CX0 14 _ _ _ _ := ok_steps_of B Ct d_is_whole d_is_below d_is_set d_is_up d_row_fault d_place_fault d_tie_fault d_is_held d_apart_fault d_fault d_refuse_wide d_less d_are_crossed d_tidied d_steps_between d_steps_up_to d_steps_of
 have G_steps_fault : FnOk P w K mg base CX0 14 _ _ _ _ := (ok_steps_fault B U d_is_whole d_is_below d_joint d_less d_bag_behind d_run d_fault_behind d_steps_fault).mono (by decide)
 have G_bags_of : FnOk P w K mg base CX0 14 _ _ _ _ := (ok_bags_of B U d_is_whole d_is_below d_joint d_less d_bag_behind d_run d_fault_behind d_run_whole d_bags_of).mono (by decide)
 refine d_law.F.ok sc_law (fun vs H Q E h => ?_) (fun cdv A outer s H vs Q E hr h => ?_)
 ·obtain ⟨a, ns, rfl, _⟩ := h
  rfl
 obtain ⟨a, ns, rfl, hS, h63, q⟩ := h
 have hu : (A.deeper (PyProof.Rows.envOfC "law" (defScope s_law) s.heap.objs.size d_law.f cdv)).units + 64 < cLine := by have := hr.un; omega
 refine ⟨_, (pss_cons (ps_set (i := 1) sc_law.nd rfl (Or.inl rfl) (pe_op op_mod (pe_call G__law_at hr rfl d__law_at.m d__law_at.F.kp d__law_at.b .nil pass0 (pa_cons (pv 0) (pa_cons pe_int pa_nil))) pe_int))
   (pss_cons (ps_set (i := 2) sc_law.nd rfl (Or.inl rfl) (pe_call G__law_rows hr rfl d__law_rows.m d__law_rows.F.kp d__law_rows.b .nil pass0 (pa_cons (pv 0) (pa_cons (pv 1) pa_nil))))
   (pss_cons (ps_set (i := 3) sc_law.nd rfl (Or.inl rfl) (pe_tupN (pa_cons (pv 1) (pa_cons (pe_call G__law_ties hr rfl d__law_ties.m d__law_ties.F.kp d__law_ties.b .nil pass0 (pa_cons (pv 0) (pa_cons (pv 2) (pa_cons (pv 1) pa_nil)))) pa_nil))))
   (pss_cons (ps_set (i := 4) sc_law.nd rfl (Or.inl rfl) (pe_call G_steps_of hr rfl d_steps_of.m d_steps_of.F.kp d_steps_of.b .nil pass0 (pa_cons (pv 3) (pa_cons (pv 2) pa_nil))))
   (pss_cons (ps_if (pt_cmpR op_notN (pe_call G_steps_fault hr rfl d_steps_fault.m d_steps_fault.F.kp d_steps_fault.b .nil pass0 (pa_cons (pv 3) (pa_cons (pv 4) pa_nil))) pe_non (nomark _))
   (pss_one (ps_ret pe_bl))
   pss_nil)
   (pss_cons (ps_set (i := 5) sc_law.nd rfl (Or.inl rfl) (pe_call G_bags_of hr rfl d_bags_of.m d_bags_of.F.kp d_bags_of.b .nil pass0 (pa_cons (pv 3) (pa_cons (pv 4) pa_nil))))
   (pss_cons (ps_if (PW.pt (pw_or (pt_not (pt_truthK (K := K) rfl (pe_call G__law_formed hr rfl d__law_formed.m d__law_formed.F.kp d__law_formed.b .nil pass0 (pa_cons (pv 1) (pa_cons (pv 5) pa_nil))) (fun _ => rfl))) (pw_or (pt_not (pt_truthK (K := K) rfl (pe_call G__law_a_tree hr rfl d__law_a_tree.m d__law_a_tree.F.kp d__law_a_tree.b .nil pass0 (pa_cons (pv 3) (pa_cons (pv 5) pa_nil))) (fun _ => rfl))) (pw_or1 (pt_cmpR op_ne (pe_callB (call_lenK (K := K) rfl) rfl B.len (by decide +kernel) (pa_cons (pv 5) pa_nil)) (pe_callB (call_lenK (K := K) rfl) rfl B.len (by decide +kernel) (pa_cons (pv 4) pa_nil)) (nomark _))))))
   (pss_one (ps_ret pe_bl))
   pss_nil)
   (pss_cons (ps_set (i := 6) sc_law.nd rfl (Or.inl rfl) (pe_callB (call_maxL (K := K) rfl rfl) rfl B.max (by decide +kernel) (pa_cons (pe_lc ["_law_row"] [none]  (by kernel_rfl) rfl (pi_listK (K := K) rfl (pv 2)) (fun _ _ _ _ _ => (pg_name (i := 0) (show (["_law_row"] : List Str).Nodup by decide +kernel) rfl (Or.inl rfl))) (fun _ _ _ _ _ => pts_nil) (fun _ _ _ _ _ => (pe_callB (call_lenK (K := K) rfl) rfl B.len (by decide +kernel) (pa_cons (pe_ix (ix_tupK (K := K) rfl) (pv 0) pe_int (fun _ _ => rfl)) pa_nil)))) pa_nil)))
   (pss_one (ps_ret (pe_cmpR op_le (pe_callB (call_maxL (K := K) rfl rfl) rfl B.max (by decide +kernel) (pa_cons (pe_lc ["_law_row"] [none]  (by kernel_rfl) rfl (pi_listK (K := K) rfl (pv 5)) (fun _ _ _ _ _ => (pg_name (i := 0) (show (["_law_row"] : List Str).Nodup by decide +kernel) rfl (Or.inl rfl))) (fun _ _ _ _ _ => pts_nil) (fun _ _ _ _ _ => (pe_callB (call_lenK (K := K) rfl) rfl B.len (by decide +kernel) (pa_cons (pe_ix (ix_tupK (K := K) rfl) (pv 0) pe_int (fun _ _ => rfl)) pa_nil)))) pa_nil)) (pv 6) (nomark _)))))))))))), ?_⟩
 refine ⟨_, rfl, a, ns, 0, rfl, hS, h63, by decide, by decide, fun z0 => ⟨_, _, rfl, rfl, (show (0 : Int) < _ by decide), ?_⟩⟩
 have w0 := Int.emod_nonneg z0 (show (11 : Int) ≠ 0 by decide)
 have w1 := Int.emod_lt_of_pos z0 (show (0 : Int) < 11 by decide)
 obtain ⟨n, en⟩ : ∃ n : Nat, z0 % 11 = (n : Int) := ⟨(z0 % 11).toNat, by omega⟩
 dsimp only
 rw [en]
 have n10 : n ≤ 10 := by omega
 refine ⟨_, rfl, _, rfl, a, ns, n, rfl, hS, h63, n10, fun l xs2 rs2 H2 s2 f2 h2 p2 W2 asc2 r20 => ?_⟩
 have lx2 := Paired.length p2
 have pos := W2.T.pos
 refine ⟨_, rfl, _, rfl, _, rfl, _, rfl, a, l, ns, xs2, rs2, n, rfl, hS.same s2, h63, h2, p2, by omega, n10, fun r tx ts H3 s3 fr hr3 pt okt nd bi l45 => ⟨(by show 2 ≤ 1000; decide), fun pw H4 n4 => ?_⟩⟩
 have hl4 := n4.same _ _ (s3 _ _ h2)
 have pl4 := Paired.mapP p2 fun _ _ h => RowL.same (s3.trans n4.same) h
 have T := tree_rw W2 asc2 (by omega)
 have h4 := rw_4 W2
 have inb : ∀ t ∈ ts, ∃ r ∈ rs2, t.1 ∈ r.2 ∧ t.2 ∈ r.2 := fun t ht => both_row (bi t ht)
 have hr4 := n4.same _ _ hr3
 have pt4 := Paired.mapP pt fun _ _ h => TieL.same n4.same h
 have rV : ∀ {H' : Hp} {p : Addr} {vs : List V} {rr : List Row}, Paired (RowL p H') vs rr → Paired (RowV K H') vs rr := fun h => Paired.mapP h fun _ _ q => RowL.v q
 have tA : ∀ {H' : Hp}, Same H4 H' → TiesAt K H' r ts := fun {H'} s => ⟨tx, SqL.of (s _ _ hr4), Paired.mapP pt4 fun _ _ q => (TieL.same s q).v, by omega⟩
 have gA : ∀ {H' : Hp}, Same H4 H' → GraphV K H' (.ref pw) n ts := fun {H'} s => ⟨pw, r, rfl, SqT.of (s _ _ n4.here), tA s⟩
 refine ⟨_, rfl, _, rfl, .ref pw, n, ts, l, rs2, rfl, gA (Same.refl _), n10, ⟨xs2, SqL.of hl4, rV pl4, by omega⟩, T, h4, by omega, inb, fun pS uS H5 R sp s5 fS hS5 D qS => ?_⟩
 have gd := good55 T n10 D h4 nd (by omega) inb
 obtain ⟨ss, ess⟩ : ∃ ss, ss = stepsU ts R.length (upR R) (bagR R) 10 0 ++ (bagR R 0).map Stp.out := ⟨_, rfl⟩
 rw [← ess] at gd qS
 obtain ⟨l400, gA', G, Bb, eG, cov, mB⟩ := gd
 have okS := sf_ok n10 (gA' 4 h4) eG cov mB
 have lus := Paired.length qS
 refine ⟨_, rfl, _, rfl, .ref pw, n, ts, pS, uS, ss, rfl, gA s5, n10, SqL.of hS5, Paired.mapP qS fun _ _ h => h.v, by omega, fun v H6 s6 fv => ?_⟩
 rw [okS] at fv
 obtain rfl : v = .non := fv
 refine ⟨rfl, _, rfl, iteF ?_⟩
 have s46 := s5.trans s6
 refine ⟨_, rfl, _, rfl, .ref pw, n, ts, pS, uS, ss, rfl, gA s46, n10, SqL.of (s6 _ _ hS5), Paired.mapP qS fun _ _ h => (h.same s6).v, by omega, okS, fun f ps bs H7 s7 ff hf lps lbs nbs fbs nfb at7 => ?_⟩
 obtain ⟨pG, _⟩ := bags_rows lps at7
 have TB := fun M hM => rowsB_tree (wd := M) n10 (gA' M hM) eG cov mB
 have rl : (rowsB n ts ss).length = ss.length := rowsB_len n ts ss
 generalize rowsB n ts ss = rows at pG TB rl
 have s47 := s46.trans s7
 have TB4 := TB 4 h4
 refine ⟨_, rfl, _, rfl, f, _, rows, n, 4, ts, rfl, hf, pG, TB4, n10, by omega, fun H8 s8 => ⟨_, rfl, iteF ?_⟩⟩
 have s48 := s47.trans s8
 refine ⟨_, rfl, _, rfl, pw, r, f, tx, _, rows, n, 4, ts, rfl, s48 _ _ n4.here, s48 _ _ hr4, Paired.mapP pt4 fun _ _ q => TieL.same s48 q, s8 _ _ hf, Paired.mapP pG fun _ _ h => RowG.same s8 h, TB4, n10, by omega, fun H9 s9 => ⟨_, rfl, iteF ?_⟩⟩
 have s49 := s48.trans s9
 have s79 := s8.trans s9
 have hf9 := s79 _ _ hf
 have pG9 := Paired.mapP pG fun _ _ h => RowG.same s79 h
 have lG := Paired.length pG
 refine ⟨_, rfl, f, _, rfl, .inl (SqL.of hf9), _, rfl, pS, _, rfl, .inl (SqL.of (s79 _ _ (s7 _ _ (s6 _ _ hS5)))), rfl, _, rfl, ?_⟩
 rw [lG, lus, rl, decide_eq_true rfl]
 refine iteF ?_
 have gl : ∀ {v : V} {r : Row}, RowL l H4 v r → RowG H9 v r := fun {v r} h => by
  obtain ⟨p, b, e, h1, h2, _⟩ := RowL.same s49 h
  exact ⟨p, b, e, h1, h2⟩
 refine ⟨_, rfl, l, rfl, ⟨_, SqL.of (s49 _ _ hl4)⟩, ?_⟩
 refine lc_lens (s49 _ _ hl4) (Paired.mapP pl4 fun _ _ h => gl h) (by omega) (fun pt b r N _ hp hb hN => ?_) (fun pm H10 n10' => ?_)
 ·exact ⟨_, rfl, pt, _, _, _, rfl, rfl, SqT.of hp, rfl, b, _, rfl, .inl (SqL.of hb), by rw [List.length_map]; exact hN⟩
 refine ⟨pm, lensN rs2, rfl, SqL.of n10'.here, (by rw [List.length_map]; exact pos), fun M hM bM => ?_⟩
 have s010 := n10'.same
 refine ⟨_, rfl, f, rfl, ⟨_, SqL.of (s010 _ _ hf9)⟩, ?_⟩
 refine lc_lens (s010 _ _ hf9) (Paired.mapP pG9 fun _ _ h => RowG.same s010 h) (by omega) (fun pt b r N _ hp hb hN => ?_) (fun pm2 H11 n11 => ?_)
 ·exact ⟨_, rfl, pt, _, _, _, rfl, rfl, SqT.of hp, rfl, b, _, rfl, .inl (SqL.of hb), by rw [List.length_map]; exact hN⟩
 refine ⟨pm2, lensN rows, rfl, SqL.of n11.here, (by rw [List.length_map]; exact TB4.len), fun M2 hM2 bM2 => ?_⟩
 obtain ⟨r0, hr0, eM⟩ := List.mem_map.mp hM
 have hb : ∀ r ∈ rs2, r.2.length ≤ r0.2.length := fun r hr => by
  have := bM _ (List.mem_map.mpr ⟨r, hr, rfl⟩)
  rw [← eM] at this
  exact Int.ofNat_le.mp this
 have TM := TB _ hb
 have le : M2 ≤ M := by
  rw [← eM]
  refine maxN hM2 fun r hr => ?_
  obtain ⟨k, _, e⟩ := mem_rowAt hr
  have := TM.few k
  unfold bagR at this
  rw [e] at this
  exact this
 refine ⟨_, rfl, _, _, rfl, rfl, ?_⟩
 dsimp only
 rw [decide_eq_true le]
 exact q _
end
end K
open PySem PySem.W PyProof.Rows
def PySem.W.Fast.tw2160357554614797913 : Unit := ()
def PySem.W.Fast.tw15110277310817896963 : Unit := ()
def PySem.W.Fast.tw9663959018223498754 : Unit := ()
def PySem.W.Fast.tw4367719844900509747 : Unit := ()
def PySem.W.Fast.tw1586488822975246104 : Unit := ()
def PySem.W.Fast.tw10942064873310301168 : Unit := ()
def PySem.W.Fast.tw7978666295134570282 : Unit := ()
def PySem.W.Fast.tw12972972532776605750 : Unit := ()
def PySem.W.Fast.tw17637184060092890944 : Unit := ()
def PySem.W.Fast.tw3056731476033692759 : Unit := ()
def PySem.W.Fast.tw15735782332460580649 : Unit := ()
def PySem.W.Fast.tw13448329407015847615 : Unit := ()
def PySem.W.Fast.tw5478525394043453084 : Unit := ()
def PySem.W.Fast.tw11262931208672500212 : Unit := ()
def PySem.W.Fast.tw5444815141948694613 : Unit := ()
def PySem.W.Fast.tw18073564818585249569 : Unit := ()
def PySem.W.Fast.tw17631734641561254939 : Unit := ()
def PySem.W.Fast.tw3037655641322123627 : Unit := ()
def PySem.W.Fast.tw8194692755789220285 : Unit := ()
def PySem.W.Fast.tw13823465260889213014 : Unit := ()
def PySem.W.Fast.tw1729252611585809789 : Unit := ()
set_option maxRecDepth 100000 in
set_option maxHeartbeats 0 in
theorem PySem.Challenge.cw_bagwood_k58_whole_steps_and_trees_holds : PySem.Challenge.rw_bagwood_k58_whole_steps_and_trees.Holds := by
 w_on; o_law; k_head; (case hw => w_witness2)
 k_fill
 refine L2.walk_ofK (l := PySem.Challenge.rw_bagwood_k58_whole_steps_and_trees) (n := 63) (k := 15) (x := "_law_script") (CX := L2.CX0) (sp := Lw.spLaw) rfl (by decide) rfl ⟨rfl, by decide, by decide⟩ (fun w h Y => PySem.W.kIn_of Y) ?F ?S ?C
 case F =>
  intro w mg fa h KX G hmg
  have B : L2.Bl mg := by
   refine' L2.bl_mk KX G ?z1 ?z2 ?z3 ?z4 ?z5 ?z6 ?z7 ?z8 ?z9 ?z10 ?z11 ?z12 ?z13 ?z14 ?z15 ?z16 ?z17
   all_goals k_is
  have d_is_whole : Nonempty (L2.Dn (L2.KOf KX) mg "is_whole" K.s_is_whole ["thing"]) := by
   dsimp only [L2.KOf]
   refine' L2.dn_mk1 KX G ?a ?l ?c ?k rfl (fun _ _ _ _ _ _ _ => rfl)
   (case a => k_is); (case l => k_is); (case c => k_is); (case k => k_is)
  obtain ⟨d_is_whole⟩ := d_is_whole
  have d_is_below : Nonempty (L2.Dn (L2.KOf KX) mg "is_below" K.s_is_below ["n", "thing"]) := by
   dsimp only [L2.KOf]
   refine' L2.dn_mk2 KX G ?a ?l ?c ?k rfl (fun _ _ _ _ _ _ _ _ => rfl)
   (case a => k_is); (case l => k_is); (case c => k_is); (case k => k_is)
  obtain ⟨d_is_below⟩ := d_is_below
  have d_is_set : Nonempty (L2.Dn (L2.KOf KX) mg "is_set" K.s_is_set ["n", "places"]) := by
   dsimp only [L2.KOf]
   refine' L2.dn_mk2 KX G ?a ?l ?c ?k rfl (fun _ _ _ _ _ _ _ _ => rfl)
   (case a => k_is); (case l => k_is); (case c => k_is); (case k => k_is)
  obtain ⟨d_is_set⟩ := d_is_set
  have d_is_up : Nonempty (L2.Dn (L2.KOf KX) mg "is_up" K.s_is_up ["k", "up"]) := by
   dsimp only [L2.KOf]
   refine' L2.dn_mk2 KX G ?a ?l ?c ?k rfl (fun _ _ _ _ _ _ _ _ => rfl)
   (case a => k_is); (case l => k_is); (case c => k_is); (case k => k_is)
  obtain ⟨d_is_up⟩ := d_is_up
  have d_row_fault : Nonempty (L2.Dn (L2.KOf KX) mg "row_fault" K.s_row_fault ["n", "rows"]) := by
   dsimp only [L2.KOf]
   refine' L2.dn_mk2 KX G ?a ?l ?c ?k rfl (fun _ _ _ _ _ _ _ _ => rfl)
   (case a => k_is); (case l => k_is); (case c => k_is); (case k => k_is)
  obtain ⟨d_row_fault⟩ := d_row_fault
  have d_place_fault : Nonempty (L2.Dn (L2.KOf KX) mg "place_fault" K.s_place_fault ["n", "rows"]) := by
   dsimp only [L2.KOf]
   refine' L2.dn_mk2 KX G ?a ?l ?c ?k rfl (fun _ _ _ _ _ _ _ _ => rfl)
   (case a => k_is); (case l => k_is); (case c => k_is); (case k => k_is)
  obtain ⟨d_place_fault⟩ := d_place_fault
  have d_tie_fault : Nonempty (L2.Dn (L2.KOf KX) mg "tie_fault" K.s_tie_fault ["ties", "rows"]) := by
   dsimp only [L2.KOf]
   refine' L2.dn_mk2 KX G ?a ?l ?c ?k rfl (fun _ _ _ _ _ _ _ _ => rfl)
   (case a => k_is); (case l => k_is); (case c => k_is); (case k => k_is)
  obtain ⟨d_tie_fault⟩ := d_tie_fault
  have d_is_held : Nonempty (L2.Dn (L2.KOf KX) mg "is_held" K.s_is_held ["rows", "up", "v"]) := by
   dsimp only [L2.KOf]
   refine' L2.dn_mk3 KX G ?a ?l ?c ?k rfl (fun _ _ _ _ _ _ _ _ _ => rfl)
   (case a => k_is); (case l => k_is); (case c => k_is); (case k => k_is)
  obtain ⟨d_is_held⟩ := d_is_held
  have d_apart_fault : Nonempty (L2.Dn (L2.KOf KX) mg "apart_fault" K.s_apart_fault ["n", "rows"]) := by
   dsimp only [L2.KOf]
   refine' L2.dn_mk2 KX G ?a ?l ?c ?k rfl (fun _ _ _ _ _ _ _ _ => rfl)
   (case a => k_is); (case l => k_is); (case c => k_is); (case k => k_is)
  obtain ⟨d_apart_fault⟩ := d_apart_fault
  have d_fault : Nonempty (L2.Dn (L2.KOf KX) mg "fault" K.s_fault ["graph", "rows"]) := by
   dsimp only [L2.KOf]
   refine' L2.dn_mk2 KX G ?a ?l ?c ?k rfl (fun _ _ _ _ _ _ _ _ => rfl)
   (case a => k_is); (case l => k_is); (case c => k_is); (case k => k_is)
  obtain ⟨d_fault⟩ := d_fault
  have d_refuse_wide : Nonempty (L2.Dn (L2.KOf KX) mg "refuse_wide" K.s_refuse_wide ["bags"]) := by
   dsimp only [L2.KOf]
   refine' L2.dn_mk1 KX G ?a ?l ?c ?k rfl (fun _ _ _ _ _ _ _ => rfl)
   (case a => k_is); (case l => k_is); (case c => k_is); (case k => k_is)
  obtain ⟨d_refuse_wide⟩ := d_refuse_wide
  have d_less : Nonempty (L2.Dn (L2.KOf KX) mg "less" K.s_less ["one", "other"]) := by
   dsimp only [L2.KOf]
   refine' L2.dn_mk2 KX G ?a ?l ?c ?k rfl (fun _ _ _ _ _ _ _ _ => rfl)
   (case a => k_is); (case l => k_is); (case c => k_is); (case k => k_is)
  obtain ⟨d_less⟩ := d_less
  have d_are_crossed : Nonempty (L2.Dn (L2.KOf KX) mg "are_crossed" K.s_are_crossed ["one", "other"]) := by
   dsimp only [L2.KOf]
   refine' L2.dn_mk2 KX G ?a ?l ?c ?k rfl (fun _ _ _ _ _ _ _ _ => rfl)
   (case a => k_is); (case l => k_is); (case c => k_is); (case k => k_is)
  obtain ⟨d_are_crossed⟩ := d_are_crossed
  have d_tidied : Nonempty (L2.Dn (L2.KOf KX) mg "tidied" K.s_tidied ["tree"]) := by
   dsimp only [L2.KOf]
   refine' L2.dn_mk1 KX G ?a ?l ?c ?k rfl (fun _ _ _ _ _ _ _ => rfl)
   (case a => k_is); (case l => k_is); (case c => k_is); (case k => k_is)
  obtain ⟨d_tidied⟩ := d_tidied
  have d_steps_between : Nonempty (L2.Dn (L2.KOf KX) mg "steps_between" K.s_steps_between ["lower", "upper"]) := by
   dsimp only [L2.KOf]
   refine' L2.dn_mk2 KX G ?a ?l ?c ?k rfl (fun _ _ _ _ _ _ _ _ => rfl)
   (case a => k_is); (case l => k_is); (case c => k_is); (case k => k_is)
  obtain ⟨d_steps_between⟩ := d_steps_between
  have d_steps_up_to : Nonempty (L2.Dn (L2.KOf KX) mg "steps_up_to" K.s_steps_up_to ["graph", "rows", "k"]) := by
   dsimp only [L2.KOf]
   refine' L2.dn_mk3 KX G ?a ?l ?c ?k rfl (fun _ _ _ _ _ _ _ _ _ => rfl)
   (case a => k_is); (case l => k_is); (case c => k_is); (case k => k_is)
  obtain ⟨d_steps_up_to⟩ := d_steps_up_to
  have d_steps_of : Nonempty (L2.Dn (L2.KOf KX) mg "steps_of" K.s_steps_of ["graph", "tree"]) := by
   dsimp only [L2.KOf]
   refine' L2.dn_mk2 KX G ?a ?l ?c ?k rfl (fun _ _ _ _ _ _ _ _ => rfl)
   (case a => k_is); (case l => k_is); (case c => k_is); (case k => k_is)
  obtain ⟨d_steps_of⟩ := d_steps_of
  have d_joint : Nonempty (L2.Dn (L2.KOf KX) mg "joint" K.s_joint ["one", "other"]) := by
   dsimp only [L2.KOf]
   refine' L2.dn_mk2 KX G ?a ?l ?c ?k rfl (fun _ _ _ _ _ _ _ _ => rfl)
   (case a => k_is); (case l => k_is); (case c => k_is); (case k => k_is)
  obtain ⟨d_joint⟩ := d_joint
  have d_run : Nonempty (L2.Dn (L2.KOf KX) mg "run" K.s_run ["graph", "steps"]) := by
   dsimp only [L2.KOf]
   refine' L2.dn_mk2 KX G ?a ?l ?c ?k rfl (fun _ _ _ _ _ _ _ _ => rfl)
   (case a => k_is); (case l => k_is); (case c => k_is); (case k => k_is)
  obtain ⟨d_run⟩ := d_run
  have d_bag_behind : Nonempty (L2.Dn (L2.KOf KX) mg "bag_behind" K.s_bag_behind ["graph", "done", "step", "used"]) := by
   dsimp only [L2.KOf]
   refine' L2.dn_mk4 KX G ?a ?l ?c ?k rfl (fun _ _ _ _ _ _ _ _ _ _ => rfl)
   (case a => k_is); (case l => k_is); (case c => k_is); (case k => k_is)
  obtain ⟨d_bag_behind⟩ := d_bag_behind
  have d_fault_behind : Nonempty (L2.Dn (L2.KOf KX) mg "fault_behind" K.s_fault_behind ["graph", "steps", "tops", "pile"]) := by
   dsimp only [L2.KOf]
   refine' L2.dn_mk4 KX G ?a ?l ?c ?k rfl (fun _ _ _ _ _ _ _ _ _ _ => rfl)
   (case a => k_is); (case l => k_is); (case c => k_is); (case k => k_is)
  obtain ⟨d_fault_behind⟩ := d_fault_behind
  have d_steps_fault : Nonempty (L2.Dn (L2.KOf KX) mg "steps_fault" K.s_steps_fault ["graph", "steps"]) := by
   dsimp only [L2.KOf]
   refine' L2.dn_mk2 KX G ?a ?l ?c ?k rfl (fun _ _ _ _ _ _ _ _ => rfl)
   (case a => k_is); (case l => k_is); (case c => k_is); (case k => k_is)
  obtain ⟨d_steps_fault⟩ := d_steps_fault
  have d_run_whole : Nonempty (L2.Dn (L2.KOf KX) mg "run_whole" K.s_run_whole ["graph", "steps"]) := by
   dsimp only [L2.KOf]
   refine' L2.dn_mk2 KX G ?a ?l ?c ?k rfl (fun _ _ _ _ _ _ _ _ => rfl)
   (case a => k_is); (case l => k_is); (case c => k_is); (case k => k_is)
  obtain ⟨d_run_whole⟩ := d_run_whole
  have d_bags_of : Nonempty (L2.Dn (L2.KOf KX) mg "bags_of" K.s_bags_of ["graph", "steps"]) := by
   dsimp only [L2.KOf]
   refine' L2.dn_mk2 KX G ?a ?l ?c ?k rfl (fun _ _ _ _ _ _ _ _ => rfl)
   (case a => k_is); (case l => k_is); (case c => k_is); (case k => k_is)
  obtain ⟨d_bags_of⟩ := d_bags_of
  have d__law_at : Nonempty (L2.Dn (L2.KOf KX) mg "_law_at" K.s__law_at ["_law_script", "_law_k"]) := by
   dsimp only [L2.KOf]
   refine' L2.dn_mk2 KX G ?a ?l ?c ?k rfl (fun _ _ _ _ _ _ _ _ => rfl)
   (case a => k_is); (case l => k_is); (case c => k_is); (case k => k_is)
  obtain ⟨d__law_at⟩ := d__law_at
  have d__law_rows : Nonempty (L2.Dn (L2.KOf KX) mg "_law_rows" K.s__law_rows ["_law_script", "_law_n"]) := by
   dsimp only [L2.KOf]
   refine' L2.dn_mk2 KX G ?a ?l ?c ?k rfl (fun _ _ _ _ _ _ _ _ => rfl)
   (case a => k_is); (case l => k_is); (case c => k_is); (case k => k_is)
  obtain ⟨d__law_rows⟩ := d__law_rows
  have d__law_ties : Nonempty (L2.Dn (L2.KOf KX) mg "_law_ties" K.s__law_ties ["_law_script", "_law_rows_here", "_law_n"]) := by
   dsimp only [L2.KOf]
   refine' L2.dn_mk3 KX G ?a ?l ?c ?k rfl (fun _ _ _ _ _ _ _ _ _ => rfl)
   (case a => k_is); (case l => k_is); (case c => k_is); (case k => k_is)
  obtain ⟨d__law_ties⟩ := d__law_ties
  have d__law_formed : Nonempty (L2.Dn (L2.KOf KX) mg "_law_formed" K.s__law_formed ["_law_n", "_law_found"]) := by
   dsimp only [L2.KOf]
   refine' L2.dn_mk2 KX G ?a ?l ?c ?k rfl (fun _ _ _ _ _ _ _ _ => rfl)
   (case a => k_is); (case l => k_is); (case c => k_is); (case k => k_is)
  obtain ⟨d__law_formed⟩ := d__law_formed
  have d__law_a_tree : Nonempty (L2.Dn (L2.KOf KX) mg "_law_a_tree" K.s__law_a_tree ["_law_web", "_law_found"]) := by
   dsimp only [L2.KOf]
   refine' L2.dn_mk2 KX G ?a ?l ?c ?k rfl (fun _ _ _ _ _ _ _ _ => rfl)
   (case a => k_is); (case l => k_is); (case c => k_is); (case k => k_is)
  obtain ⟨d__law_a_tree⟩ := d__law_a_tree
  have d_law : Nonempty (L2.Dn (L2.KOf KX) mg "law" K.s_law ["_law_script"]) := by
   dsimp only [L2.KOf]
   refine' L2.dn_mk1 KX G ?a ?l ?c ?k rfl (fun _ _ _ _ _ _ _ => rfl)
   (case a => k_is); (case l => k_is); (case c => k_is); (case k => k_is)
  obtain ⟨d_law⟩ := d_law
  have U : Nonempty (L2.Used w (L2.KOf KX) mg) := by
   dsimp only [L2.KOf]
   refine' L2.used_mk KX G ?a ?l ?c
   (case a => k_is); (case l => k_is); (case c => exact ⟨_, _, _, _, _, _, _, _, _, _, rfl⟩)
  obtain ⟨U⟩ := U
  have Ct : Nonempty (K.Cts mg) := by
   refine' K.cts_mk KX G ?aMOST_IN_A_BAG
   (case aMOST_IN_A_BAG => k_is)
  obtain ⟨Ct⟩ := Ct
  exact L2.law_at hmg d_law fun base => K.ok_law B U Ct d_is_whole d_is_below d_is_set d_is_up d_row_fault d_place_fault d_tie_fault d_is_held d_apart_fault d_fault d_refuse_wide d_less d_are_crossed d_tidied d_steps_between d_steps_up_to d_steps_of d_joint d_run d_bag_behind d_fault_behind d_steps_fault d_run_whole d_bags_of d__law_at d__law_rows d__law_ties d__law_formed d__law_a_tree d_law
 case S => exact fun K H a ns hl hO hS => ⟨a, ns, rfl, Lw.Scr.of hO hS, hl, fun _ => rfl⟩
 case C => exact fun _ _ _ _ z => z
