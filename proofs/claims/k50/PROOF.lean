import PyProof.Rows.All
import Wide.All
import OpenK.AllK
import Wide.FinOn
import Lean
import PyProof.EqAt
import PyProof.EqKinds
import PyProof.TupleCall
import PyProof.SetScanFacts
import PyProof.SetKind
import PyProof.DictKinds
import PyProof.FactsAll.set_0
import PyProof.FactsAll.set_1
import PyProof.FactsAll.set_2
import PyProof.FactsAll.set_3
import PyProof.FactsSeq
import PyProof.CollectWalk
import PyProof.ListRange
import PyProof.ZipIter
import PyProof.MeetsSeq
import PyProof.IsRules
import PyProof.Rows.ZipGen
import PyProof.SumWalkG
import PyProof.DictWalks
import PyProof.Rows.SortShell
import PyProof.Rows.SetFrom
import PyProof.SetRoads
import KE.KIntText
import KE.IntTextLaws
import PyProof.StrWalks
import PyProof.StrOps2
import PyProof.SliceStr2
import PyProof.PureStr
import PyProof.StrCalls3
import PyProof.Rows.StrMadeLen
import PyProof.StrLawsIn
import PySem.Challenge.RW_bagwood_k50_whole_four_in_a_bag
set_option Elab.async false
set_option linter.all false
set_option maxRecDepth 100000
local macro_rules | `(tactic| omega) => `(tactic| first | lia | omega (config := {}))
abbrev Φρ:=PySem.W.Frag
abbrev ζζ:=Int × Int
theorem τα {α:Type} {l:List α} {i:Nat} {a:α}:l.getD i a = l[i]?.getD a:=List.getD_eq_getElem?_getD ..
namespace L2
open PySem PySem.Spec PyProof.Rows
abbrev Key:=Sum Int Str
def c8B:Key->Value->Bool
 | .inl k,v=>Value.isInt k v
 | .inr x,v=>Value.isStrOf x v
def keyH (w:World):Key->Int
 | .inl k=>hashInt k
 | .inr x=>hashStr w x
theorem a1N:∀ {k:Key} {v:Value},c8B k v = true->(∃ i t,k = Sum.inl i/\v = Value.int i t)\/(∃ x t,k = Sum.inr x/\v = Value.str x t)
 | .inl i,v,h=>by
  obtain ⟨t,e⟩:=Value.isInt_shape (k:=i) (v:=v) h
  exact .inl ⟨i,t,rfl,e⟩
 | .inr x,v,h=>by
  obtain ⟨t,e⟩:=Value.isStrOf_shape (x:=x) (v:=v) h
  exact .inr ⟨x,t,rfl,e⟩
theorem c8C (a b:Int):decide ((Sum.inl a:Key) = Sum.inl b) = (a == b):=by
 by_cases e:a = b
 ·subst e; simp
 ·have h:¬ (Sum.inl a:Key) = Sum.inl b:=λ q=>e (Sum.inl.inj q)
  rw [decide_eq_false h]
  exact (beq_eq_false_iff_ne.mpr e).symm
theorem c8D (a b:Str):decide ((Sum.inr a:Key) = Sum.inr b) = decide (a = b):=by
 by_cases e:a = b
 ·subst e; simp
 ·have h:¬ (Sum.inr a:Key) = Sum.inr b:=λ q=>e (Sum.inr.inj q)
  rw [decide_eq_false h,decide_eq_false e]
theorem c8E (a:Int) (b:Str):decide ((Sum.inl a:Key) = Sum.inr b) = false:=decide_eq_false (λ q=>nomatch q)
theorem c8F (a:Str) (b:Int):decide ((Sum.inr a:Key) = Sum.inl b) = false:=decide_eq_false (λ q=>nomatch q)
def b2G (prog:Program) (w:World):PySem.KeyKind prog w Key where
 is:=c8B
 hash:=keyH w
 inj:=λ v a b ha hb=>by
  rcases a1N ha with ⟨i,t,rfl,rfl⟩ | ⟨x,t,rfl,rfl⟩
  ·rcases a1N hb with ⟨j,u,rfl,e⟩ | ⟨y,u,rfl,e⟩
   ·injection e with e1 _; rw [e1]
   ·exact nomatch e
  ·rcases a1N hb with ⟨j,u,rfl,e⟩ | ⟨y,u,rfl,e⟩
   ·exact nomatch e
   ·injection e with e1 _; rw [e1]
 byValue:=λ k v h=>by
  rcases a1N h with ⟨i,t,rfl,rfl⟩ | ⟨x,t,rfl,rfl⟩ <;> rfl
 pyHash:=λ hv h=>by
  rcases a1N hv with ⟨i,t,rfl,rfl⟩ | ⟨x,t,rfl,rfl⟩
  ·exact wpAny_pyHash_int h
  ·exact wpAny_pyHash_str h
 eqBool:=λ hu hv h=>by
  rcases a1N hu with ⟨i,t,rfl,rfl⟩ | ⟨x,t,rfl,rfl⟩
  ·rcases a1N hv with ⟨j,u,rfl,rfl⟩ | ⟨y,u,rfl,rfl⟩
   ·rw [c8C] at h; exact wpAny_eqBool_int h
   ·rw [c8E] at h; exact SeqAt.EqAt.int_str i t y u _ _ _ _ h
  ·rcases a1N hv with ⟨j,u,rfl,rfl⟩ | ⟨y,u,rfl,rfl⟩
   ·rw [c8F] at h; exact SeqAt.EqAt.str_int x t j u _ _ _ _ h
   ·rw [c8D] at h; exact wpAny_eqBool_str h
 «strs» := λ k x t v h=>by
  rcases a1N h with ⟨i,u,rfl,e⟩ | ⟨y,u,rfl,e⟩
  ·exact nomatch e
  ·injection e with e1 _
   subst e1
   cases v <;> rfl
end L2
namespace L2
open PySem PySem.Spec PyProof.Rows
inductive V where
 | non | bl (b:Bool) | int (i:Int) | str (x:Str) | byt (b:Array UInt8) | flt (b:UInt64) | ref (a:Addr) | ty (n:String)
 deriving DecidableEq
def RelV:V->Value->Prop
 | .non,u=>u = Value.none
 | .bl b,u=>u = Value.bool b
 | .int i,u=>∃ t,u = Value.int i t
 | .str x,u=>∃ t,u = Value.str x t
 | .byt b,u=>∃ t,u = Value.bytes b t
 | .flt b,u=>∃ t,u = Value.float b t
 | .ref a,u=>u = Value.ref a
 | .ty n,u=>u = Value.type n
abbrev Vals:List V->List Value->Prop:=Paired RelV
theorem Vals.length {xs:List V} {us:List Value} (r:Vals xs us):xs.length = us.length:=Paired.length r
theorem Vals.get:∀ {xs:List V} {us:List Value} {i:Nat} {x:V},Vals xs us->xs[i]? = some x->∃ u,us[i]? = some u/\RelV x u
 | _,_,_,_,.nil,e=>by simp at e
 | _,_,0,_,.cons r _,e=>by simp at e; subst e; exact ⟨_,rfl,r⟩
 | _,_,i + 1,x,.cons _ t,e=>by
  obtain ⟨u,h1,h2⟩:=Vals.get (i:=i) (x:=x) t (by simpa using e)
  exact ⟨u,by simpa using h1,h2⟩
theorem Vals.set {x:V} {u:Value} (r:RelV x u):∀ {xs:List V} {us:List Value} (i:Nat),Vals xs us->Vals (xs.set i x) (us.set i u)
 | _,_,_,.nil=>.nil
 | _,_,0,.cons _ t=>.cons r t
 | _,_,i + 1,.cons q t=>.cons q (Vals.set r i t)
theorem Vals.append:∀ {xs ys:List V} {us ws:List Value},Vals xs us->Vals ys ws->Vals (xs ++ ys) (us ++ ws)
 | _,_,_,_,.nil,s=>s
 | _,_,_,_,.cons r t,s=>.cons r (Vals.append t s)
theorem Vals.take:∀ {xs:List V} {us:List Value} (n:Nat),Vals xs us->Vals (xs.take n) (us.take n)
 | _,_,0,_=>.nil
 | _,_,_ + 1,.nil=>.nil
 | _,_,n + 1,.cons r t=>.cons r (Vals.take n t)
theorem Vals.drop:∀ {xs:List V} {us:List Value} (n:Nat),Vals xs us->Vals (xs.drop n) (us.drop n)
 | _,_,0,r=>r
 | _,_,_ + 1,.nil=>.nil
 | _,_,n + 1,.cons _ t=>Vals.drop n t
def RelO:Option V->Option Value->Prop
 | some v,some u=>RelV v u
 | none,none=>True
 | _,_=>False
def KV {κ:Type}:List (κ × V)->List (κ × Value)->Prop:=Paired λ (p:κ × V) (q:κ × Value)=>p.1 = q.1/\RelV p.2 q.2
def kV:Key->V
 | .inl i=>.int i
 | .inr x=>.str x
inductive HO where
  | lst (xs:List V)
  | tup (xs:List V)
  | dK (kvs:List (Key × V)) | dT (kvs:List (List Key × V))
  | set (S:Int->Bool) (n:Nat)
  | ins (C dx:Addr) (fs:List (Str × V))
  | own (x:Addr)
  | xd (fs:List (Str × V))
  | met (f x:Addr)
  | rng (lo hi:Int)
  | frz (o:Obj) (u:HO)
  | tbl (ps:Array Value)
  | ext (φ:Heap->Prop)
abbrev Hp:=Addr->Option HO
def upd (H:Hp) (a:Addr) (o:HO):Hp:=λ b=>if b = a then some o else H b
theorem a4M {H:Hp} {a:Addr} {o:HO}:upd H a o a = some o:=by unfold upd; rw [if_pos rfl]
theorem a1M {H:Hp} {a b:Addr} {o:HO} (h:b ≠ a):upd H a o b = H b:=by unfold upd; rw [if_neg h]
theorem c8G {H:Hp} {a b:Addr} {o u:HO} (h:H a = some o) (h':H b = some u) (d:o ≠ u):a ≠ b:=by
 intro e; subst e; rw [h] at h'; exact d (Option.some.inj h')
theorem a1C {H:Hp} {a b:Addr} {o:HO} (h:H a = some o) (h':H b = none):a ≠ b:=by
 intro e; subst e; rw [h] at h'; cases h'
section
variable (P:Program) (w:World)
def ObjOk (H:Hp) (h:Heap) (a:Addr):HO->Prop
 | .lst xs=>xs.length <= sizeLine/\∃ (its:List Value) (n:Nat),Vals xs its/\h.get? a = some { cls:=.type "list", data:=.seq its.toArray n }
 | .tup xs=>xs.length <= sizeLine/\∃ its:List Value,Vals xs its/\IsTup h a its.toArray
 | .dK kvs=>kvs.length <= sizeLine/\(a == sysModules) = false/\∃ vs,KV kvs vs/\h.DictOf (b2G P w) a vs
 | .dT kvs=>kvs.length <= sizeLine/\(a == sysModules) = false/\∃ xs:List (List Key × Addr × Value),
   Paired (λ (p:List Key × V) (q:List Key × Addr × Value)=>p.1 = q.1/\H q.2.1 = some (.tup (p.1.map kV))/\RelV p.2 q.2.2) kvs xs /\
   ∃ o es ep,h.get? a = some o/\o.ExactDict/\o.data = .dict es ep/\es.toList = xs.map (entryOfKey (tupleKind (b2G P w)))/\(xs.map (·.1)).Nodup
 | .set S n=>h.SetOf (intKind P w) a S n
 | .ins C dx fs=>H dx = some (.own a)/\fs.length <= 1000/\dx ≠ a/\h.get? a = some (PySem.W.instObj C dx) /\
   ∃ mA,h.Ns1 dx mA/\(∀ f,RelO (fs.lookup f) (mA f))/\PySem.Within mA (fs.map (·.1))
 | .own _=>∃ o,h.get? a = some o
 | .xd fs=>∃ mA,h.Ns1 a mA/\∀ f,RelO (fs.lookup f) (mA f)
 | .rng lo hi=>∃ t u v,h.get? a = some { cls:=.type "range", data:=.fields #[.int lo t,.int hi u,.int 1 v] }
 | .frz o u=>h.get? a = some o/\ObjOk H h a u
 | .tbl ps=>h.get? a = some { cls:=.none,data:=.fields ps }
 | .met f x=>h.get? a = some (PySem.W.methodObj (.ref f) (.ref x))
 | .ext φ=>φ h/\(∃ o,h.get? a = some o)/\∀ h1 h2:Heap,φ h1->(∀ o,h1.get? a = some o->h2.get? a = some o)->φ h2
def HOk (H:Hp) (h:Heap):Prop:=∀ a o,H a = some o->ObjOk P w H h a o
end
section
variable {P:Program} {w:World} {H H':Hp} {h h':Heap} {a:Addr} {o:HO}
theorem ObjOk.lt (x:ObjOk P w H h a o):a < h.objs.size:=by
 cases o with
 | lst xs=>obtain ⟨_,_,_,_,e⟩:=x; exact Heap.lt_size e
 | tup xs=>obtain ⟨_,_,_,p⟩:=x; exact p.lt
 | dK kvs=>obtain ⟨_,_,_,_,o,_,_,e,_⟩:=x; exact Heap.lt_size e
 | dT kvs=>obtain ⟨_,_,_,_,o,_,_,e,_⟩:=x; exact Heap.lt_size e
 | set S n=>obtain ⟨o,_,_,_,e,_⟩:=x; exact Heap.lt_size e
 | ins C dx fs=>obtain ⟨_,_,_,e,_⟩:=x; exact Heap.lt_size e
 | own y=>obtain ⟨_,e⟩:=x; exact Heap.lt_size e
 | xd fs=>obtain ⟨_,⟨_,_,_,e,_⟩,_⟩:=x; exact Heap.lt_size e
 | rng lo hi=>obtain ⟨_,_,_,e⟩:=x; exact Heap.lt_size e
 | frz ob u=>obtain ⟨e,_⟩:=x; exact Heap.lt_size e
 | tbl ps=>exact Heap.lt_size (show h.get? a = some _ from x)
 | met f y=>exact Heap.lt_size (show h.get? a = some _ from x)
 | ext φ=>obtain ⟨_,⟨_,e⟩,_⟩:=x; exact Heap.lt_size e
theorem Paired.mapP {α β:Type} {F G:α->β->Prop}:∀ {l₁:List α} {l₂:List β},Paired F l₁ l₂->(∀ a b,F a b->G a b)->Paired G l₁ l₂
 | _,_,.nil,_=>.nil
 | _,_,.cons r t,f=>.cons (f _ _ r) (Paired.mapP t f)
theorem ObjOk.stay (x:ObjOk P w H h a o) (k:∀ b u,(b = a\/H b = some (.own a))->h.get? b = some u->h'.get? b = some u)
  (ho:∀ b,H b = some (.own a)->H' b = some (.own a)) (ht:∀ b xs,H b = some (.tup xs)->H' b = some (.tup xs)):ObjOk P w H' h' a o:=by
 induction o with
 | lst xs=>obtain ⟨z,its,n,r,e⟩:=x; exact ⟨z,its,n,r,k _ _ (.inl rfl) e⟩
 | tup xs=>obtain ⟨z,its,r,ob,e,c⟩:=x; exact ⟨z,its,r,ob,k _ _ (.inl rfl) e,c⟩
 | dK kvs=>obtain ⟨z,y,vs,r,ob,es,ep,e,c⟩:=x; exact ⟨z,y,vs,r,ob,es,ep,k _ _ (.inl rfl) e,c⟩
 | dT kvs =>
  obtain ⟨z,y,xs,r,ob,es,ep,e,c⟩:=x
  exact ⟨z,y,xs,Paired.mapP r λ p q z=>⟨z.1,ht _ _ z.2.1,z.2.2⟩,ob,es,ep,k _ _ (.inl rfl) e,c⟩
 | set S n=>obtain ⟨ob,es,ep,t,e,c⟩:=x; exact ⟨ob,es,ep,t,k _ _ (.inl rfl) e,c⟩
 | ins C dx fs =>
  obtain ⟨d,z,ne,e,mA,⟨od,es,ep,e2,c⟩,r⟩:=x
  exact ⟨ho _ d,z,ne,k _ _ (.inl rfl) e,mA,⟨od,es,ep,k _ _ (.inr d) e2,c⟩,r⟩
 | own y=>obtain ⟨ob,e⟩:=x; exact ⟨ob,k _ _ (.inl rfl) e⟩
 | xd fs=>obtain ⟨mA,⟨od,es,ep,e,c⟩,r⟩:=x; exact ⟨mA,⟨od,es,ep,k _ _ (.inl rfl) e,c⟩,r⟩
 | rng lo hi=>obtain ⟨t,u,v,e⟩:=x; exact ⟨t,u,v,k _ _ (.inl rfl) e⟩
 | frz ob u ih=>obtain ⟨e,q⟩:=x; exact ⟨k _ _ (.inl rfl) e,ih q⟩
 | tbl ps =>
  have e:h.get? a = some { cls:=.none,data:=.fields ps }:=x
  show h'.get? a = some { cls:=.none,data:=.fields ps }
  exact k a _ (.inl rfl) e
 | met f y =>
  have e:h.get? a = some (PySem.W.methodObj (.ref f) (.ref y)):=x
  show h'.get? a = some (PySem.W.methodObj (.ref f) (.ref y))
  exact k a _ (.inl rfl) e
 | ext φ=>obtain ⟨p,⟨o,e⟩,st⟩:=x; exact ⟨st _ _ p λ o q=>k _ _ (.inl rfl) q,⟨o,k _ _ (.inl rfl) e⟩,st⟩
theorem HOk.lt (x:HOk P w H h) (e:H a = some o):a < h.objs.size:=(x a o e).lt
theorem HOk.fresh (x:HOk P w H h) (e:h.objs.size <= a):H a = none:=by
 cases q:H a with
 | none=>rfl
 | some u=>exact absurd (Nat.lt_of_lt_of_le (x.lt q) e) (Nat.lt_irrefl _)
theorem HOk.kept (x:HOk P w H h) (k:∀ b u,h.get? b = some u->h'.get? b = some u):HOk P w H h':=λ a o e =>
 (x a o e).stay (λ b u _ q=>k b u q) (λ _ q=>q) λ _ _ q=>q
theorem HOk.laid (x:HOk P w H h) (k:∀ b u,h.get? b = some u->h'.get? b = some u) (hp:h.objs.size <= a) (new:ObjOk P w (upd H a o) h' a o):HOk P w (upd H a o) h':=λ b u e=>by
 have hn:=x.fresh hp
 by_cases hb:b = a
 ·subst hb; rw [a4M] at e; cases e; exact new
 ·rw [a1M hb] at e
  exact (x b u e).stay (λ c v _ q=>k c v q) (λ c q=>by rw [a1M (a1C q hn)]; exact q) λ c xs q=>by rw [a1M (a1C q hn)]; exact q
end
def Rd (H:Hp) (a:Addr) (u:HO):Prop:=H a = some u\/∃ o,H a = some (.frz o u)
theorem Rd.ok {P:Program} {w:World} {H:Hp} {h:Heap} {a:Addr} {u:HO} (r:Rd H a u) (x:HOk P w H h):ObjOk P w H h a u:=by
 rcases r with r | ⟨o,r⟩
 ·exact x a u r
 ·obtain ⟨_,q⟩:=x a _ r
  exact q
def Mut:Option HO->Prop
 | some (.lst _)=>True
 | some (.dK _)=>True
 | some (.dT _)=>True
 | some (.set _ _)=>True
 | some (.ins _ _ _)=>True
 | some (.ext _)=>True
 | _=>False
section
variable {P:Program} {w:World} {H:Hp} {h h':Heap} {x e:Addr} {o':HO}
theorem HOk.write (ok:HOk P w H h) (mu:Mut (H x)) (he:e = x\/H e = some (.own x)) (k:∀ b u,b ≠ e->h.get? b = some u->h'.get? b = some u) (heo:∃ u,h'.get? e = some u)
  (new:ObjOk P w (upd H x o') h' x o'):HOk P w (upd H x o') h':=λ b u q=>by
 have nown:∀ c y,H c = some (.own y)->c ≠ x:=λ c y r z=>by subst z; rw [r] at mu; exact mu
 have ntup:∀ c xs,H c = some (.tup xs)->c ≠ x:=λ c xs r z=>by subst z; rw [r] at mu; exact mu
 by_cases hb:b = x
 ·subst hb; rw [a4M] at q; cases q; exact new
 ·rw [a1M hb] at q
  by_cases hbe:b = e
  ·have q':H b = some (.own x):=by
    rcases he with z | z
    ·exact absurd (hbe.trans z) hb
    ·rw [hbe]; exact z
   rw [q] at q'; cases q'
   obtain ⟨v,hv⟩:=heo
   exact ⟨v,by rw [hbe]; exact hv⟩
  ·refine (ok b u q).stay (λ c v hc r=>k c v ?_ r) (λ c r=>by rw [a1M (nown c b r)]; exact r) λ c xs r=>by rw [a1M (ntup c xs r)]; exact r
   rcases hc with rfl | hc
   ·exact hbe
   ·rintro rfl
    rcases he with z | z
    ·exact nown c b hc z
    ·rw [hc] at z; cases z; exact hb rfl
end
structure Un (fs ex:List Addr) (H H':Hp) (h h':Heap):Prop where
 keep:∀ b o,h.get? b = some o->H b = none->b ∉ fs->b ∉ ex->h'.get? b = some o
 slot:∀ b o,h.get? b = some o->H b = none->b ∈ fs->b ∉ ex->∃ sl,h'.get? b = some { o with slots:=sl }
 free:∀ b o,h.get? b = some o->H b = none->b ∉ ex->H' b = none
 there:∀ b o,h.get? b = some o->b ∉ ex->∃ o',h'.get? b = some o'
 tups:∀ b xs,H b = some (.tup xs)->H' b = some (.tup xs)
 frzs:∀ b o u,H b = some (.frz o u)->H' b = some (.frz o u)
 tbls:∀ b ps,H b = some (.tbl ps)->∃ more,H' b = some (.tbl (ps ++ more))
section
variable {fs fs' ex ex':List Addr} {H H1 H2:Hp} {h h1 h2 h':Heap} {a x e:Addr} {o:HO}
theorem Un.any (u:Un fs ex H H1 h h1) {b:Addr} {ob:Obj} (q:h.get? b = some ob) (n:H b = none) (hx:b ∉ ex):∃ sl,h1.get? b = some { ob with slots:=sl }:=by
 by_cases hb:b ∈ fs
 ·exact u.slot b ob q n hb hx
 ·exact ⟨ob.slots,u.keep b ob q n hb hx⟩
theorem Un.kept (k:∀ b u,h.get? b = some u->h'.get? b = some u):Un fs ex H H h h' :=
 ⟨λ b ob q _ _ _=>k b ob q,λ b ob q _ _ _=>⟨ob.slots,k b ob q⟩,λ _ _ _ n _=>n,λ b ob q _=>⟨ob,k b ob q⟩,λ _ _ q=>q,λ _ _ _ q=>q,λ _ ps q=>⟨#[],by rw [q]; simp⟩⟩
theorem Un.refl:Un fs ex H H h h:=Un.kept λ _ _ q=>q
theorem Un.laid (k:∀ b u,h.get? b = some u->h'.get? b = some u) (hp:h.objs.size <= a) (hn:H a = none):Un fs ex H (upd H a o) h h' where
 keep:=λ b u q _ _ _=>k b u q
 slot:=λ b u q _ _ _=>⟨u.slots,k b u q⟩
 free:=λ b u q n _=>by rw [a1M (Nat.ne_of_lt (Nat.lt_of_lt_of_le (Heap.lt_size q) hp))]; exact n
 there:=λ b u q _=>⟨u,k b u q⟩
 tups:=λ b xs q=>by rw [a1M (a1C q hn)]; exact q
 frzs:=λ b u xs q=>by rw [a1M (a1C q hn)]; exact q
 tbls:=λ b ps q=>⟨#[],by rw [a1M (a1C q hn),q]; simp⟩
theorem Un.write (mu:Mut (H x)) (he:e = x\/H e = some (.own x)) (k:∀ b u,b ≠ e->h.get? b = some u->h'.get? b = some u) (heo:∃ u,h'.get? e = some u):Un fs ex H (upd H x o) h h':=by
 have hx:∀ b,H b = none->b ≠ x:=λ b n z=>by subst z; rw [n] at mu; exact mu
 have hb:∀ b,H b = none->b ≠ e:=λ b n z=>by
  subst z
  rcases he with r | r
  ·exact hx b n r
  ·rw [n] at r; cases r
 have hm:∀ b u,H b = some u->¬ Mut (some u)->b ≠ x:=λ b u q nm z=>by subst z; rw [q] at mu; exact nm mu
 refine ⟨λ b u q n _ _=>k b u (hb b n) q,λ b u q n _ _=>⟨u.slots,k b u (hb b n) q⟩,λ b u q n _=>by rw [a1M (hx b n)]; exact n,λ b u q _=>?_,
  λ b xs q=>by rw [a1M (hm b _ q λ z=>z)]; exact q,λ b u xs q=>by rw [a1M (hm b _ q λ z=>z)]; exact q,λ b ps q=>⟨#[],by rw [a1M (hm b _ q λ z=>z),q]; simp⟩⟩
 by_cases hbe:b = e
 ·subst hbe; exact heo
 ·exact ⟨u,k b u hbe q⟩
end
def trk (h:Heap) (H:Hp):List Addr:=(List.range h.objs.size).filter λ a=>(H a).isSome
def hidT (h:Heap) (H:Hp):Heap:=PySem.W.hideAll h (trk h H)
theorem b6R (h:Heap) (H:Hp):(hidT h H).objs.size = h.objs.size:=PySem.W.hideAll_size _ _
theorem c1M {h:Heap} {H:Hp} {b:Addr} {o:Obj} (e:h.get? b = some o) (n:H b = none):(hidT h H).get? b = some o :=
 PySem.W.hideAll_get _ e λ hm=>by
  have q:(H b).isSome = true:=(List.mem_filter.mp hm).2
  rw [n] at q; simp at q
theorem c5A {h:Heap} {H:Hp} {b:Addr} {o:Obj} (e:(hidT h H).get? b = some o):h.get? b = some o/\H b = none:=by
 have e':h.get? b = some o:=PySem.W.of_hideAll (trk h H) e
 refine ⟨e',?_⟩
 cases q:H b with
 | none=>rfl
 | some x =>
  have hm:b ∈ trk h H:=List.mem_filter.mpr ⟨List.mem_range.mpr (Heap.lt_size e'),by simp [q]⟩
  have z:(hidT h H).get? b = none:=PySem.W.hideAll_none (trk h H) hm
  rw [z] at e; cases e
end L2
namespace L2
open PySem PySem.Spec PyProof.Rows
structure Mod (K:Φρ) (mg:Str->Option Value) (base:Heap):Prop where
 kin:K.In base
 glob:base.Ns mainGlobals mg
 blt:∃ mb,base.Ns builtinsNs mb/\∀ x:Str,x ≠ "__name__" -> mb x = bootBuiltins x
 nolimit:base.NoLimit
structure Cx where
 prog:Program
 w:World
 K:Φρ
 mg:Str->Option Value
 base:Heap
 A:Around
 N:List Str
 s₀:Shared
 H₀:Hp
 env:Env
 outer:List Env
 stack:List Env
 ex:List Addr
 fn:Str->Bool
 calm:Bool
 pn:List (Addr × Obj)
 xe:Value->Shared->Prop
def frs (l:List Env):List Addr:=l.filterMap (·.frame)
abbrev Cx.fs (X:Cx):List Addr:=frs X.outer
def Vis (sc:Scope) (x:Str):Prop:=sc.names.lookup x = some .local\/sc.names.lookup x = some .cell\/sc.names.lookup x = some .free
def Loc (sc:Scope) (x:Str):Prop:=sc.names.lookup x = some .local\/sc.names.lookup x = some .cell
def Look (env:Env) (h:Heap) (m:Str->Option Value) (x:Str) (u:Value):Prop :=
 (env.kindOf x = some .local/\m x = some u)\/((env.kindOf x = some .cell\/env.kindOf x = some .free)/\∃ c,env.cells.lookup x = some c/\h.IsCell c (some u))
structure Cx.Ok (X:Cx):Prop where
 mod:Mod X.K X.mg X.base
 kind:X.env.scope.kind = .function
 glob:X.env.globals = mainGlobals
 blt:X.env.builtins = builtinsNs
 above:X.s₀.heap.objs.size <= X.env.locals
 inj:∀ x y c,X.env.cells.lookup x = some c->X.env.cells.lookup y = some c->x = y
 has:∀ x,(X.env.kindOf x = some .cell\/X.env.kindOf x = some .free)->∃ c,X.env.cells.lookup x = some c
 cab:∀ x c,X.fn x = true->X.env.cells.lookup x = some c->X.s₀.heap.objs.size <= c
 hd:X.calm = true->X.A.handled = none
 frames:X.A.frames = some X.stack
 stk:X.stack = X.outer\/(X.stack = X.env :: X.outer/\X.env.frame = some X.env.locals)
 exf:∀ b ∈ X.ex,b ≠ X.env.locals/\∀ x c,X.env.cells.lookup x = some c->c ≠ b
 bs:∀ b o,X.base.get? b = some o->X.s₀.heap.get? b = some o/\X.H₀ b = none
 bsz:X.base.objs.size <= X.s₀.heap.objs.size
 noex:∀ b o,X.base.get? b = some o->b ∉ X.ex
 exfs:∀ b ∈ X.ex,b ∉ X.fs
 funs:X.s₀.heap.FunFrames X.base X.outer
 frf:∀ b ∈ X.fs,X.H₀ b = none
structure Inv (X:Cx) (pins:List (Addr × Obj)) (σ:List (Option V)) (H:Hp) (s:Shared):Prop where
 ok:X.Ok
 os:s.os = X.s₀.os
 bare:AllBare s.gens
 base:Un X.fs X.ex X.H₀ H X.s₀.heap s.heap
 loc:∃ m,s.heap.Ns X.env.locals m/\∀ (i:Nat) (x:Str) (v:V),X.N[i]? = some x->σ[i]? = some (some v)->Vis X.env.scope x->∃ u,RelV v u/\Look X.env s.heap m x u
 cell:∀ x c,X.env.cells.lookup x = some c->∃ v,s.heap.IsCell c v
 free:H X.env.locals = none
 freeC:∀ x c,X.env.cells.lookup x = some c->H c = none
 pin:∀ p ∈ X.pn ++ pins,s.heap.get? p.1 = some p.2/\H p.1 = none/\p.1 ≠ X.env.locals/\p.1 ∉ X.fs/\∀ v,p.2.data ≠ .cell v
 hok:HOk X.prog X.w H s.heap
 len:σ.length = X.N.length
section
variable {X:Cx} {pins:List (Addr × Obj)} {σ:List (Option V)} {H H':Hp} {s:Shared} {h':Heap}
theorem Cx.Ok.nofr (ok:X.Ok) {b:Addr} {o:Obj} (e:X.base.get? b = some o):b ∉ X.fs:=λ hb=>by
 have:=(ok.funs.mem hb).1
 rw [e] at this; cases this
theorem Inv.bs (I:Inv X pins σ H s):∀ b o,X.base.get? b = some o->s.heap.get? b = some o/\H b = none:=λ b o e =>
 ⟨I.base.keep b o (I.ok.bs b o e).1 (I.ok.bs b o e).2 (I.ok.nofr e) (I.ok.noex b o e),I.base.free b o (I.ok.bs b o e).1 (I.ok.bs b o e).2 (I.ok.noex b o e)⟩
theorem Inv.bk (I:Inv X pins σ H s):∀ b o,X.base.get? b = some o->s.heap.get? b = some o:=λ b o e=>(I.bs b o e).1
theorem Inv.mod (I:Inv X pins σ H s):Mod X.K X.mg X.base:=I.ok.mod
theorem Inv.kIn (I:Inv X pins σ H s):X.K.In s.heap:=I.ok.mod.kin.keeps I.bk
theorem Inv.lt (I:Inv X pins σ H s):X.env.locals < s.heap.objs.size:=let ⟨_,hn,_⟩:=I.loc; hn.lt
theorem Inv.sz (I:Inv X pins σ H s):X.s₀.heap.objs.size <= s.heap.objs.size:=Nat.le_trans I.ok.above (Nat.le_of_lt I.lt)
theorem Inv.nofs (I:Inv X pins σ H s) {a:Addr} (h:s.heap.objs.size <= a):a ∉ X.fs:=λ hb=>by
 obtain ⟨_,o,ho,_⟩:=I.ok.funs.mem hb
 exact absurd (Nat.lt_of_lt_of_le (Heap.lt_size ho) (Nat.le_trans I.sz h)) (Nat.lt_irrefl _)
theorem Inv.cne (I:Inv X pins σ H s):∀ x c,X.env.cells.lookup x = some c->c ≠ X.env.locals:=λ x c e z=>by
 obtain ⟨v,o,ho,hd⟩:=I.cell x c e
 obtain ⟨m,⟨o',es,ep,ho',hd',_⟩,_⟩:=I.loc
 rw [z,ho'] at ho; cases ho; rw [hd'] at hd; cases hd
theorem Inv.funs (I:Inv X pins σ H s):s.heap.FunFrames X.base X.outer:=by
 have all:∀ (l:List Env),(∀ b ∈ frs l,b ∈ X.fs)->X.s₀.heap.FunFrames X.base l->s.heap.FunFrames X.base l:=by
  intro l
  induction l with
  | nil=>intro _ _; trivial
  | cons env r ih =>
   intro hs hl
   obtain ⟨hk,⟨L,o,hf,hn,ho,hd⟩,hr⟩:=hl
   have hL:L ∈ X.fs:=hs L (by unfold frs; rw [List.filterMap_cons,hf]; exact List.mem_cons_self)
   obtain ⟨sl,e⟩:=I.base.slot L o ho (I.ok.frf L hL) hL λ z=>I.ok.exfs L z hL
   exact ⟨hk,⟨L,_,hf,hn,e,hd⟩,ih (λ b hb=>hs b (by unfold frs; rw [List.filterMap_cons,hf]; exact List.mem_cons_of_mem _ hb)) hr⟩
 exact all X.outer (λ _ hb=>hb) I.ok.funs
theorem Inv.stack (I:Inv X pins σ H s):s.heap.FunFrames X.base X.stack:=by
 rcases I.ok.stk with e | ⟨e,hf⟩
 ·rw [e]; exact I.funs
 ·rw [e]
  obtain ⟨m,hn,_⟩:=I.loc
  refine .cons (by rw [I.ok.kind]; decide) hf hn ?_ I.funs
  exact Heap.get?_none_of_le (Nat.le_trans I.ok.bsz I.ok.above)
theorem Inv.stkSub (I:Inv X pins σ H s):∀ b ∈ frs X.stack,b ∈ X.env.locals :: X.fs:=λ b hb=>by
 rcases I.ok.stk with e | ⟨e,hf⟩
 ·rw [e] at hb; exact List.mem_cons_of_mem _ hb
 ·rw [e] at hb
  unfold frs at hb
  rw [List.filterMap_cons,hf] at hb
  exact hb
theorem Inv.stkFree (I:Inv X pins σ H s):∀ b ∈ frs X.stack,H b = none:=λ b hb=>by
 rcases List.mem_cons.mp (I.stkSub b hb) with e | hb
 ·rw [e]; exact I.free
 ·obtain ⟨_,o,ho,_⟩:=I.ok.funs.mem hb
  exact I.base.free b o ho (I.ok.frf b hb) λ z=>I.ok.exfs b z hb
theorem Inv.step {g':Array GenState} {t':Nat} {d':Drawn} {ch:List Addr} (I:Inv X pins σ H s)
  (hch:∀ b ∈ ch,(b ∈ X.ex\/X.s₀.heap.objs.size <= b)/\b ≠ X.env.locals/\(∀ x c,X.env.cells.lookup x = some c->c ≠ b)/\∀ p ∈ X.pn ++ pins,p.1 ≠ b)
  (keep:∀ b o,b ≠ X.env.locals->b ∉ X.fs->b ∉ ch->s.heap.get? b = some o->H b = none->h'.get? b = some o)
  (slot:∀ b o,b ≠ X.env.locals->b ∈ X.fs->b ∉ ch->s.heap.get? b = some o->H b = none->∃ sl,h'.get? b = some { o with slots:=sl }) (free:∀ b o,b ∉ ch->s.heap.get? b = some o->H b = none->H' b = none)
  (there:∀ b o,b ∉ ch->s.heap.get? b = some o->∃ o',h'.get? b = some o')
  (tups:∀ b xs,H b = some (.tup xs)->H' b = some (.tup xs)) (frzs:∀ b o u,H b = some (.frz o u)->H' b = some (.frz o u)) (tbls:∀ b ps,H b = some (.tbl ps)->∃ more,H' b = some (.tbl (ps ++ more)))
  (ns:∀ m,s.heap.Ns X.env.locals m->h'.Ns X.env.locals m) (hok:HOk X.prog X.w H' h') (hg:AllBare g') :
  Inv X pins σ H' { s with heap:=h',gens:=g',drawn:=d',toks:=t' }:=by
 have neL:∀ b o,X.s₀.heap.get? b = some o->b ≠ X.env.locals:=λ b o e=>Nat.ne_of_lt (Nat.lt_of_lt_of_le (Heap.lt_size e) I.ok.above)
 have neC:∀ b o,X.s₀.heap.get? b = some o->b ∉ X.ex->b ∉ ch:=λ b o e hx hb=>by
  rcases (hch b hb).1 with z | z
  ·exact hx z
  ·exact absurd (Nat.lt_of_lt_of_le (Heap.lt_size e) z) (Nat.lt_irrefl _)
 have cellK:∀ x c,X.env.cells.lookup x = some c->∀ v,s.heap.IsCell c v->h'.IsCell c v:=λ x c e v ⟨o,ho,hd⟩=>by
  have nch:c ∉ ch:=λ z=>(hch c z).2.2.1 x c e rfl
  by_cases hc:c ∈ X.fs
  ·obtain ⟨sl,q⟩:=slot c o (I.cne x c e) hc nch ho (I.freeC x c e)
   exact ⟨_,q,hd⟩
  ·exact ⟨o,keep c o (I.cne x c e) hc nch ho (I.freeC x c e),hd⟩
 refine ⟨I.ok,I.os,hg,⟨λ b o e n hb hx=>?_,λ b o e n hb hx=>?_,λ b o e n hx=>?_,λ b o e hx=>?_,λ b xs e=>tups b xs (I.base.tups b xs e),λ b o xs e=>frzs b o xs (I.base.frzs b o xs e),λ b ps e=>?_⟩,?_,λ x c e=>?_,?_,λ x c e=>?_,λ p hp=>?_,hok,I.len⟩
 ·exact keep b o (neL b o e) hb (neC b o e hx) (I.base.keep b o e n hb hx) (I.base.free b o e n hx)
 ·obtain ⟨sl,e1⟩:=I.base.slot b o e n hb hx
  obtain ⟨sl',e2⟩:=slot b _ (neL b o e) hb (neC b o e hx) e1 (I.base.free b o e n hx)
  exact ⟨sl',e2⟩
 ·obtain ⟨o',e1⟩:=I.base.there b o e hx
  exact free b o' (neC b o e hx) e1 (I.base.free b o e n hx)
 ·obtain ⟨o',e1⟩:=I.base.there b o e hx
  exact there b o' (neC b o e hx) e1
 ·obtain ⟨m1,e1⟩:=I.base.tbls b ps e
  obtain ⟨m2,e2⟩:=tbls b _ e1
  exact ⟨m1 ++ m2,by rw [e2,Array.append_assoc]⟩
 ·obtain ⟨m,hn,hl⟩:=I.loc
  refine ⟨m,ns m hn,λ i x v e1 e2 e3=>?_⟩
  obtain ⟨u,r,l⟩:=hl i x v e1 e2 e3
  refine ⟨u,r,?_⟩
  rcases l with l | ⟨k,c,e,z⟩
  ·exact .inl l
  ·exact .inr ⟨k,c,e,cellK x c e _ z⟩
 ·obtain ⟨v,z⟩:=I.cell x c e
  exact ⟨v,cellK x c e v z⟩
 ·obtain ⟨m,⟨o,_,_,ho,_⟩,_⟩:=I.loc
  exact free _ o (λ z=>(hch _ z).2.1 rfl) ho I.free
 ·obtain ⟨v,o,ho,hd⟩:=I.cell x c e
  exact free c o (λ z=>(hch c z).2.2.1 x c e rfl) ho (I.freeC x c e)
 ·obtain ⟨e,n,ne,nf,d⟩:=I.pin p hp
  have nch:p.1 ∉ ch:=λ z=>(hch p.1 z).2.2.2 p hp rfl
  exact ⟨keep p.1 p.2 ne nf nch e n,free p.1 p.2 nch e n,ne,nf,d⟩
theorem Inv.un {t':Nat} (I:Inv X pins σ H s) (u:Un X.fs [] H H' s.heap h') (hok:HOk X.prog X.w H' h'):Inv X pins σ H' { s with heap:=h',toks:=t' }:=by
 obtain ⟨m,⟨o,es,ep,ho,r⟩,_⟩:=id I.loc
 obtain ⟨sl,hL⟩:=u.any ho I.free (by simp)
 exact I.step (g':=s.gens) (d':=s.drawn) (ch:=[]) (λ _ z=>nomatch z) (λ b o _ hb _ e n=>u.keep b o e n hb (by simp)) (λ b o _ hb _ e n=>u.slot b o e n hb (by simp)) (λ b o _ e n=>u.free b o e n (by simp)) (λ b o _ e=>u.there b o e (by simp)) u.tups u.frzs u.tbls (λ m' hm=>by
  obtain ⟨o',es',ep',ho',r'⟩:=hm
  rw [ho] at ho'; cases ho'
  exact ⟨_,es',ep',hL,r'⟩) hok I.bare
theorem Inv.call {g':Array GenState} {t':Nat} {d':Drawn} {ch:List Addr} (I:Inv X pins σ H s) (u:Un (frs X.stack) ch H H' s.heap h') (hok:HOk X.prog X.w H' h') (hg:AllBare g')
  (hch:∀ b ∈ ch,(b ∈ X.ex\/X.s₀.heap.objs.size <= b)/\b ≠ X.env.locals/\(∀ x c,X.env.cells.lookup x = some c->c ≠ b)/\∀ p ∈ X.pn ++ pins,p.1 ≠ b) :
  Inv X pins σ H' { s with heap:=h',gens:=g',drawn:=d',toks:=t' }:=by
 obtain ⟨m,⟨o,es,ep,ho,r⟩,_⟩:=id I.loc
 obtain ⟨sl,hL⟩:=u.any ho I.free λ z=>(hch _ z).2.1 rfl
 exact I.step (ch:=ch) hch (λ b o hL hb hc e n=>u.keep b o e n (λ z=>(List.mem_cons.mp (I.stkSub b z)).elim hL hb) hc) (λ b o _ _ hc e n=>u.any e n hc) (λ b o hc e n=>u.free b o e n hc) (λ b o hc e=>u.there b o e hc) u.tups u.frzs u.tbls (λ m' hm=>by
  obtain ⟨o',es',ep',ho',r'⟩:=hm
  rw [ho] at ho'; cases ho'
  exact ⟨_,es',ep',hL,r'⟩) hok hg
theorem Inv.turned {t':Nat} {it:Addr} (I:Inv X pins σ H s) (k:∀ b o,b ≠ it->s.heap.get? b = some o->h'.get? b = some o) (hn:H it = none) (hL:it ≠ X.env.locals)
  (h1:it ∈ X.ex\/X.s₀.heap.objs.size <= it) (h2:∀ x c,X.env.cells.lookup x = some c->c ≠ it) (h3:∀ p ∈ X.pn ++ pins,p.1 ≠ it):Inv X pins σ H { s with heap:=h',toks:=t' }:=by
 have nit:∀ b u,H b = some u->b ≠ it:=λ b u e z=>by rw [z,hn] at e; cases e
 refine I.step (g':=s.gens) (d':=s.drawn) (ch:=[it]) (λ b hb=>?_) (λ b o _ _ hc e _=>k b o (λ z=>hc (by simp [z])) e) (λ b o _ _ hc e _=>⟨o.slots,k b o (λ z=>hc (by simp [z])) e⟩) (λ _ _ _ _ n=>n)
  (λ b o hc e=>⟨o,k b o (λ z=>hc (by simp [z])) e⟩) (λ _ _ e=>e) (λ _ _ _ e=>e) (λ b ps e=>⟨#[],by rw [e]; simp⟩) (λ m hm=>?_) (λ b u e=>?_) I.bare
 ·have e:b = it:=by simpa using hb
  subst e
  exact ⟨h1,hL,h2,h3⟩
 ·obtain ⟨o,es,ep,ho,r⟩:=hm
  exact ⟨o,es,ep,k _ o (Ne.symm hL) ho,r⟩
 ·refine (I.hok b u e).stay (λ c v hc q=>k c v ?_ q) (λ _ q=>q) λ _ _ q=>q
  rcases hc with z | z
  ·rw [z]; exact nit b u e
  ·exact nit c _ z
theorem Inv.tok (I:Inv X pins σ H s) (t:Nat):Inv X pins σ H { s with toks:=t }:=I.un (h':=s.heap) (t':=t) Un.refl I.hok
theorem Inv.kept {t':Nat} (I:Inv X pins σ H s) (k:∀ b u,s.heap.get? b = some u->h'.get? b = some u):Inv X pins σ H { s with heap:=h',toks:=t' }:=I.un (Un.kept k) (I.hok.kept k)
theorem Inv.laid {a:Addr} {o:HO} {t':Nat} (I:Inv X pins σ H s) (k:∀ b u,s.heap.get? b = some u->h'.get? b = some u) (hp:s.heap.objs.size <= a) (new:ObjOk X.prog X.w (upd H a o) h' a o) :
  Inv X pins σ (upd H a o) { s with heap:=h',toks:=t' }:=I.un (Un.laid k hp (I.hok.fresh hp)) (I.hok.laid k hp new)
theorem Inv.write {x e:Addr} {o:HO} {t':Nat} (I:Inv X pins σ H s) (mu:Mut (H x)) (he:e = x\/H e = some (.own x)) (k:∀ b u,b ≠ e->s.heap.get? b = some u->h'.get? b = some u) (heo:∃ u,h'.get? e = some u)
  (new:ObjOk X.prog X.w (upd H x o) h' x o):Inv X pins σ (upd H x o) { s with heap:=h',toks:=t' }:=I.un (Un.write mu he k heo) (I.hok.write mu he k heo new)
theorem Inv.pins_of {pins':List (Addr × Obj)} (I:Inv X pins σ H s) (h:∀ p ∈ pins',s.heap.get? p.1 = some p.2/\H p.1 = none/\p.1 ≠ X.env.locals/\p.1 ∉ X.fs/\∀ v,p.2.data ≠ .cell v):Inv X pins' σ H s :=
 ⟨I.ok,I.os,I.bare,I.base,I.loc,I.cell,I.free,I.freeC,λ p hp=>(List.mem_append.mp hp).elim (λ z=>I.pin p (List.mem_append_left _ z)) (h p),I.hok,I.len⟩
theorem b3O {N:List Str} (hN:N.Nodup) {i j:Nat} {x:Str} (a:N[i]? = some x) (b:N[j]? = some x):i = j:=by
 obtain ⟨h1,e1⟩:=List.getElem?_eq_some_iff.mp a
 obtain ⟨h2,e2⟩:=List.getElem?_eq_some_iff.mp b
 exact (List.getElem_inj hN).mp (e1.trans e2.symm)
theorem a9W {M:Model} {A:Around} {E:Value->Shared->Prop} {i:Nat} {x:Str} {v:V} {u:Value} {Q:Unit->Shared->Prop} (I:Inv X pins σ H s) (hN:X.N.Nodup) (hi:X.N[i]? = some x) (hx:Loc X.env.scope x) (r:RelV v u)
  (h:∀ s',Inv X pins (σ.set i (some v)) H s'->(∃ a,Heap.SameBut a s.heap s'.heap/\(a = X.env.locals\/X.env.cells.lookup x = some a))->Q () s') (hf:X.fn x = true\/X.env.scope.names.lookup x = some .local:=by first | exact .inl rfl | exact .inr rfl | assumption):wpAny M A (storeName X.env x u) Q E s:=by
 obtain ⟨m,hn,hl⟩:=id I.loc
 have hcls:(X.env.scope.kind == .class || (X.env.scope.kind == .module && X.env.locals != X.env.globals)) = false:=by rw [I.ok.kind]; rfl
 have hiσ:i < σ.length:=by rw [I.len]; exact (List.getElem?_eq_some_iff.mp hi).1
 have cne:=I.cne
 have tracked:∀ {a:Addr} {h':Heap},(∃ o,s.heap.get? a = some o/\H a = none)->Heap.SameBut a s.heap h'->HOk X.prog X.w H h':=λ {a h'} ha hs b ob e=>by
  obtain ⟨_,_,hfree⟩:=ha
  refine (I.hok b ob e).stay (λ c w' hc q=>(hs.2 c ?_).trans q) (λ _ q=>q) λ _ _ q=>q
  rintro rfl
  rcases hc with rfl | hc
  ·rw [hfree] at e; cases e
  ·rw [hfree] at hc; cases hc
 rcases hx with hk | hk
 ·refine wpAny_storeName_local hk hn (λ h' hn' hs=>?_) hcls
  obtain ⟨oL,_,_,hoL,_⟩:=id hn
  refine h _ ⟨I.ok,I.os,I.bare,⟨λ b o e n hb hx=>?_,λ b o e n hb hx=>?_,I.base.free,λ b o e hx=>?_,I.base.tups,I.base.frzs,I.base.tbls⟩,⟨_,hn',λ j y v' e1 e2 e3=>?_⟩,λ y c e=>?_,I.free,I.freeC,λ p hp=>?_,tracked ⟨oL,hoL,I.free⟩ hs,by simpa using I.len⟩ ⟨_,hs,.inl rfl⟩
  ·exact (hs.2 b (Nat.ne_of_lt (Nat.lt_of_lt_of_le (Heap.lt_size e) I.ok.above))).trans (I.base.keep b o e n hb hx)
  ·obtain ⟨sl,e1⟩:=I.base.slot b o e n hb hx
   exact ⟨sl,(hs.2 b (Nat.ne_of_lt (Nat.lt_of_lt_of_le (Heap.lt_size e) I.ok.above))).trans e1⟩
  ·obtain ⟨o',e1⟩:=I.base.there b o e hx
   exact ⟨o',(hs.2 b (Nat.ne_of_lt (Nat.lt_of_lt_of_le (Heap.lt_size e) I.ok.above))).trans e1⟩
  ·by_cases hj:j = i
   ·subst hj
    rw [hi] at e1; cases e1
    rw [List.getElem?_set_self hiσ] at e2
    cases e2
    exact ⟨u,r,.inl ⟨hk,by simp⟩⟩
   ·rw [List.getElem?_set_ne (Ne.symm hj)] at e2
    obtain ⟨u',r',q⟩:=hl j y v' e1 e2 e3
    refine ⟨u',r',?_⟩
    rcases q with ⟨k,e⟩ | ⟨k,c,e,z⟩
    ·refine .inl ⟨k,?_⟩
     have:y ≠ x:=λ e=>hj (b3O hN e1 (e ▸ hi))
     simp [this,e]
    ·exact .inr ⟨k,c,e,z.sameBut hs (cne y c e)⟩
  ·obtain ⟨w',z⟩:=I.cell y c e
   exact ⟨w',z.sameBut hs (cne y c e)⟩
  ·obtain ⟨e,n,ne,nf,d⟩:=I.pin p hp
   exact ⟨(hs.2 p.1 ne).trans e,n,ne,nf,d⟩
 ·have hfn:X.fn x = true:=by
   rcases hf with z | z
   ·exact z
   ·rw [z] at hk; cases hk
  obtain ⟨c,hc⟩:=I.ok.has x (.inl hk)
  obtain ⟨w',z⟩:=I.cell x c hc
  refine wpAny_storeName_cell I.ok.kind hk hc z (λ h' hc' hs=>?_)
  obtain ⟨oc,hoc,hocd⟩:=id z
  refine h { s with heap:=h' } ⟨I.ok,I.os,I.bare,⟨λ b o e n hb hx=>?_,λ b o e n hb hx=>?_,I.base.free,λ b o e hx=>?_,I.base.tups,I.base.frzs,I.base.tbls⟩,⟨m,hn.sameBut hs (Ne.symm (cne x c hc)),λ j y v' e1 e2 e3=>?_⟩,λ y c' e=>?_,I.free,I.freeC,λ p hp=>?_,tracked ⟨oc,hoc,I.freeC x c hc⟩ hs,by simpa using I.len⟩ ⟨c,hs,.inr hc⟩
  ·exact (hs.2 b (Nat.ne_of_lt (Nat.lt_of_lt_of_le (Heap.lt_size e) (I.ok.cab x c hfn hc)))).trans (I.base.keep b o e n hb hx)
  ·obtain ⟨sl,e1⟩:=I.base.slot b o e n hb hx
   exact ⟨sl,(hs.2 b (Nat.ne_of_lt (Nat.lt_of_lt_of_le (Heap.lt_size e) (I.ok.cab x c hfn hc)))).trans e1⟩
  ·obtain ⟨o',e1⟩:=I.base.there b o e hx
   exact ⟨o',(hs.2 b (Nat.ne_of_lt (Nat.lt_of_lt_of_le (Heap.lt_size e) (I.ok.cab x c hfn hc)))).trans e1⟩
  ·by_cases hj:j = i
   ·subst hj
    rw [hi] at e1; cases e1
    rw [List.getElem?_set_self hiσ] at e2
    cases e2
    exact ⟨u,r,.inr ⟨.inl hk,c,hc,hc'⟩⟩
   ·rw [List.getElem?_set_ne (Ne.symm hj)] at e2
    obtain ⟨u',r',q⟩:=hl j y v' e1 e2 e3
    refine ⟨u',r',?_⟩
    rcases q with q | ⟨k,c',e,z'⟩
    ·exact .inl q
    ·refine .inr ⟨k,c',e,z'.sameBut hs ?_⟩
     rintro rfl
     exact hj (b3O hN e1 (I.ok.inj _ _ _ e hc ▸ hi))
  ·by_cases hcc:c' = c
   ·subst hcc; exact ⟨_,hc'⟩
   ·obtain ⟨w2,z2⟩:=I.cell y c' e
    exact ⟨w2,z2.sameBut hs hcc⟩
  ·obtain ⟨e,n,ne,nf,d⟩:=I.pin p hp
   refine ⟨(hs.2 p.1 ?_).trans e,n,ne,nf,d⟩
   intro q
   rw [q,hoc] at e
   have q':oc = p.2:=Option.some.inj e
   exact d w' (by rw [<- q']; exact hocd)
theorem b3P {M:Model} {A:Around} {E:Value->Shared->Prop} {i:Nat} {x:Str} {v:V} {u:Value} {Q:Unit->Shared->Prop} (I:Inv X pins σ H s) (hN:X.N.Nodup) (hi:X.N[i]? = some x) (hx:Loc X.env.scope x) (r:RelV v u)
  (h:∀ s',Inv X pins (σ.set i (some v)) H s'->Q () s') (hf:X.fn x = true\/X.env.scope.names.lookup x = some .local:=by first | exact .inl rfl | exact .inr rfl | assumption):wpAny M A (storeName X.env x u) Q E s :=
 a9W I hN hi hx r (λ s' I' _=>h s' I') hf
theorem Inv.call' {s':Shared} {ch:List Addr} (I:Inv X pins σ H s) (ho:s'.os = s.os) (u:Un (frs X.stack) ch H H' s.heap s'.heap) (hok:HOk X.prog X.w H' s'.heap) (hg:AllBare s'.gens)
  (hch:∀ b ∈ ch,(b ∈ X.ex\/X.s₀.heap.objs.size <= b)/\b ≠ X.env.locals/\(∀ x c,X.env.cells.lookup x = some c->c ≠ b)/\∀ p ∈ X.pn ++ pins,p.1 ≠ b):Inv X pins σ H' s':=by
 obtain ⟨h',g',d',t',o'⟩:=s'
 have e:o' = s.os:=ho
 subst e
 exact I.call (g':=g') (t':=t') (d':=d') u hok hg hch
end
abbrev XK:=Value->Option Addr->Hp->Prop
abbrev St:=List (Option V)
abbrev VK:=V->Hp->Prop
abbrev TE:=St->Hp->VK->Prop
abbrev TT:=St->Hp->(Bool->Hp->Prop)->Prop
abbrev TA:=St->Hp->(List V->Hp->Prop)->Prop
structure Ends where
 nx:St->Hp->Prop
 rt:VK
 bk:St->Hp->Prop:=λ _ _=>False
 ct:St->Hp->Prop:=λ _ _=>False
abbrev TS:=Ends->St->Hp->Prop
def EP (X:Cx) (pins:List (Addr × Obj)) (σ:St) (Q:VK) (u:Value) (s':Shared):Prop:=∃ v H',Inv X pins σ H' s'/\RelV v u/\Q v H'
def TP (X:Cx) (pins:List (Addr × Obj)) (σ:St) (Q:Bool->Hp->Prop) (b:Bool) (s':Shared):Prop:=∃ H',Inv X pins σ H' s'/\Q b H'
def AP (X:Cx) (pins:List (Addr × Obj)) (σ:St) (Q:List V->Hp->Prop) (us:List Value) (s':Shared):Prop:=∃ vs H',Inv X pins σ H' s'/\Vals vs us/\Q vs H'
def SP (X:Cx) (pins:List (Addr × Obj)) (D:Ends) (f:Flow) (s':Shared):Prop :=
 match f with
 | .next=>∃ σ' H',Inv X pins σ' H' s'/\D.nx σ' H'
 | .brk=>∃ σ' H',Inv X pins σ' H' s'/\D.bk σ' H'
 | .cont=>∃ σ' H',Inv X pins σ' H' s'/\D.ct σ' H'
 | .ret u=>∃ v σ' H',Inv X pins σ' H' s'/\RelV v u/\D.rt v H'
def PE (X:Cx) (e:Expr) (t:TE):Prop :=
 ∀ (pins:List (Addr × Obj)) (s:Shared) (σ:St) (H:Hp) (Q:VK),Inv X pins σ H s->t σ H Q->wpAny (model X.prog X.w) X.A (eval e X.env) (EP X pins σ Q) X.xe s
def PT (X:Cx) (e:Expr) (t:TT):Prop :=
 ∀ (pins:List (Addr × Obj)) (s:Shared) (σ:St) (H:Hp) (Q:Bool->Hp->Prop),Inv X pins σ H s->t σ H Q->wpAny (model X.prog X.w) X.A (isTrue e X.env (eval e X.env)) (TP X pins σ Q) X.xe s
def PW (X:Cx) (e:Expr) (t:TT):Prop :=
 ∀ (whole:Sem Value) (pins:List (Addr × Obj)) (s:Shared) (σ:St) (H:Hp) (Q:Bool->Hp->Prop),Inv X pins σ H s->t σ H Q->wpAny (model X.prog X.w) X.A (isTrue e X.env whole) (TP X pins σ Q) X.xe s
theorem PW.pt {X:Cx} {e:Expr} {t:TT} (h:PW X e t):PT X e t:=h _
def PA (X:Cx) (es:List Expr) (t:TA):Prop :=
 ∀ (pos:Pos) (pins:List (Addr × Obj)) (s:Shared) (σ:St) (H:Hp) (Q:List V->Hp->Prop),Inv X pins σ H s->t σ H Q->wpAny (model X.prog X.w) X.A (spliced (backTo pos (starEach es X.env))) (AP X pins σ Q) X.xe s
def PS (X:Cx) (st:Stmt) (t:TS):Prop :=
 ∀ (pins:List (Addr × Obj)) (s:Shared) (σ:St) (H:Hp) (D:Ends),Inv X pins σ H s->t D σ H->wpAny (model X.prog X.w) X.A (exec st X.env) (SP X pins D) X.xe s
def PSs (X:Cx) (st:List Stmt) (t:TS):Prop :=
 ∀ (pins:List (Addr × Obj)) (s:Shared) (σ:St) (H:Hp) (D:Ends),Inv X pins σ H s->t D σ H->wpAny (model X.prog X.w) X.A (execs st X.env) (SP X pins D) X.xe s
theorem thn {α:Type} {t:Sem α} {Q Q':α->Shared->Prop} {M:Model} {A:Around} {E:Value->Shared->Prop} {s:Shared} (h:wpAny M A t Q E s) (hQ:∀ a s,Q a s->Q' a s):wpAny M A t Q' E s:=wpAny_mono h hQ λ _ _ x=>x
end L2
namespace L2
open PySem PySem.Spec PyProof.Rows
section
variable {X:Cx}
def tVar (i:Nat):TE:=λ σ H Q=>∃ v,σ[i]? = some (some v)/\Q v H
def tC (v:V):TE:=λ _ H Q=>Q v H
theorem c8H {i:Nat} {x:Str} {pos:Pos} (hN:X.N[i]? = some x) (hv:Vis X.env.scope x) (hd:(x == ("__debug__" : Str)) = false:=by decide) (hcd:(x == ("__classdict__" : Str)) = false:=by decide):PE X (.Name x pos) (tVar i):=by
 intro pins s σ H Q I h
 obtain ⟨v,e,h⟩:=h
 obtain ⟨m,hn,hl⟩:=I.loc
 obtain ⟨u,r,l⟩:=hl i x v hN e hv
 have fin:EP X pins σ Q u s:=⟨v,H,I,r,h⟩
 rcases l with ⟨hk,hm⟩ | ⟨hk,c,hc,hcell⟩
 ·exact wpAny_Name (wpAny_loadName_local I.ok.kind hk hn hm fin) hd
 ·rcases hk with hk | hk
  ·exact wpAny_Name (wpAny_loadName_cell I.ok.kind hk hc hcell fin) hd
  ·exact wpAny_Name (wpAny_loadName_free I.ok.kind hk hc hcell fin hcd) hd
theorem a0G {i j pos}:PE X (.Constant (.int i) j pos) (tC (.int i)):=λ _ _ _ H _ I h=>wpAny_Constant_int ⟨.int i,H,I.tok _,⟨_,rfl⟩,h⟩
theorem a6P {b j pos}:PE X (.Constant (.bool b) j pos) (tC (.bl b)):=λ _ _ _ H _ I h=>Constant_bool ⟨.bl b,H,I,rfl,h⟩
theorem a5S {j pos}:PE X (.Constant .none j pos) (tC .non):=λ _ _ _ H _ I h=>Constant_none ⟨.non,H,I,rfl,h⟩
theorem b6S {x j pos}:PE X (.Constant (.str x) j pos) (tC (.str x)):=λ _ _ _ H _ I h=>Calls.Constant_str ⟨.str x,H,I.tok _,⟨_,rfl⟩,h⟩
def Gl (X:Cx) (x:Str):Prop:=X.env.kindOf x = some .globalImplicit
theorem c5B {E:Value->Shared->Prop} {pins:List (Addr × Obj)} {s:Shared} {σ:St} {H:Hp} {x:Str} {u:Value} {pos:Pos} {Q:Value->Shared->Prop} (I:Inv X pins σ H s) (hg:Gl X x) (hm:X.mg x = some u) (h:Q u s)
  (hd:(x == ("__debug__" : Str)) = false:=by decide):wpAny (model X.prog X.w) X.A (eval (.Name x pos) X.env) Q E s :=
 Calls.Name_function_global I.ok.kind hg (Calls.loadGlobal_global (by rw [I.ok.glob]; exact I.mod.glob.keeps I.bk) hm h) hd
theorem a4C {E:Value->Shared->Prop} {pins:List (Addr × Obj)} {s:Shared} {σ:St} {H:Hp} {x:Str} {u:Value} {pos:Pos} {Q:Value->Shared->Prop} (I:Inv X pins σ H s) (hg:Gl X x) (hm:X.mg x = none) (hv:bootBuiltins x = some u) (h:Q u s)
  (hn:x ≠ "__name__" := by decide) (hd:(x == ("__debug__" : Str)) = false:=by decide):wpAny (model X.prog X.w) X.A (eval (.Name x pos) X.env) Q E s:=by
 obtain ⟨mb,h1,h2⟩:=I.mod.blt
 exact Calls.Name_function_global I.ok.kind hg (Calls.loadGlobal_builtin (by rw [I.ok.glob]; exact I.mod.glob.keeps I.bk) hm (by rw [I.ok.blt]; exact h1.keeps I.bk) ((h2 x hn).trans hv) h) hd
theorem b2H {x:Str} {v:V} {u:Value} {pos:Pos} (hg:Gl X x) (hm:X.mg x = none) (hv:bootBuiltins x = some u) (r:RelV v u) (hn:x ≠ "__name__" := by decide) (hd:(x == ("__debug__" : Str)) = false:=by decide):PE X (.Name x pos) (tC v) :=
 λ _ _ _ H _ I h=>a4C I hg hm hv ⟨v,H,I,r,h⟩ hn hd
variable {a b:Expr} {ta tb:TE} {pos:Pos}
variable {tA tB':TT} {rest:List Expr}
def tAnd (t u:TT):TT:=λ σ H Q=>t σ H λ c H1=>if c = true then u σ H1 Q else Q false H1
def tOr (t u:TT):TT:=λ σ H Q=>t σ H λ c H1=>if c = true then Q true H1 else u σ H1 Q
def tNot (t:TT):TT:=λ σ H Q=>t σ H λ c H1=>Q (!c) H1
theorem c5C (ha:PT X a tA):PW X (.BoolOp .And [a] pos) tA:=by
 intro wh pins s σ H Q I h
 refine isTrue_and (thn (ha pins s σ H Q I h) λ c s1 e=>?_)
 cases c with
 | true=>exact isTrue_and_nil e
 | false=>exact e
theorem a7V (ha:PT X a tA):PW X (.BoolOp .Or [a] pos) tA:=by
 intro wh pins s σ H Q I h
 refine isTrue_or (thn (ha pins s σ H Q I h) λ c s1 e=>?_)
 cases c with
 | false=>exact isTrue_or_nil e
 | true=>exact e
theorem c8I (ha:PT X a tA) (hb:PW X (.BoolOp .And (b :: rest) pos) tB'):PW X (.BoolOp .And (a :: b :: rest) pos) (tAnd tA tB'):=by
 intro wh pins s σ H Q I h
 refine isTrue_and (thn (ha pins s σ H _ I h) λ c s1 ⟨H1,I1,q1⟩=>?_)
 cases c with
 | true=>exact hb wh pins s1 σ H1 Q I1 q1
 | false=>exact ⟨H1,I1,q1⟩
theorem a9X (ha:PT X a tA) (hb:PW X (.BoolOp .Or (b :: rest) pos) tB'):PW X (.BoolOp .Or (a :: b :: rest) pos) (tOr tA tB'):=by
 intro wh pins s σ H Q I h
 refine isTrue_or (thn (ha pins s σ H _ I h) λ c s1 ⟨H1,I1,q1⟩=>?_)
 cases c with
 | true=>exact ⟨H1,I1,q1⟩
 | false=>exact hb wh pins s1 σ H1 Q I1 q1
theorem a7W (ha:PT X a tA):PT X (.UnaryOp .Not a pos) (tNot tA):=by
 intro pins s σ H Q I h
 exact isTrue_not (ha pins s σ H (λ c H1=>Q (!c) H1) I h)
def d0K (ta tb:TE):TE:=λ σ H Q=>ta σ H λ x H1=>∃ c,x = .bl c/\if c = true then tb σ H1 Q else Q (.bl false) H1
def d0L (ta:TE):TE:=λ σ H Q=>ta σ H λ x H1=>∃ c,x = .bl c/\Q (.bl (!c)) H1
theorem b6T {op} {t:TE} (h:PE X a t):PE X (.BoolOp op [a] pos) t:=λ pins s σ H Q I hw=>BoolOp_one (h pins s σ H Q I hw)
theorem c4C (ha:PE X a ta) (hb:PE X (.BoolOp .And (b :: rest) pos) tb):PE X (.BoolOp .And (a :: b :: rest) pos) (d0K ta tb):=by
 intro pins s σ H Q I h
 refine BoolOp_and (thn (ha pins s σ H _ I h) λ v s1 ⟨x,H1,I1,r1,q1⟩=>?_)
 obtain ⟨c,rfl,q1⟩:=q1
 cases r1
 refine wpAny_truthy_bool ?_
 cases c with
 | true=>exact hb pins s1 σ H1 Q I1 q1
 | false=>exact ⟨.bl false,H1,I1,rfl,q1⟩
theorem c8J (ha:PE X a ta):PE X (.UnaryOp .Not a pos) (d0L ta):=by
 intro pins s σ H Q I h
 refine UnaryOp_ (thn (ha pins s σ H _ I h) λ v s1 ⟨x,H1,I1,r1,q1⟩=>?_)
 obtain ⟨c,rfl,q1⟩:=q1
 cases r1
 exact not_of (wpAny_truthy_bool ⟨.bl (!c),H1,I1,rfl,q1⟩)
def tIf (t:TT) (ta tb:TE):TE:=λ σ H Q=>t σ H λ c H1=>if c = true then ta σ H1 Q else tb σ H1 Q
theorem a8Q {c:Expr} (hc:PT X c tA) (ha:PE X a ta) (hb:PE X b tb):PE X (.IfExp c a b pos) (tIf tA ta tb):=by
 intro pins s σ H Q I h
 refine wpAny_IfExp (thn (hc pins s σ H _ I h) λ d s1 ⟨H1,I1,q1⟩=>?_)
 cases d with
 | true=>exact ha pins s1 σ H1 Q I1 q1
 | false=>exact hb pins s1 σ H1 Q I1 q1
end
end L2
namespace L2
open PySem PySem.Spec PyProof.Rows
def SqL (K:Φρ) (H:Hp) (a:Addr) (xs:List V):Prop :=
 Rd H a (.lst xs) \/
  ∃ (o:Obj) (its:Array Value) (n:Nat),K.lookup a = some o/\o.cls = .type "list" /\ o.dict = none/\o.data = .seq its n/\its.size <= sizeLine/\Vals xs its.toList
def SqT (K:Φρ) (H:Hp) (a:Addr) (xs:List V):Prop :=
 Rd H a (.tup xs) \/
  ∃ (o:Obj) (its:Array Value) (n:Nat),K.lookup a = some o/\o.cls = .type "tuple" /\ o.data = .seq its n/\its.size <= sizeLine/\Vals xs its.toList
def absV:Value->Option V
 | .none=>some .non
 | .bool b=>some (.bl b)
 | .int i _=>some (.int i)
 | .str x _=>some (.str x)
 | .bytes b _=>some (.byt b)
 | .float b _=>some (.flt b)
 | .ref a=>some (.ref a)
 | .type n=>some (.ty n)
 | _=>none
theorem RelV.abs {x:V} {u:Value} (r:RelV x u):absV u = some x:=by
 cases x with
 | non=>cases r; rfl
 | bl _=>cases r; rfl
 | int _=>obtain ⟨t,rfl⟩:=r; rfl
 | str _=>obtain ⟨t,rfl⟩:=r; rfl
 | byt _=>obtain ⟨t,rfl⟩:=r; rfl
 | flt _=>obtain ⟨t,rfl⟩:=r; rfl
 | ref _=>cases r; rfl
 | ty _=>cases r; rfl
theorem RelV.inj {x y:V} {u:Value} (r:RelV x u) (q:RelV y u):x = y:=Option.some.inj (r.abs.symm.trans q.abs)
theorem Vals.inj:∀ {xs ys:List V} {us:List Value},Vals xs us->Vals ys us->xs = ys
 | _,_,_,.nil,.nil=>rfl
 | _,_,_,.cons r t,.cons r' t'=>by rw [r.inj r',Vals.inj t t']
section
variable {X:Cx} {pins:List (Addr × Obj)} {σ:St} {H:Hp} {s:Shared} {a:Addr} {xs ys:List V}
theorem SqL.of {K:Φρ} (h:H a = some (.lst xs)):SqL K H a xs:=.inl (.inl h)
theorem SqT.of {K:Φρ} (h:H a = some (.tup xs)):SqT K H a xs:=.inl (.inl h)
theorem Inv.list (I:Inv X pins σ H s) (h:SqL X.K H a xs):∃ its:List Value,Vals xs its/\PlainL s.heap a its.toArray/\xs.length <= sizeLine:=by
 rcases h with h | ⟨o,its,n,hk,hc,hd,hs,hz,r⟩
 ·obtain ⟨z,its,n,r,e⟩:=h.ok I.hok
  exact ⟨its,r,⟨_,n,e,rfl,rfl,rfl⟩,z⟩
 ·refine ⟨its.toList,r,⟨o,n,I.kIn a o hk,hc,hd,by simpa using hs⟩,?_⟩
  have e:=r.length
  simp only [Array.length_toList] at e
  omega
theorem Inv.tuple (I:Inv X pins σ H s) (h:SqT X.K H a xs):∃ its:List Value,Vals xs its/\IsTup s.heap a its.toArray/\xs.length <= sizeLine:=by
 rcases h with h | ⟨o,its,n,hk,hc,hs,hz,r⟩
 ·obtain ⟨z,its,r,p⟩:=h.ok I.hok
  exact ⟨its,r,p,z⟩
 ·refine ⟨its.toList,r,⟨o,I.kIn a o hk,hc,n,by simpa using hs⟩,?_⟩
  have e:=r.length
  simp only [Array.length_toList] at e
  omega
theorem Inv.list_inj (I:Inv X pins σ H s) (h:SqL X.K H a xs) (h':SqL X.K H a ys):xs = ys:=by
 obtain ⟨its,r,⟨o,n,e,_,_,d⟩,_⟩:=I.list h
 obtain ⟨its',r',⟨o',n',e',_,_,d'⟩,_⟩:=I.list h'
 rw [e] at e'; cases e'
 rw [d] at d'
 injection d' with d1 _
 have:its = its':=by simpa using congrArg Array.toList d1
 subst this
 exact r.inj r'
end
abbrev Cx.wish (X:Cx) (E:Value->Shared->Prop):Cx:={ X with xe:=E }
abbrev Cx.nox (X:Cx):Cx:=X.wish λ _ _=>False
theorem Cx.Ok.wish {X:Cx} (ok:X.Ok) (E:Value->Shared->Prop):(X.wish E).Ok :=
 ⟨ok.mod,ok.kind,ok.glob,ok.blt,ok.above,ok.inj,ok.has,ok.cab,ok.hd,ok.frames,ok.stk,ok.exf,ok.bs,ok.bsz,ok.noex,ok.exfs,ok.funs,ok.frf⟩
theorem Cx.Ok.unwish {X:Cx} {E:Value->Shared->Prop} (ok:(X.wish E).Ok):X.Ok :=
 ⟨ok.mod,ok.kind,ok.glob,ok.blt,ok.above,ok.inj,ok.has,ok.cab,ok.hd,ok.frames,ok.stk,ok.exf,ok.bs,ok.bsz,ok.noex,ok.exfs,ok.funs,ok.frf⟩
section
variable {X:Cx} {pins:List (Addr × Obj)} {σ:St} {H:Hp} {s:Shared} {E:Value->Shared->Prop}
theorem Inv.wish (I:Inv X pins σ H s) (E:Value->Shared->Prop):Inv (X.wish E) pins σ H s:=⟨I.ok.wish E,I.os,I.bare,I.base,I.loc,I.cell,I.free,I.freeC,I.pin,I.hok,I.len⟩
theorem Inv.unwish (I:Inv (X.wish E) pins σ H s):Inv X pins σ H s:=⟨I.ok.unwish,I.os,I.bare,I.base,I.loc,I.cell,I.free,I.freeC,I.pin,I.hok,I.len⟩
theorem SP.unwish {D:Ends} {f:Flow} {s':Shared} (h:SP (X.wish E) pins D f s'):SP X pins D f s':=by
 cases f with
 | next=>obtain ⟨σ',H',I,q⟩:=h; exact ⟨σ',H',I.unwish,q⟩
 | brk=>obtain ⟨σ',H',I,q⟩:=h; exact ⟨σ',H',I.unwish,q⟩
 | cont=>obtain ⟨σ',H',I,q⟩:=h; exact ⟨σ',H',I.unwish,q⟩
 | ret u=>obtain ⟨v,σ',H',I,r,q⟩:=h; exact ⟨v,σ',H',I.unwish,r,q⟩
theorem PSs.nox {st:List Stmt} {t:TS} (h:PSs X.nox st t):PSs X st t:=λ pins s σ H D I hw =>
 wpAny_mono (h pins s σ H D (I.wish _) hw) (λ _ _ q=>q.unwish) λ _ _ z=>False.elim z
end
section
variable {X:Cx} {st:Stmt} {rest:List Stmt} {t u:TS} {e:Expr} {te:TE} {pos:Pos}
def d0M:TS:=λ D σ H=>D.nx σ H
def tSeq (t u:TS):TS:=λ D σ H=>t { D with nx:=u D } σ H
theorem a1O:PSs X [] d0M:=λ _ _ σ H _ I h=>wpAny_execs_nil ⟨σ,H,I,h⟩
theorem a0C (h1:PS X st t) (h2:PSs X rest u):PSs X (st :: rest) (tSeq t u):=by
 intro pins s σ H D I h
 refine wpAny_execs_cons (thn (h1 pins s σ H { D with nx:=u D } I h) λ f s1 q=>?_)
 cases f with
 | next =>
  obtain ⟨σ',H',I',q⟩:=q
  exact h2 pins s1 σ' H' D I' q
 | ret v=>exact q
 | brk=>exact q
 | cont=>exact q
theorem a0D (h1:PS X st t):PSs X [st] t:=by
 intro pins s σ H D I h
 refine wpAny_execs_cons (thn (h1 pins s σ H D I h) λ f s1 q=>?_)
 cases f with
 | next=>exact wpAny_execs_nil q
 | ret v=>exact q
 | brk=>exact q
 | cont=>exact q
theorem Inv.quiet {pins:List (Addr × Obj)} {σ:St} {H:Hp} {s:Shared} (I:Inv X pins σ H s):interactive X.env = false:=by simp [interactive,I.ok.kind]
def d0N (te:TE):TS:=λ D σ H=>te σ H λ _ H1=>D.nx σ H1
theorem a2L (he:PE X e te) (hs:swapsWith e none pos.line X.env = pure false:=by rfl):PS X (.Expr e pos) (d0N te):=by
 intro pins s σ H D I h
 exact wpAny_Expr_any (thn (he pins s σ H _ I h) λ v s1 ⟨x,H1,I1,r1,q1⟩=>⟨σ,H1,I1,q1⟩) I.quiet hs
def tRet (te:TE):TS:=λ D σ H=>te σ H D.rt
theorem a0K (he:PE X e te):PS X (.Return (some e) pos) (tRet te):=by
 intro pins s σ H D I h
 exact wpAny_Return_some (thn (he pins s σ H _ I h) λ v s1 ⟨x,H1,I1,r1,q1⟩=>⟨x,σ,H1,I1,r1,q1⟩)
def tIfS (c:TT) (t u:TS):TS:=λ D σ H=>c σ H λ b H1=>if b = true then t D σ H1 else u D σ H1
theorem a2Y {c:Expr} {a b:List Stmt} {tc:TT} (hc:PT X c tc) (ha:PSs X a t) (hb:PSs X b u):PS X (.If c a b pos) (tIfS tc t u):=by
 intro pins s σ H D I h
 refine wpAny_If (thn (hc pins s σ H _ I h) λ d s1 ⟨H1,I1,q1⟩=>?_)
 cases d with
 | true=>exact ha pins s1 σ H1 D I1 q1
 | false=>exact hb pins s1 σ H1 D I1 q1
def c8K:TS:=λ _ _ _=>False
theorem b3Q:PS X st c8K:=λ _ _ _ _ _ _ h=>h.elim
end
abbrev TG:=V->St->Hp->(St->Hp->Prop)->Prop
abbrev TGs:=List V->St->Hp->(St->Hp->Prop)->Prop
def PG (X:Cx) (target:Expr) (t:TG):Prop :=
 ∀ (pins:List (Addr × Obj)) (s:Shared) (σ:St) (H:Hp) (v:V) (u:Value) (Q:St->Hp->Prop),Inv X pins σ H s->RelV v u->t v σ H Q ->
  wpAny (model X.prog X.w) X.A (assign target X.env u) (λ _ s'=>∃ σ' H',Inv X pins σ' H' s'/\Q σ' H') X.xe s
def PGs (X:Cx) (ts:List Expr) (t:TGs):Prop :=
 ∀ (pins:List (Addr × Obj)) (s:Shared) (σ:St) (H:Hp) (vs:List V) (us:List Value) (Q:St->Hp->Prop),Inv X pins σ H s->Vals vs us->t vs σ H Q ->
  wpAny (model X.prog X.w) X.A (assignInOrder ((assignEach ts X.env).map (·.2)) us) (λ _ s'=>∃ σ' H',Inv X pins σ' H' s'/\Q σ' H') X.xe s
abbrev TSet:=V->V->V->Hp->(Hp->Prop)->Prop
def PSet (X:Cx) (t:TSet):Prop :=
 ∀ (pins:List (Addr × Obj)) (s:Shared) (σ:St) (H:Hp) (o i v:V) (ov iv u:Value) (Q:Hp->Prop),Inv X pins σ H s->RelV o ov->RelV i iv->RelV v u->t o i v H Q ->
  wpAny (model X.prog X.w) X.A (setItem ov iv u) (λ _ s'=>∃ H',Inv X pins σ H' s'/\Q H') X.xe s
section
variable {X:Cx} {pos:Pos}
def c1N (i:Nat):TG:=λ v σ H Q=>Q (σ.set i (some v)) H
theorem a0H {i:Nat} {x:Str} (hN:X.N.Nodup) (hi:X.N[i]? = some x) (hx:Loc X.env.scope x) (hf:X.fn x = true\/X.env.scope.names.lookup x = some .local:=by first | exact .inl rfl | exact .inr rfl | assumption):PG X (.Name x pos) (c1N i):=by
 intro pins s σ H v u Q I r h
 exact wpAny_assign_Name (b3P I hN hi hx r (λ s' I'=>⟨_,H,I',h⟩) hf)
def gNil:TGs:=λ vs σ H Q=>vs = []/\Q σ H
def d0O (t:TG) (u:TGs):TGs:=λ vs σ H Q=>∃ v r,vs = v :: r/\t v σ H λ σ' H'=>u r σ' H' Q
theorem a2V:PGs X [] gNil:=by
 intro pins s σ H vs us Q I r h
 obtain ⟨e,h⟩:=h
 subst e
 cases r
 exact assignInOrder_nil ⟨σ,H,I,h⟩
theorem a0Y {e:Expr} {es:List Expr} {t:TG} {u:TGs} (h1:PG X e t) (h2:PGs X es u)
  (hs:(assignEach (e :: es) X.env).map (·.2) = assign e X.env :: (assignEach es X.env).map (·.2):=by rfl):PGs X (e :: es) (d0O t u):=by
 intro pins s σ H vs us Q I r h
 obtain ⟨v,vr,e1,h⟩:=h
 subst e1
 cases r with
 | cons r rr =>
  rw [hs]
  refine assignInOrder_cons (thn (h1 pins s σ H _ _ _ I r h) λ _ s1 ⟨σ1,H1,I1,q1⟩=>?_)
  exact h2 pins s1 σ1 H1 _ _ Q I1 rr q1
def gTup (K:Φρ) (n:Nat) (t:TGs):TG:=λ v σ H Q=>∃ a xs,v = .ref a/\SqT K H a xs/\xs.length = n/\t xs σ H Q
theorem c8L {es:List Expr} {k:Nat} {t:TGs} {n:Nat} (hc:X.calm = true) (h:PGs X es t)
  (hn:(assignEach es X.env).length = n:=by rfl) (hst:(assignEach es X.env).findIdx? (·.1) = none:=by rfl):PG X (.Tuple es k pos) (gTup X.K n t):=by
 intro pins s σ H v u Q I r hw
 obtain ⟨a,xs,e1,hq,hl,hw⟩:=hw
 subst e1
 cases r
 obtain ⟨its,rv,ht,hz⟩:=I.tuple hq
 refine assign_Tuple_tuple (I.ok.hd hc) ht (by simp [hn,<- hl,rv.length]) hst λ h' hx=>?_
 have I1:Inv X pins σ H { s with heap:=h' }:=I.kept (t':=s.toks) λ b o e=>hx b o (Nat.ne_of_lt (Heap.lt_size e)) e
 exact h pins _ σ H xs _ Q I1 (by simpa using rv) hw
def gSub (to ti:TE) (t:TSet):TG:=λ v σ H Q=>to σ H λ o H1=>ti σ H1 λ i H2=>t o i v H2 λ H3=>Q σ H3
theorem b3R {o i:Expr} {to ti:TE} {t:TSet} (ho:PE X o to) (hi:PE X i ti) (hs:PSet X t)
  (ha:∀ v,assign (.Subscript o i pos) X.env v = (do
   let ov <- holding [v] (eval o X.env)
   let iv <- holding [v,ov] (eval i X.env)
   standAt pos
   holding [v,ov,iv] (setItem ov iv v)
   release [v,ov,iv] []):=by intro _; rfl):PG X (.Subscript o i pos) (gSub to ti t):=by
 intro pins s σ H v u Q I r h
 rw [ha]
 refine wpAny_bind (wpAny_holding (thn (ho pins s σ H _ I h) λ ov s1 ⟨x,H1,I1,r1,q1⟩=>?_))
 refine wpAny_bind (wpAny_holding (thn (hi pins s1 σ H1 _ I1 q1) λ iv s2 ⟨y,H2,I2,r2,q2⟩=>?_))
 refine wpAny_bind (wpAny_standAt (wpAny_bind (wpAny_holding (thn (hs pins s2 σ H2 x y v ov iv u _ I2 r1 r2 r q2) λ _ s3 ⟨H3,I3,q3⟩=>?_))))
 exact wpAny_release ⟨σ,H3,I3,q3⟩
def tAsg (te:TE) (g:TG):TS:=λ D σ H=>te σ H λ x H1=>g x σ H1 D.nx
theorem a9Y {tg e:Expr} {te:TE} {g:TG} (he:PE X e te) (hg:PG X tg g) (hs:swapsWithSole [tg] e pos.line X.env = pure false:=by rfl) (hw:swappedStores [tg] e X.env = pure none:=by rfl)
  (h1:(assignEach [tg] X.env).map (·.2) = [assign tg X.env]:=by rfl):PS X (.Assign [tg] e pos) (tAsg te g):=by
 intro pins s σ H D I h
 refine wpAny_Assign_stores (thn (he pins s σ H _ I h) λ v s1 ⟨x,H1,I1,r1,q1⟩=>?_) hs hw
 rw [h1]
 exact thn (hg pins s1 σ H1 x v _ I1 r1 q1) λ _ s2 q=>q
theorem a0L {i:Nat} {x:Str} {e:Expr} {te:TE} {pos':Pos} (hN:X.N.Nodup) (hi:X.N[i]? = some x) (hx:Loc X.env.scope x) (he:PE X e te) (hs:swapsWith e (some (.Name x pos')) pos.line X.env = pure false:=by rfl) (hf:X.fn x = true\/X.env.scope.names.lookup x = some .local:=by first | exact .inl rfl | exact .inr rfl | assumption) :
  PS X (.Assign [.Name x pos'] e pos) (tAsg te (c1N i)):=by
 intro pins s σ H D I h
 refine wpAny_Assign_Name (thn (he pins s σ H _ I h) λ v s1 ⟨y,H1,I1,r1,q1⟩=>?_) hs
 exact b3P I1 hN hi hx r1 (λ s2 I2=>⟨_,H1,I2,q1⟩) hf
end
section
variable {X:Cx} {pos:Pos}
def c8M (c:TT) (tb:TS):TS:=λ D σ H=>∃ W:Nat->St->Hp->Prop,(∃ m,W m σ H)/\∀ m σ H,W m σ H ->
 c σ H λ b H1=>if b = true then ∃ N:St->Hp->Prop,(∀ σ' H',N σ' H'->∃ m',m' < m/\W m' σ' H')/\tb { D with nx:=N,ct:=N,bk:=D.nx } σ H1 else D.nx σ H1
theorem a4N {c:Expr} {body:List Stmt} {tc:TT} {tb:TS} (hp:PassesOwn (model X.prog X.w) X.A X.env X.xe) (hc:PT X c tc) (hb:PSs X body tb):PS X (.While c body [] pos) (c8M tc tb):=by
 intro pins s σ H D I h
 obtain ⟨W,⟨m0,w0⟩,turn⟩:=h
 refine wpAny_While (codeAny_whileLoop (λ n s'=>∃ σ' H',Inv X pins σ' H' s'/\W n σ' H') ?_ m0 ⟨σ,H,I,w0⟩)
 rintro n s1 ⟨σ1,H1,I1,w1⟩
 refine wpAny_passesOwn hp (thn (hc pins s1 σ1 H1 _ I1 (turn n σ1 H1 w1)) λ b s2 ⟨H2,I2,q2⟩=>?_)
 cases b with
 | true =>
  obtain ⟨N,hN,q2⟩:=q2
  rw [if_pos rfl]
  refine wpAny_passesOwn hp (thn (hb pins s2 σ1 H2 _ I2 q2) λ f s3 q3=>?_)
  cases f with
  | next =>
   obtain ⟨σ3,H3,I3,n3⟩:=q3
   obtain ⟨m',hm,w3⟩:=hN σ3 H3 n3
   exact ⟨m',hm,σ3,H3,I3,w3⟩
  | cont =>
   obtain ⟨σ3,H3,I3,n3⟩:=q3
   obtain ⟨m',hm,w3⟩:=hN σ3 H3 n3
   exact ⟨m',hm,σ3,H3,I3,w3⟩
  | brk=>exact q3
  | ret v=>exact q3
 | false =>
  rw [if_neg Bool.false_ne_true]
  exact wpAny_execs_nil ⟨σ1,H2,I2,q2⟩
end
structure It where
 go:Nat->Hp->Prop
 yld:Nat->Hp->V->Hp->Prop
 stop:Nat->Hp->Prop
def FpOk (X:Cx) (pins:List (Addr × Obj)) (H:Hp) (b:Addr):Prop :=
 H b = none/\b ≠ X.env.locals/\b ∉ X.fs/\(b ∈ X.ex\/X.s₀.heap.objs.size <= b)/\(∀ x c,X.env.cells.lookup x = some c->c ≠ b)/\∀ p ∈ X.pn ++ pins,p.1 ≠ b
theorem Inv.fpOk {X:Cx} {pins:List (Addr × Obj)} {σ:St} {H H':Hp} {s:Shared} {b:Addr} (I:Inv X pins σ H s) (hb:s.heap.objs.size <= b) (hn:H' b = none):FpOk X pins H' b:=by
 refine ⟨hn,Nat.ne_of_gt (Nat.lt_of_lt_of_le I.lt hb),I.nofs hb,.inr (Nat.le_trans I.sz hb),λ x c e z=>?_,λ p hp z=>?_⟩
 ·obtain ⟨v,q⟩:=I.cell x c e
  exact absurd (Nat.lt_of_lt_of_le q.lt (by rw [z]; exact hb)) (Nat.lt_irrefl _)
 ·exact absurd (Nat.lt_of_lt_of_le (Heap.lt_size (I.pin p hp).1) (by rw [z]; exact hb)) (Nat.lt_irrefl _)
structure Turn (P:Program) (w:World) (K:Φρ) (tg:Expr) (J:It) (fp:List Addr) (it:Addr) (tn:Nat->Heap->Prop):Prop where
 mem:it ∈ fp
 obj:∀ i h,tn i h->∀ b ∈ fp,∃ o,h.get? b = some o/\∀ v,o.data ≠ .cell v
 keep:∀ i h h',tn i h->(∀ b ∈ fp,∀ o,h.get? b = some o->h'.get? b = some o)->tn i h'
 item:∀ (X:Cx),X.prog = P->X.w = w->X.K = K->X.calm = true->∀ (i:Nat) (pins:List (Addr × Obj)) (s:Shared) (σ:St) (H:Hp) (E:Value->Shared->Prop),Inv X pins σ H s->(∀ b ∈ fp,FpOk X pins H b)->tn i s.heap->J.go i H ->
  wpAny (model P w) X.A (pyNext (.ref it)) (λ r s1=>∃ u,r = some u /\
   wpAny (model P w) X.A (letOwnedTupleGo tg (.ref it) u) (λ _ s2=>∃ x H',Inv X pins σ H' s2/\RelV x u/\J.yld i H x H'/\tn (i + 1) s2.heap/\∀ b ∈ fp,H' b = none) E s1) E s
 done:∀ (X:Cx),X.prog = P->X.w = w->X.K = K->X.calm = true->∀ (i:Nat) (pins:List (Addr × Obj)) (s:Shared) (σ:St) (H:Hp) (E:Value->Shared->Prop),Inv X pins σ H s->(∀ b ∈ fp,FpOk X pins H b)->tn i s.heap->J.stop i H ->
  wpAny (model P w) X.A (pyNext (.ref it)) (λ r s1=>r = none/\Inv X pins σ H s1) E s
 self:∀ (A:Around) (i:Nat) (s:Shared) (Q:Value->Shared->Prop) (E:Value->Shared->Prop),tn i s.heap->Q (.ref it) s->wpAny (model P w) A (pyIter (.ref it)) Q E s
abbrev TI:=St->Hp->(It->Hp->Prop)->Prop
def PIE (X:Cx) (pins:List (Addr × Obj)) (σ:St) (tg:Expr) (R:It->Hp->Prop) (itv:Value) (s2:Shared):Prop :=
 ∃ (it:Addr) (fp:List Addr) (tn:Nat->Heap->Prop) (J:It) (H':Hp),itv = .ref it/\Inv X pins σ H' s2/\Turn X.prog X.w X.K tg J fp it tn/\tn 0 s2.heap/\(∀ b ∈ fp,FpOk X pins H' b)/\R J H'
def PI (X:Cx) (tg iter:Expr) (wi:TI):Prop :=
 ∀ (pins:List (Addr × Obj)) (s:Shared) (σ:St) (H:Hp) (R:It->Hp->Prop),Inv X pins σ H s->wi σ H R ->
  wpAny (model X.prog X.w) X.A (eval iter X.env) (λ v s1=>wpAny (model X.prog X.w) X.A (pyIter v) (PIE X pins σ tg R) X.xe s1) X.xe s
theorem c8N {M : Model} {A : Around} {E : Value -> Shared -> Prop} {s : Shared} {tg : Expr} {it : Addr} {u : Value} {o : Obj} {n : String} {vs : Array Value} {Q : Unit -> Shared -> Prop} (ho : s.heap.get? it = some o) (hc : o.cls = .type n) (hd : o.data = .fields vs)
    (hn : ["enumerate", "zip", "dict_itemiterator", "dict_reverseitemiterator", "odict_iterator", "itertools.zip_longest", "itertools.pairwise"].contains n = false) (hQ : Q () s) : wpAny M A (letOwnedTupleGo tg (.ref it) u) Q E s := by
  unfold letOwnedTupleGo
  cases tg <;> first
    | exact wpAny_pure hQ
    | (cases u <;> first
        | exact wpAny_pure hQ
        | (refine wpAny_bind (wpAny_load ho ?_)
           rw [hc, hd]
           show wpAny M A (if (["enumerate", "zip", "dict_itemiterator", "dict_reverseitemiterator", "odict_iterator", "itertools.zip_longest", "itertools.pairwise"].contains n && vs[0]? == some (rawInt _)) = true then _ else _) Q E s
           rw [if_neg (by intro h; rw [hn, Bool.false_and] at h; cases h)]
           exact wpAny_pure hQ))
def Itl (K:Φρ) (a:Addr):It :=
 ⟨λ i H=>∃ xs x,SqL K H a xs/\xs[i]? = some x,λ i H x H'=>H' = H/\∀ xs,SqL K H a xs->xs[i]? = some x,λ i H=>∃ xs,SqL K H a xs/\xs.length <= i⟩
def Itr (lo:Int) (n:Nat):It:=⟨λ i _=>i < n,λ i H x H'=>H' = H/\x = .int (lo + i),λ i _=>n <= i⟩
theorem b6U {P:Program} {w:World} {K:Φρ} {tg:Expr} (a it:Addr):Turn P w K tg (Itl K a) [it] it (λ i h=>h.IsListIter it a i) where
 mem:=by simp
 obj:=λ i h st b hb=>by
  have e:b = it:=by simpa using hb
  subst e
  obtain ⟨o,e,c,d⟩:=st
  exact ⟨o,e,λ v z=>by rw [d] at z; cases z⟩
 keep:=λ i h h' st k=>st.at λ o e=>k it (by simp) o e
 item:=by
  intro X hP hw hK hc i pins s σ H E I hf st hg
  subst hP hw hK
  obtain ⟨xs,x,hq,hx⟩:=hg
  obtain ⟨its,rv,p,hz⟩:=I.list hq
  obtain ⟨u,hu,ru⟩:=rv.get hx
  obtain ⟨f0,f1,f2,f3,f4,f5⟩:=hf it (by simp)
  refine wpAny_pyNext_list_item st p.isList (x:=u) (by simpa using hu) λ h' st' sb=>?_
  have I1:Inv X pins σ H { s with heap:=h' }:=I.turned (t':=s.toks) (λ b o hb e=>(sb.2 b hb).trans e) f0 f1 f3 f4 f5
  obtain ⟨o,e,c,d⟩:=id st'
  exact ⟨u,rfl,c8N (s:={ s with heap:=h' }) e c d (by decide) ⟨x,H,I1,ru,⟨rfl,λ ys hy=>by rw [I.list_inj hy hq]; exact hx⟩,st',λ b hb=>(hf b hb).1⟩⟩
 done:=by
  intro X hP hw hK hc i pins s σ H E I hf st hg
  subst hP hw hK
  obtain ⟨xs,hq,hx⟩:=hg
  obtain ⟨its,rv,p,hz⟩:=I.list hq
  obtain ⟨f0,f1,f2,f3,f4,f5⟩:=hf it (by simp)
  have hl:=rv.length
  exact wpAny_pyNext_list_end (I.ok.hd hc) st p.isList (by simp; omega) λ h' eb=>⟨rfl,I.turned (t':=s.toks) (λ b o hb e=>eb b o hb e) f0 f1 f3 f4 f5⟩
 self:=λ _ _ _ _ _ st h=>wpAny_pyIter_listiter st h
theorem b5M {P:Program} {w:World} {K:Φρ} {tg:Expr} (it:Addr) (lo:Int) (n:Nat):Turn P w K tg (Itr lo n) [it] it (λ i h=>IsRangeIter h it (lo + (i:Nat) * 1) ((n:Int) - (i:Nat)) 1) where
 mem:=by simp
 obj:=λ i h st b hb=>by
  have e:b = it:=by simpa using hb
  subst e
  exact ⟨_,st,λ v z=>by
   have z':Data.fields _ = Data.cell v:=z
   cases z'⟩
 keep:=λ i h h' st k=>k it (by simp) _ st
 item:=by
  intro X hP hw hK hc i pins s σ H E I hf st hg
  subst hP hw hK
  obtain ⟨f0,f1,f2,f3,f4,f5⟩:=hf it (by simp)
  have W:=Walks.range (prog:=X.prog) (w:=X.w) (I.ok.hd hc) it lo 1 n
  refine W.item i s _ _ hg st λ v h' tk hv st' kk=>?_
  obtain ⟨t,rfl⟩:=hv
  have I1:Inv X pins σ H { s with heap:=h',toks:=tk }:=I.turned (λ b o hb e=>kk b o (by simpa using hb) e) f0 f1 f3 f4 f5
  refine ⟨_,rfl,c8N (s:={ s with heap:=h',toks:=tk }) (n:="range_iterator") st' rfl rfl (by decide) ⟨.int (lo + i),H,I1,⟨t,?_⟩,⟨rfl,rfl⟩,st',λ b hb=>(hf b hb).1⟩⟩
  rw [Int.mul_one]
 done:=by
  intro X hP hw hK hc i pins s σ H E I hf st hg
  subst hP hw hK
  obtain ⟨f0,f1,f2,f3,f4,f5⟩:=hf it (by simp)
  exact wpAny_pyNext_range_end (I.ok.hd hc) st (by have:n <= i:=hg; omega) λ h' eb=>⟨rfl,I.turned (t':=s.toks) (λ b o hb e=>eb b o hb e) f0 f1 f3 f4 f5⟩
 self:=λ _ _ _ _ _ st h=>wpAny_pyIter_rangeiter st h
end L2
namespace L2
open PySem PySem.Spec PyProof.Rows
section
variable {X:Cx} {tg:Expr}
def c8O (K:Φρ) (tl:TE):TI:=λ σ H R=>tl σ H λ x H1=>∃ a,x = .ref a/\(∃ xs,SqL K H1 a xs)/\R (Itl K a) H1
theorem c5D {l:Expr} {tl:TE} (hl:PE X l tl):PI X tg l (c8O X.K tl):=by
 intro pins s σ H R I h
 refine thn (hl pins s σ H _ I h) λ v s1 ⟨x,H1,I1,r1,q1⟩=>?_
 obtain ⟨a,e,⟨xs,hq⟩,q⟩:=q1
 subst e
 cases r1
 obtain ⟨its,rv,p,hz⟩:=I1.list hq
 refine wpAny_pyIter_list p.isList ?_
 refine ⟨s1.heap.objs.size,[s1.heap.objs.size],_,_,H1,rfl,I1.kept (t':=s1.toks) λ b o e=>Heap.get?_push_of_some _ e,b6U a _,⟨_,Heap.get?_push_size _ rfl,rfl,rfl⟩,λ b hb=>?_,q⟩
 have e:b = s1.heap.objs.size:=by simpa using hb
 subst e
 exact I1.fpOk (Nat.le_refl _) (I1.hok.fresh (Nat.le_refl _))
theorem b3S {pins:List (Addr × Obj)} {σ:St} {H:Hp} {s:Shared} {R:It->Hp->Prop} {E:Value->Shared->Prop} {lo hi:Int} {t u v:Tok} {tk:Nat} (I:Inv X pins σ H s) (h1 : -(2 ^ 62) <= lo) (h2:lo < 2 ^ 62) (h3 : -(2 ^ 62) <= hi) (h4:hi < 2 ^ 62)
  (q:R (Itr lo (hi - lo).toNat) H):wpAny (model X.prog X.w) X.A (pyIter (.ref s.heap.objs.size)) (PIE X pins σ tg R) E { s with heap:=s.heap.push { cls:=.type "range", data:=.fields #[.int lo t,.int hi u,.int 1 v] },toks:=tk }:=by
 refine wpAny_pyIter_range (IsRange.new ..) (small_one h1 h2 h3 h4) ?_
 have I1:Inv X pins σ H { s with heap:=s.heap.push { cls:=.type "range", data:=.fields #[.int lo t,.int hi u,.int 1 v] },toks:=tk }:=I.kept λ b o e=>Heap.get?_push_of_some _ e
 refine ⟨(s.heap.push { cls:=.type "range", data:=.fields #[.int lo t,.int hi u,.int 1 v] }).objs.size,[(s.heap.push { cls:=.type "range", data:=.fields #[.int lo t,.int hi u,.int 1 v] }).objs.size],_,_,H,rfl,
  I1.kept (t':=tk) λ b o e=>Heap.get?_push_of_some _ e,b5M _ lo (hi - lo).toNat,?_,λ b hb=>?_,q⟩
 ·have e1:lo + ((0:Nat):Int) * 1 = lo:=by simp
  have e2:(((hi - lo).toNat:Nat):Int) - ((0:Nat):Int) = Builtin.Range.rangeSize lo hi 1:=by rw [rangeSize_one]; split <;> omega
  show IsRangeIter _ _ (lo + ((0:Nat):Int) * 1) ((((hi - lo).toNat:Nat):Int) - ((0:Nat):Int)) 1
  rw [e1,e2]
  exact Heap.get?_push_size _ rfl
 ·have e:b = (s.heap.push { cls:=.type "range", data:=.fields #[.int lo t,.int hi u,.int 1 v] }).objs.size:=by simpa using hb
  subst e
  exact I1.fpOk (Nat.le_refl _) (I1.hok.fresh (Nat.le_refl _))
def d0P (ta:TA):TI:=λ σ H R=>ta σ H λ vs H1=>∃ j:Int,vs = [.int j] /\ -(2 ^ 62) <= j/\j < 2 ^ 62/\R (Itr 0 j.toNat) H1
def d0Q (ta:TA):TI:=λ σ H R=>ta σ H λ vs H1=>∃ i j:Int,vs = [.int i,.int j]/\(-(2 ^ 62) <= i/\i < 2 ^ 62 /\ -(2 ^ 62) <= j/\j < 2 ^ 62)/\R (Itr i (j - i).toNat) H1
theorem a1E {a:Expr} {ta:TA} {p pos:Pos} (hg:Gl X "range") (hm:X.mg "range" = none) (ha:PA X [a] ta) (hs:starEach [a] X.env = [(false,eval a X.env)]:=by rfl):PI X tg (.Call (.Name "range" p) [a] [] pos) (d0P ta):=by
 intro pins s σ H R I h
 refine Call_ (a4C I hg hm boot_range (PyProof.Rows.callWith_type1 (thn (ha pos pins s σ H _ I h) λ us s1 ⟨vs,H1,I1,r1,q1⟩=>?_) hs rfl))
 obtain ⟨j,e,q1,q2,q⟩:=q1
 subst e
 cases r1 with
 | cons r rr =>
  cases rr
  obtain ⟨t,rfl⟩:=r
  exact call_range_1 (b3S I1 (by omega) (by omega) q1 q2 (by simpa using q))
theorem a6Q {a b:Expr} {ta:TA} {p pos:Pos} (hg:Gl X "range") (hm:X.mg "range" = none) (ha:PA X [a,b] ta) (hs:starEach [a,b] X.env = [(false,eval a X.env),(false,eval b X.env)]:=by rfl) (hs2:starEach [b] X.env = [(false,eval b X.env)]:=by rfl) :
  PI X tg (.Call (.Name "range" p) [a,b] [] pos) (d0Q ta):=by
 intro pins s σ H R I h
 refine Call_ (a4C I hg hm boot_range (PyProof.Rows.callWith_type1 (thn (ha pos pins s σ H _ I h) λ us s1 ⟨vs,H1,I1,r1,q1⟩=>?_) (by rw [hs,hs2]) (by rw [hs2]; rfl)))
 obtain ⟨i,j,e,⟨q1,q2,q3,q4⟩,q⟩:=q1
 subst e
 cases r1 with
 | cons r rr =>
  cases rr with
  | cons r' rr =>
   cases rr
   obtain ⟨t,rfl⟩:=r
   obtain ⟨t',rfl⟩:=r'
   exact call_range_2 (b3S I1 q1 q2 q3 q4 q)
def tFor (wi:TI) (g:TG) (tb:TS):TS:=λ D σ H=>wi σ H λ J H1=>∃ W:Nat->Nat->St->Hp->Prop,(∃ m,W 0 m σ H1)/\∀ i m σ H,W i m σ H ->
 (J.stop i H/\D.nx σ H)\/(J.go i H/\∃ N:St->Hp->Prop,(∀ σ' H',N σ' H'->∃ m',m' < m/\W (i + 1) m' σ' H')/\∀ x H',J.yld i H x H'->g x σ H' λ σ2 H2=>tb { D with nx:=N,ct:=N,bk:=D.nx } σ2 H2)
def a6R (fp:List Addr) (h:Heap):List (Addr × Obj):=fp.filterMap λ b=>(h.get? b).map λ o=>(b,o)
theorem a3V {fp:List Addr} {h:Heap} {b:Addr} {o:Obj} (hb:b ∈ fp) (e:h.get? b = some o):(b,o) ∈ a6R fp h:=List.mem_filterMap.mpr ⟨b,hb,by rw [e]; rfl⟩
theorem b6V {fp:List Addr} {h:Heap} {p:Addr × Obj} (hp:p ∈ a6R fp h):p.1 ∈ fp/\h.get? p.1 = some p.2:=by
 obtain ⟨b,hb,e⟩:=List.mem_filterMap.mp hp
 cases q:h.get? b with
 | none=>rw [q] at e; cases e
 | some o =>
  rw [q] at e
  have e':(b,o) = p:=Option.some.inj e
  subst e'
  exact ⟨hb,q⟩
theorem Inv.pinned {pins:List (Addr × Obj)} {σ:St} {H:Hp} {s:Shared} {fp:List Addr} (I:Inv X pins σ H s) (hf:∀ b ∈ fp,FpOk X pins H b) (ho:∀ b ∈ fp,∃ o,s.heap.get? b = some o/\∀ v,o.data ≠ .cell v):Inv X (pins ++ a6R fp s.heap) σ H s :=
 I.pins_of λ p hp=>(List.mem_append.mp hp).elim (λ z=>I.pin p (List.mem_append_right _ z)) λ z=>by
  obtain ⟨hb,e⟩:=b6V z
  obtain ⟨f0,f1,f2,_⟩:=hf p.1 hb
  obtain ⟨o,e',d⟩:=ho p.1 hb
  rw [e] at e'; cases e'
  exact ⟨e,f0,f1,f2,d⟩
theorem Inv.unpinned {pins pl:List (Addr × Obj)} {σ:St} {H:Hp} {s:Shared} (I:Inv X (pins ++ pl) σ H s):Inv X pins σ H s:=I.pins_of λ p hp=>I.pin p (List.mem_append_right _ (List.mem_append_left _ hp))
theorem a1U {iter:Expr} {body:List Stmt} {wi:TI} {g:TG} {tb:TS} {pos:Pos} (hp:PassesOwn (model X.prog X.w) X.A X.env X.xe) (hc:X.calm = true) (hi:PI X tg iter wi) (hg:PG X tg g) (hb:PSs X body tb)
  (hs:∀ x,foldedSetIterable iter X.env x = pure x:=by intro _; rfl):PS X (.For tg iter body [] pos) (tFor wi g tb):=by
 intro pins s σ H D I h
 refine wpAny_For (thn (hi pins s σ H _ I h) λ v s1 h1=>thn h1 λ itv s2 h2=>?_) hs
 obtain ⟨it,fp,tn,J,H2,e,I2,T,st2,f2,W,⟨m0,w0⟩,turn⟩:=h2
 subst e
 have stat:∀ {H':Hp},(∀ b ∈ fp,H' b = none)->∀ b ∈ fp,FpOk X pins H' b:=λ hn b hb=>⟨hn b hb,(f2 b hb).2⟩
 refine codeAny_forLoop_any (λ n s'=>∃ i σ' H',Inv X pins σ' H' s'/\tn i s'.heap/\(∀ b ∈ fp,H' b = none)/\W i n σ' H') ?_ m0 ⟨0,σ,H2,I2,st2,λ b hb=>(f2 b hb).1,w0⟩
 rintro n s3 ⟨i,σ3,H3,I3,st3,fr3,w3⟩
 rcases turn i n σ3 H3 w3 with ⟨stop,qn⟩ | ⟨go,N,hN,step⟩
 ·refine wpAny_passesOwn hp (thn (T.done X rfl rfl rfl hc i pins s3 σ3 H3 X.xe I3 (stat fr3) st3 stop) λ r s4 ⟨hr,I4⟩=>?_)
  subst hr
  exact wpAny_execs_nil ⟨σ3,H3,I4,qn⟩
 ·refine wpAny_passesOwn hp (thn (T.item X rfl rfl rfl hc i pins s3 σ3 H3 X.xe I3 (stat fr3) st3 go) λ r s4 ⟨u,hr,h4⟩=>?_)
  subst hr
  refine wpAny_passesOwn hp (thn h4 λ _ s5 ⟨x,H5,I5,r5,y5,st5,fr5⟩=>?_)
  have I5':=I5.pinned (stat fr5) (T.obj _ _ st5)
  refine wpAny_passesOwn hp (thn (hg _ s5 σ3 H5 x u _ I5' r5 (step x H5 y5)) λ _ s6 ⟨σ6,H6,I6,q6⟩=>?_)
  refine wpAny_passesOwn hp (thn (hb _ s6 σ6 H6 _ I6 q6) λ f s7 q7=>?_)
  have again:∀ {σ7:St} {H7:Hp},Inv X (pins ++ a6R fp s5.heap) σ7 H7 s7->N σ7 H7->∃ m,m < n/\∃ i σ' H',Inv X pins σ' H' s7/\tn i s7.heap/\(∀ b ∈ fp,H' b = none)/\W i m σ' H':=λ {σ7 H7} I7 n7=>by
   obtain ⟨m',hm,w7⟩:=hN σ7 H7 n7
   refine ⟨m',hm,i + 1,σ7,H7,I7.unpinned,T.keep _ _ _ st5 λ b hb o e=>(I7.pin (b,o) (List.mem_append_right _ (List.mem_append_right _ (a3V hb e)))).1,λ b hb=>?_,w7⟩
   obtain ⟨o,e,d⟩:=T.obj _ _ st5 b hb
   exact (I7.pin (b,o) (List.mem_append_right _ (List.mem_append_right _ (a3V hb e)))).2.1
  cases f with
  | next=>obtain ⟨σ7,H7,I7,n7⟩:=q7; exact again I7 n7
  | cont=>obtain ⟨σ7,H7,I7,n7⟩:=q7; exact again I7 n7
  | brk=>obtain ⟨σ7,H7,I7,q7⟩:=q7; exact ⟨σ7,H7,I7.unpinned,q7⟩
  | ret v=>obtain ⟨x7,σ7,H7,I7,r7,q7⟩:=q7; exact ⟨x7,σ7,H7,I7.unpinned,r7,q7⟩
end
theorem a3W {K:Φρ} {a:Addr} {xs:List V} {g:TG} {tb:TS} {D:Ends} {σ:St} {H:Hp} (Pv:Nat->St->Hp->Prop) (h0:Pv 0 σ H) (hl:∀ i σ H,i <= xs.length->Pv i σ H->SqL K H a xs)
  (hs:∀ i x σ H,xs[i]? = some x->Pv i σ H->g x σ H λ σ2 H2=>tb { D with nx:=Pv (i + 1),ct:=Pv (i + 1),bk:=D.nx } σ2 H2) (hd:∀ σ H,Pv xs.length σ H->D.nx σ H) :
  ∃ W:Nat->Nat->St->Hp->Prop,(∃ m,W 0 m σ H)/\∀ i m σ H,W i m σ H ->
   ((Itl K a).stop i H/\D.nx σ H)\/((Itl K a).go i H/\∃ N:St->Hp->Prop,(∀ σ' H',N σ' H'->∃ m',m' < m/\W (i + 1) m' σ' H')/\∀ x H',(Itl K a).yld i H x H'->g x σ H' λ σ2 H2=>tb { D with nx:=N,ct:=N,bk:=D.nx } σ2 H2):=by
 refine ⟨λ i m σ H=>m = xs.length - i/\i <= xs.length/\Pv i σ H,⟨xs.length,by simp,Nat.zero_le _,h0⟩,?_⟩
 rintro i m σ H ⟨rfl,hi,p⟩
 have q:=hl i σ H hi p
 by_cases hlt:i < xs.length
 ·refine .inr ⟨⟨xs,xs[i],q,by simp [hlt]⟩,Pv (i + 1),λ σ' H' p'=>⟨xs.length - (i + 1),by omega,rfl,hlt,p'⟩,λ x H' y=>?_⟩
  obtain ⟨e,y⟩:=y
  subst e
  exact hs i x σ _ (y xs q) p
 ·have e:i = xs.length:=by omega
  subst e
  exact .inl ⟨⟨xs,q,Nat.le_refl _⟩,hd σ H p⟩
theorem a1R {lo:Int} {n:Nat} {g:TG} {tb:TS} {D:Ends} {σ:St} {H:Hp} (Pv:Nat->St->Hp->Prop) (h0:Pv 0 σ H)
  (hs:∀ i σ H,i < n->Pv i σ H->g (.int (lo + i)) σ H λ σ2 H2=>tb { D with nx:=Pv (i + 1),ct:=Pv (i + 1),bk:=D.nx } σ2 H2) (hd:∀ σ H,Pv n σ H->D.nx σ H) :
  ∃ W:Nat->Nat->St->Hp->Prop,(∃ m,W 0 m σ H)/\∀ i m σ H,W i m σ H ->
   ((Itr lo n).stop i H/\D.nx σ H)\/((Itr lo n).go i H/\∃ N:St->Hp->Prop,(∀ σ' H',N σ' H'->∃ m',m' < m/\W (i + 1) m' σ' H')/\∀ x H',(Itr lo n).yld i H x H'->g x σ H' λ σ2 H2=>tb { D with nx:=N,ct:=N,bk:=D.nx } σ2 H2):=by
 refine ⟨λ i m σ H=>m = n - i/\i <= n/\Pv i σ H,⟨n,by simp,Nat.zero_le _,h0⟩,?_⟩
 rintro i m σ H ⟨rfl,hi,p⟩
 by_cases hlt:i < n
 ·refine .inr ⟨hlt,Pv (i + 1),λ σ' H' p'=>⟨n - (i + 1),by omega,rfl,hlt,p'⟩,λ x H' y=>?_⟩
  obtain ⟨e,y⟩:=y
  subst e y
  exact hs i σ _ hlt p
 ·have e:i = n:=by omega
  subst e
  exact .inl ⟨Nat.le_refl _,hd σ H p⟩
end L2
namespace L2
open PySem PySem.Spec PyProof.Rows
abbrev R2:=V->V->Hp->VK->Prop
def OpR (X:Cx) (f:Value->Value->Sem Value) (r:R2):Prop :=
 ∀ (pins:List (Addr × Obj)) (s:Shared) (σ:St) (H:Hp) (x y:V) (v u:Value) (Q:VK),Inv X pins σ H s->RelV x v->RelV y u->r x y H Q ->
  wpAny (model X.prog X.w) X.A (f v u) (EP X pins σ Q) X.xe s
def UnR (X:Cx) (f:Value->Sem Value) (r:V->Hp->VK->Prop):Prop :=
 ∀ (pins:List (Addr × Obj)) (s:Shared) (σ:St) (H:Hp) (x:V) (v:Value) (Q:VK),Inv X pins σ H s->RelV x v->r x H Q ->
  wpAny (model X.prog X.w) X.A (f v) (EP X pins σ Q) X.xe s
def CallR (X:Cx) (f:Value) (r:List V->Hp->VK->Prop):Prop :=
 ∀ (pins:List (Addr × Obj)) (s:Shared) (σ:St) (H:Hp) (xs:List V) (us:List Value) (Q:VK),Inv X pins σ H s->Vals xs us->r xs H Q ->
  wpAny (model X.prog X.w) X.A (call f us) (EP X pins σ Q) X.xe s
def TruR (X:Cx) (r:V->Hp->(Bool->Hp->Prop)->Prop):Prop :=
 ∀ (pins:List (Addr × Obj)) (s:Shared) (σ:St) (H:Hp) (x:V) (v:Value) (Q:Bool->Hp->Prop),Inv X pins σ H s->RelV x v->r x H Q ->
  wpAny (model X.prog X.w) X.A (truthy v) (TP X pins σ Q) X.xe s
def tOp (r:R2) (ta tb:TE):TE:=λ σ H Q=>ta σ H λ x H1=>tb σ H1 λ y H2=>r x y H2 Q
def tUn (r:V->Hp->VK->Prop) (ta:TE):TE:=λ σ H Q=>ta σ H λ x H1=>r x H1 Q
def rI (C:Int->Int->Prop) (g:Int->Int->V):R2:=λ x y H Q=>∃ i j,x = .int i/\y = .int j/\C i j/\Q (g i j) H
def rI0 (g:Int->Int->V):R2:=λ x y H Q=>∃ i j,x = .int i/\y = .int j/\Q (g i j) H
def rU (g:Int->V):V->Hp->VK->Prop:=λ x H Q=>∃ i,x = .int i/\Q (g i) H
section
variable {X:Cx} {a b c:Expr} {ta tb tc:TE} {pos:Pos}
theorem binT (ha:PE X a ta) (hb:PE X b tb) {pins:List (Addr × Obj)} {s:Shared} {σ:St} {H:Hp} {R:V->V->Hp->Prop} (I:Inv X pins σ H s)
  (h:ta σ H λ x H1=>tb σ H1 λ y H2=>R x y H2) {Q:Value->Shared->Prop} {f:Value->Value->Sem Value}
  (hf:∀ v u s2 x y H2,Inv X pins σ H2 s2->RelV x v->RelV y u->R x y H2->wpAny (model X.prog X.w) X.A (f v u) Q X.xe s2) :
  wpAny (model X.prog X.w) X.A (eval a X.env) (λ v s₁=>wpAny (model X.prog X.w) X.A (eval b X.env) (λ u s₂=>wpAny (model X.prog X.w) X.A (f v u) Q X.xe s₂) X.xe s₁) X.xe s:=by
 refine thn (ha pins s σ H _ I h) λ v s1 ⟨x,H1,I1,r1,q1⟩=>?_
 refine thn (hb pins s1 σ H1 _ I1 q1) λ u s2 ⟨y,H2,I2,r2,q2⟩=>?_
 exact hf v u s2 x y H2 I2 r1 r2 q2
theorem a0Q {op:Operator} {r:R2} (ho:OpR X (binaryOp op) r) (ha:PE X a ta) (hb:PE X b tb):PE X (.BinOp a op b pos) (tOp r ta tb):=by
 intro pins s σ H Q I h
 exact wpAny_BinOp (binT ha hb I h λ v u s2 x y H2 I2 rx ry q=>ho pins s2 σ H2 x y v u Q I2 rx ry q)
theorem c1O {op:UnaryOp} {r:V->Hp->VK->Prop} (ho:UnR X (unaryOp op) r) (ha:PE X a ta):PE X (.UnaryOp op a pos) (tUn r ta):=by
 intro pins s σ H Q I h
 exact UnaryOp_ (thn (ha pins s σ H _ I h) λ v s1 ⟨x,H1,I1,r1,q1⟩=>ho pins s1 σ H1 x v Q I1 r1 q1)
theorem opI {f:Value->Value->Sem Value} {C:Int->Int->Prop} {g:Int->Int->Int}
  (rule:∀ (i j:Int) (t u:Tok) (s:Shared) (Q:Value->Shared->Prop) (E:Value->Shared->Prop),C i j->Q (.int (g i j) s.toks) { s with toks:=s.toks + 1 }->wpAny (model X.prog X.w) X.A (f (.int i t) (.int j u)) Q E s) :
  OpR X f (rI C λ i j=>.int (g i j)):=by
 intro pins s σ H x y v u Q I rx ry h
 obtain ⟨i,j,rfl,rfl,hc,q⟩:=h
 obtain ⟨t,rfl⟩:=rx
 obtain ⟨t',rfl⟩:=ry
 exact rule i j t t' s _ _ hc ⟨.int (g i j),H,I.tok _,⟨_,rfl⟩,q⟩
theorem opI0 {f:Value->Value->Sem Value} {g:Int->Int->Int}
  (rule:∀ (i j:Int) (t u:Tok) (s:Shared) (Q:Value->Shared->Prop) (E:Value->Shared->Prop),Q (.int (g i j) s.toks) { s with toks:=s.toks + 1 }->wpAny (model X.prog X.w) X.A (f (.int i t) (.int j u)) Q E s) :
  OpR X f (rI0 λ i j=>.int (g i j)):=by
 intro pins s σ H x y v u Q I rx ry h
 obtain ⟨i,j,rfl,rfl,q⟩:=h
 obtain ⟨t,rfl⟩:=rx
 obtain ⟨t',rfl⟩:=ry
 exact rule i j t t' s _ _ ⟨.int (g i j),H,I.tok _,⟨_,rfl⟩,q⟩
theorem opB0 {f:Value->Value->Sem Value} {g:Int->Int->Bool}
  (rule:∀ (i j:Int) (t u:Tok) (s:Shared) (Q:Value->Shared->Prop) (E:Value->Shared->Prop),Q (.bool (g i j)) s->wpAny (model X.prog X.w) X.A (f (.int i t) (.int j u)) Q E s) :
  OpR X f (rI0 λ i j=>.bl (g i j)):=by
 intro pins s σ H x y v u Q I rx ry h
 obtain ⟨i,j,rfl,rfl,q⟩:=h
 obtain ⟨t,rfl⟩:=rx
 obtain ⟨t',rfl⟩:=ry
 exact rule i j t t' s _ _ ⟨.bl (g i j),H,I,rfl,q⟩
def CDiv (i j:Int):Prop:=0 < j/\j < 1073741824
def CPow (i j:Int):Prop:=0 <= j/\j <= 1000000/\i.natAbs < 2 ^ 64
def CMul (i j:Int):Prop:=(-(2 ^ 64) < i/\i < 2 ^ 64)\/(-(2 ^ 64) < j/\j < 2 ^ 64)
theorem CMul.ok {i j:Int} (h:CMul i j):IntMulOk i j:=by
 rcases h with ⟨h1,h2⟩ | ⟨h1,h2⟩
 ·exact .of_left (intBits_le_64 h1 h2)
 ·exact .of_right (intBits_le_64 h1 h2)
theorem b5N (k:Nat):(0:Int) <= 2 ^ k:=by
 rw [two_pow_cast]
 exact Int.natCast_nonneg _
theorem a3I:OpR X (binaryOp .Add) (rI0 λ i j=>.int (i + j)):=opI0 λ _ _ _ _ _ _ _ q=>add_int q
theorem a5T:OpR X (binaryOp .Sub) (rI0 λ i j=>.int (i - j)):=opI0 λ _ _ _ _ _ _ _ q=>sub_int q
theorem a7X:OpR X (binaryOp .Mult) (rI CMul λ i j=>.int (i * j)):=opI λ _ _ _ _ _ _ _ hc q=>mul_int q hc.ok
theorem a8R:OpR X (binaryOp .FloorDiv) (rI CDiv λ i j=>.int (i / j)):=opI λ i j _ _ _ _ _ hc q=>by
 have h1:(0:Int) < j:=hc.1
 have h2:j < 1073741824:=hc.2
 exact floordiv_int (by omega) (by rw [Int.fdiv_eq_ediv_of_nonneg i (by omega)]; exact q) (.inl (PyProof.noPylong_small (by omega)))
theorem a2Z:OpR X (binaryOp .Mod) (rI (λ _ j=>0 < j) λ i j=>.int (i % j)):=opI λ i j _ _ _ _ _ hc q=>by
 have h1:(0:Int) < j:=hc
 exact mod_int' (by omega) (by rw [Int.fmod_eq_emod_of_nonneg i (by omega)]; exact q)
theorem a7Y:OpR X (binaryOp .LShift) (rI CPow λ i j=>.int (i * 2 ^ j.toNat)):=opI λ _ _ _ _ _ _ _ hc q=>lshift_int_small hc.1 hc.2.1 hc.2.2 q
theorem c8P:OpR X (binaryOp .RShift) (rI (λ _ j=>0 <= j) λ i j=>.int (i / 2 ^ j.toNat)):=opI λ i j _ _ _ _ _ hc q =>
 rshift_int hc (by rw [Int.fdiv_eq_ediv_of_nonneg i (b5N _)]; exact q)
theorem c4D:OpR X (binaryOp .BitAnd) (rI0 λ i j=>.int (Builtin.bitAnd i j)):=opI0 λ _ _ _ _ _ _ _ q=>and_int q
theorem c5E:OpR X (binaryOp .BitOr) (rI0 λ i j=>.int (Builtin.bitOr i j)):=opI0 λ _ _ _ _ _ _ _ q=>or_int q
theorem unI {f:Value->Sem Value} {g:Int->Int}
  (rule:∀ (i:Int) (t:Tok) (s:Shared) (Q:Value->Shared->Prop) (E:Value->Shared->Prop),Q (.int (g i) s.toks) { s with toks:=s.toks + 1 }->wpAny (model X.prog X.w) X.A (f (.int i t)) Q E s) :
  UnR X f (rU λ i=>.int (g i)):=by
 intro pins s σ H x v Q I rx h
 obtain ⟨i,rfl,q⟩:=h
 obtain ⟨t,rfl⟩:=rx
 exact rule i t s _ _ ⟨.int (g i),H,I.tok _,⟨_,rfl⟩,q⟩
theorem b3T:UnR X (unaryOp .USub) (rU λ i=>.int (-i)):=unI λ _ _ _ _ _ q=>neg_int q
end
def scal:V->V->Bool
 | .non,.non=>true | .non,.int _=>true | .int _,.non=>true | .non,.bl _=>true | .bl _,.non=>true | .non,.str _=>true | .str _,.non=>true
 | .int _,.int _=>true | .bl _,.bl _=>true | .str _,.str _=>true | .byt _,.byt _=>true
 | .int _,.str _=>true | .str _,.int _=>true | .bl _,.str _=>true | .str _,.bl _=>true
 | _,_=>false
def rEq:R2:=λ x y H Q=>scal x y = true/\Q (.bl (decide (x = y))) H
def rNe:R2:=λ x y H Q=>scal x y = true/\Q (.bl (!decide (x = y))) H
theorem b6W {i j:Int}:decide (V.int i = V.int j) = (i == j):=by
 rw [Bool.eq_iff_iff]
 simp
theorem c4E {i j:Bool}:decide (V.bl i = V.bl j) = (i == j):=by
 rw [Bool.eq_iff_iff]
 simp
theorem b6X {i j:Str}:decide (V.str i = V.str j) = (i == j):=by
 rw [Bool.eq_iff_iff]
 simp
theorem b6Y {i j:Array UInt8}:decide (V.byt i = V.byt j) = (i.toList == j.toList):=by
 rw [Bool.eq_iff_iff]
 cases i
 cases j
 simp
section
variable {X:Cx} {a b c:Expr} {ta tb tc:TE} {pos:Pos}
theorem a0Z {pins:List (Addr × Obj)} {σ:St} {H:Hp} {s:Shared} {Q:VK} {k k':Bool} (I:Inv X pins σ H s) (q:Q (.bl k) H) (e:k = k'):EP X pins σ Q (.bool k') s:=by
 subst e
 exact ⟨.bl k,H,I,rfl,q⟩
theorem a9Z:OpR X (compareOp .Eq) rEq:=by
 intro pins s σ H x y v u Q I rx ry h
 obtain ⟨hs,q⟩:=h
 cases x with
 | non =>
  cases rx
  cases y with
  | non=>cases ry; exact PySem.EqNone.eq_none_none (a0Z I q (by simp))
  | bl j=>cases ry; exact PySem.EqNone.eq_none_bool (a0Z I q (by simp))
  | int j=>obtain ⟨t',rfl⟩:=ry; exact PySem.EqNone.eq_none_int (a0Z I q (by simp))
  | str j=>obtain ⟨t',rfl⟩:=ry; exact PySem.EqNone.eq_none_str (a0Z I q (by simp))
  | _=>exact absurd (show false = true from hs) Bool.false_ne_true
 | bl i =>
  cases rx
  cases y with
  | non=>cases ry; exact PySem.EqNone.eq_bool_none (a0Z I q (by simp))
  | bl j=>cases ry; exact eq_bool (a0Z I q c4E)
  | str j=>obtain ⟨t',rfl⟩:=ry; exact PySem.EqMixed.eq_bool_str (a0Z I q (by simp))
  | _=>exact absurd (show false = true from hs) Bool.false_ne_true
 | int i =>
  obtain ⟨t,rfl⟩:=rx
  cases y with
  | non=>cases ry; exact PySem.EqNone.eq_int_none (a0Z I q (by simp))
  | int j=>obtain ⟨t',rfl⟩:=ry; exact eq_int (a0Z I q b6W)
  | str j=>obtain ⟨t',rfl⟩:=ry; exact PySem.EqMixed.eq_int_str (a0Z I q (by simp))
  | _=>exact absurd (show false = true from hs) Bool.false_ne_true
 | str i =>
  obtain ⟨t,rfl⟩:=rx
  cases y with
  | non=>cases ry; exact PySem.EqNone.eq_str_none (a0Z I q (by simp))
  | bl j=>cases ry; exact PySem.EqMixed.eq_str_bool (a0Z I q (by simp))
  | int j=>obtain ⟨t',rfl⟩:=ry; exact PySem.EqMixed.eq_str_int (a0Z I q (by simp))
  | str j=>obtain ⟨t',rfl⟩:=ry; exact eq_str (a0Z I q b6X)
  | _=>exact absurd (show false = true from hs) Bool.false_ne_true
 | byt i =>
  obtain ⟨t,rfl⟩:=rx
  cases y with
  | byt j=>obtain ⟨t',rfl⟩:=ry; exact PySem.W.eq_bytes (a0Z I q b6Y)
  | _=>exact absurd (show false = true from hs) Bool.false_ne_true
 | _=>cases y <;> exact absurd (show false = true from hs) Bool.false_ne_true
theorem c1P:OpR X (compareOp .NotEq) rNe:=by
 intro pins s σ H x y v u Q I rx ry h
 obtain ⟨hs,q⟩:=h
 cases x with
 | non =>
  cases rx
  cases y with
  | non=>cases ry; exact PySem.EqNone.ne_none_none (a0Z I q (by simp))
  | bl j=>cases ry; exact PySem.EqNone.ne_none_bool (a0Z I q (by simp))
  | int j=>obtain ⟨t',rfl⟩:=ry; exact PySem.EqNone.ne_none_int (a0Z I q (by simp))
  | str j=>obtain ⟨t',rfl⟩:=ry; exact PySem.EqNone.ne_none_str (a0Z I q (by simp))
  | _=>exact absurd (show false = true from hs) Bool.false_ne_true
 | bl i =>
  cases rx
  cases y with
  | non=>cases ry; exact PySem.EqNone.ne_bool_none (a0Z I q (by simp))
  | bl j=>cases ry; exact ne_bool (a0Z I q (congrArg not c4E))
  | str j=>obtain ⟨t',rfl⟩:=ry; exact PySem.EqMixed.ne_bool_str (a0Z I q (by simp))
  | _=>exact absurd (show false = true from hs) Bool.false_ne_true
 | int i =>
  obtain ⟨t,rfl⟩:=rx
  cases y with
  | non=>cases ry; exact PySem.EqNone.ne_int_none (a0Z I q (by simp))
  | int j=>obtain ⟨t',rfl⟩:=ry; exact ne_int (a0Z I q (congrArg not b6W))
  | str j=>obtain ⟨t',rfl⟩:=ry; exact PySem.EqMixed.ne_int_str (a0Z I q (by simp))
  | _=>exact absurd (show false = true from hs) Bool.false_ne_true
 | str i =>
  obtain ⟨t,rfl⟩:=rx
  cases y with
  | non=>cases ry; exact PySem.EqNone.ne_str_none (a0Z I q (by simp))
  | bl j=>cases ry; exact PySem.EqMixed.ne_str_bool (a0Z I q (by simp))
  | int j=>obtain ⟨t',rfl⟩:=ry; exact PySem.EqMixed.ne_str_int (a0Z I q (by simp))
  | str j=>obtain ⟨t',rfl⟩:=ry; exact ne_str (a0Z I q (congrArg not b6X))
  | _=>exact absurd (show false = true from hs) Bool.false_ne_true
 | byt i =>
  obtain ⟨t,rfl⟩:=rx
  cases y with
  | byt j=>obtain ⟨t',rfl⟩:=ry; exact PySem.W.ne_bytes (a0Z I q (congrArg not b6Y))
  | _=>exact absurd (show false = true from hs) Bool.false_ne_true
 | _=>cases y <;> exact absurd (show false = true from hs) Bool.false_ne_true
theorem a8S:OpR X (compareOp .Lt) (rI0 λ i j=>.bl (decide (i < j))):=opB0 λ _ _ _ _ _ _ _ q=>lt_int q
theorem c8Q:OpR X (compareOp .LtE) (rI0 λ i j=>.bl (decide (i <= j))):=opB0 λ _ _ _ _ _ _ _ q=>le_int q
theorem d0R:OpR X (compareOp .Gt) (rI0 λ i j=>.bl (decide (j < i))):=opB0 λ _ _ _ _ _ _ _ q=>gt_int q
theorem c8R : OpR X (compareOp .Is) (fun x y H Q => y = .non /\ Q (.bl (decide (x = .non))) H) := by
  intro pins s σ H x y v u Q I rx ry h
  obtain ⟨rfl, q⟩ := h
  cases ry
  refine is_none_gen (a0Z I q ?_)
  cases x <;> first
    | (cases rx; rfl)
    | (obtain ⟨t, rfl⟩ := rx; rfl)
theorem c5F : OpR X (compareOp .IsNot) (fun x y H Q => y = .non /\ Q (.bl (!decide (x = .non))) H) := by
  intro pins s σ H x y v u Q I rx ry h
  obtain ⟨rfl, q⟩ := h
  cases ry
  refine isnot_none_gen (a0Z I q ?_)
  cases x <;> first
    | (cases rx; rfl)
    | (obtain ⟨t, rfl⟩ := rx; rfl)
theorem a1J (b:Expr) {op:CmpOp} (h:op ≠ .In:=by decide) (h2:op ≠ .NotIn:=by decide):behindInMarks op b = false:=by
 have e1:(op == CmpOp.In) = false:=by cases op <;> first | rfl | exact absurd rfl h
 have e2:(op == CmpOp.NotIn) = false:=by cases op <;> first | rfl | exact absurd rfl h2
 cases b <;> simp [behindInMarks,e1,e2]
theorem b2I {op:CmpOp} {r:R2} (ho:OpR X (compareOp op) r) (ha:PE X a ta) (hb:PE X b tb) (hm:behindInMarks op b = false):PE X (.Compare a [op] [b] pos) (tOp r ta tb):=by
 intro pins s σ H Q I h
 exact wpAny_Compare1 (binT ha hb I h λ v u s2 x y H2 I2 rx ry q=>ho pins s2 σ H2 x y v u Q I2 rx ry q) hm
def d0S (t:TE):TT:=λ σ H Q=>t σ H λ x H'=>∃ k,x = .bl k/\Q k H'
theorem a0O {op:CmpOp} {r:R2} (ho:OpR X (compareOp op) r) (ha:PE X a ta) (hb:PE X b tb) (hm:behindInMarks op b = false):PT X (.Compare a [op] [b] pos) (d0S (tOp r ta tb)):=by
 intro pins s σ H Q I h
 refine wpAny_isTrue_Compare1 (thn (ha pins s σ H _ I h) λ v s1 ⟨x,H1,I1,r1,q1⟩=>thn (hb pins s1 σ H1 _ I1 q1) λ u s2 ⟨y,H2,I2,r2,q2⟩ =>
  thn (ho pins s2 σ H2 x y v u _ I2 r1 r2 q2) λ c s3 ⟨z,H3,I3,r3,k,e,q3⟩=>?_) hm
 subst e
 cases r3
 exact wpAny_truthy_bool ⟨H3,I3,q3⟩
def c8S (r r':R2) (ta tb tc:TE):TE:=λ σ H Q=>ta σ H λ x H1=>tb σ H1 λ y H2=>r x y H2 λ z H3=>∃ k,z = .bl k /\
 (if k = true then tc σ H3 λ w' H4=>r' y w' H4 Q else Q (.bl false) H3)
theorem c1Q {op op':CmpOp} {r r':R2} (ho:OpR X (compareOp op) r) (ho':OpR X (compareOp op') r') (ha:PE X a ta) (hb:PE X b tb) (hc:PE X c tc)
  (hm:lastMarks [op,op'] [b,c] = false:=by with_unfolding_all rfl):PE X (.Compare a [op,op'] [b,c] pos) (c8S r r' ta tb tc):=by
 intro pins s σ H Q I h
 refine Compare_chain (thn (ha pins s σ H _ I h) λ v s1 ⟨x,H1,I1,r1,q1⟩=>chain_link (thn (hb pins s1 σ H1 _ I1 q1) λ u s2 ⟨y,H2,I2,r2,q2⟩ =>
  thn (ho pins s2 σ H2 x y v u _ I2 r1 r2 q2) λ d s3 ⟨z,H3,I3,r3,k,e,q3⟩=>?_)) hm
 subst e
 cases r3
 refine wpAny_truthy_bool ?_
 cases k with
 | false=>exact ite_ff ⟨.bl false,H3,I3,rfl,q3⟩
 | true=>exact ite_tt (chain_last (thn (hc pins s3 σ H3 _ I3 q3) λ w' s4 ⟨z',H4,I4,r4,q4⟩=>ho' pins s4 σ H4 y z' u w' Q I4 r2 r4 q4))
def TruV (K:Φρ) (x:V) (H:Hp) (k:Bool):Prop :=
 match x with
 | .non=>k = false
 | .bl b=>k = b
 | .int i=>k = (i != 0)
 | .str y=>y.length <= sizeLine/\k = ((y.length:Int) != 0)
 | .byt y=>y.size <= sizeLine/\k = ((y.size:Int) != 0)
 | .ref p=>(∃ xs,SqL K H p xs/\k = !xs.isEmpty)\/(∃ xs,SqT K H p xs/\k = !xs.isEmpty)\/∃ kvs,H p = some (.dK kvs)/\k = !kvs.isEmpty
 | _=>False
theorem b5O {κ:Type} {kvs:List (κ × V)} {vs:List (κ × Value)} (r:KV kvs vs):(!vs.isEmpty) = !kvs.isEmpty:=by
 cases r <;> rfl
theorem a5H {xs:List V} {its:List Value} (r:Vals xs its):(!its.toArray.isEmpty) = !xs.isEmpty:=by
 cases r <;> simp
theorem a7Z:(sizeLine:Nat) < 2 ^ 63:=by rw [sizeLine_eq]; decide
theorem b6Z:TruR X (λ x H Q=>∃ k,TruV X.K x H k/\Q k H):=by
 intro pins s σ H x v Q I rx h
 obtain ⟨k,e,q⟩:=h
 have hl:=a7Z
 have hs:sizeLine = 16777216:=sizeLine_eq
 cases x with
 | non =>
  cases rx
  have e':k = false:=e
  subst e'
  exact truthy_none ⟨H,I,q⟩
 | bl b =>
  cases rx
  have e':k = b:=e
  subst e'
  exact wpAny_truthy_bool ⟨H,I,q⟩
 | int i =>
  obtain ⟨t,rfl⟩:=rx
  have e':k = (i != 0):=e
  subst e'
  exact PySem.P.truthy_int ⟨H,I,q⟩
 | str y =>
  obtain ⟨t,rfl⟩:=rx
  obtain ⟨hy,e'⟩:y.length <= sizeLine/\k = ((y.length:Int) != 0):=e
  subst e'
  exact PySem.P.truthy_str (by omega) ⟨H,I.tok _,q⟩
 | byt y =>
  obtain ⟨t,rfl⟩:=rx
  obtain ⟨hy,e'⟩:y.size <= sizeLine/\k = ((y.size:Int) != 0):=e
  subst e'
  exact PySem.W.truthy_bytes (by omega) ⟨H,I.tok _,q⟩
 | ref p =>
  cases rx
  have e':(∃ xs,SqL X.K H p xs/\k = !xs.isEmpty)\/(∃ xs,SqT X.K H p xs/\k = !xs.isEmpty)\/∃ kvs,H p = some (.dK kvs)/\k = !kvs.isEmpty:=e
  rcases e' with ⟨xs,hx,e'⟩ | ⟨xs,hx,e'⟩ | ⟨kvs,hx,e'⟩
  ·subst e'
   obtain ⟨its,r,pl,hz⟩:=I.list hx
   have hlen:=r.length
   exact wpAny_truthy_list pl.isList (by simp only [List.size_toArray]; omega) ⟨H,I.tok _,by rw [a5H r]; exact q⟩
  ·subst e'
   obtain ⟨its,r,pl,hz⟩:=I.tuple hx
   have hlen:=r.length
   exact truthy_tuple pl (by simp only [List.size_toArray]; omega) ⟨H,I.tok _,by rw [a5H r]; exact q⟩
  ·subst e'
   obtain ⟨hz,hS,vs,r,m⟩:kvs.length <= sizeLine/\(p == sysModules) = false/\∃ vs,KV kvs vs/\s.heap.DictOf (b2G X.prog X.w) p vs:=I.hok p _ hx
   have hlen:kvs.length = vs.length:=Paired.length r
   exact wpAny_truthy_dict hS m (by omega) ⟨H,I.tok _,by rw [b5O r]; exact q⟩
 | _=>exact (show False from e).elim
theorem c1R (ha:PE X a ta) (he:∀ whole,isTrue a X.env whole = (do let v <- whole; standAt a.pos; holding [v] (truthy v))) :
  PT X a (λ σ H Q=>ta σ H λ x H'=>∃ k,TruV X.K x H' k/\Q k H'):=by
 intro pins s σ H Q I h
 exact isTrue_plain (thn (ha pins s σ H _ I h) λ v s1 ⟨x,H1,I1,r1,q1⟩=>b6Z pins s1 σ H1 x v Q I1 r1 q1) (he _)
theorem a4B {x:V} {us:List Value} (r:Vals [x] us):∃ u,us = [u]/\RelV x u:=by
 cases r with
 | cons r1 r2=>cases r2; exact ⟨_,rfl,r1⟩
theorem c5G {x y:V} {us:List Value} (r:Vals [x,y] us):∃ u w',us = [u,w']/\RelV x u/\RelV y w':=by
 cases r with
 | cons r1 r2 =>
  cases r2 with
  | cons r3 r4=>cases r4; exact ⟨_,_,rfl,r1,r3⟩
theorem b7A (hc:X.calm = true):CallR X (.builtin "max") (λ xs H Q=>∃ i j,xs = [.int i,.int j]/\Q (.int (if j > i then j else i)) H):=by
 intro pins s σ H xs us Q I r h
 obtain ⟨i,j,rfl,q⟩:=h
 obtain ⟨u,w',rfl,⟨t,rfl⟩,⟨t',rfl⟩⟩:=c5G r
 refine max_two_ints (I.ok.hd hc) λ h' tk k=>⟨_,H,I.kept k,?_,q⟩
 by_cases hj:j > i
 ·rw [if_pos hj,if_pos hj]; exact ⟨_,rfl⟩
 ·rw [if_neg hj,if_neg hj]; exact ⟨_,rfl⟩
theorem b7B (hc:X.calm = true):CallR X (.builtin "min") (λ xs H Q=>∃ i j,xs = [.int i,.int j]/\Q (.int (if j < i then j else i)) H):=by
 intro pins s σ H xs us Q I r h
 obtain ⟨i,j,rfl,q⟩:=h
 obtain ⟨u,w',rfl,⟨t,rfl⟩,⟨t',rfl⟩⟩:=c5G r
 refine min_two_ints (I.ok.hd hc) λ h' tk k=>⟨_,H,I.kept k,?_,q⟩
 by_cases hj:j < i
 ·rw [if_pos hj,if_pos hj]; exact ⟨_,rfl⟩
 ·rw [if_neg hj,if_neg hj]; exact ⟨_,rfl⟩
end
end L2
namespace L2
open PySem PySem.Spec PyProof.Rows
structure ObjM (h:Heap) (x dx C:Addr) (mA:Str->Option Value):Prop where
 obj:h.get? x = some (PySem.W.instObj C dx)
 ns:h.Ns1 dx mA
 ne:dx ≠ x
theorem b7C {h:Heap} {dx:Addr} {mA:Str->Option Value} (n:h.Ns1 dx mA):∃ od,h.get? dx = some od/\∀ name,PySem.W.lookIn name od = some (mA name):=by
 obtain ⟨o,es,ep,ho,hd,hk,_,hm⟩:=n
 refine ⟨o,ho,λ name=>?_⟩
 have e:=hm name
 unfold nsFind findBy at e
 rw [<- Array.find?_toList] at e
 unfold PySem.W.lookIn
 rw [hd]
 dsimp only
 split
 ·rename_i y q
  rw [q] at e
  exact congrArg some e
 ·rename_i q
  rw [q] at e
  have a:es.toList.any (·.refKey) = false:=by
   rw [List.any_eq_false]
   intro y hy
   obtain ⟨z,t,hkey⟩:=hk y (Array.mem_toList_iff.mp hy)
   simp [DictEntry.refKey,hkey]
  have a':¬ es.toList.any (·.refKey) = true:=by rw [a]; exact Bool.false_ne_true
  rw [if_neg a']
  exact congrArg some e
theorem ObjM.look {h:Heap} {x dx C:Addr} {mA:Str->Option Value} (I:ObjM h x dx C mA):∃ od,PySem.W.InstAt h x (PySem.W.instObj C dx) C (some od)/\∀ name,PySem.W.lookIn name od = some (mA name) :=
 let ⟨od,ho,hl⟩:=b7C I.ns
 ⟨od,⟨I.obj,rfl,rfl,ho⟩,hl⟩
section
variable {prog:Program} {w:World} {A:Around} {E:Value->Shared->Prop} {s:Shared} {K:Φρ} {x dx C f:Addr} {mA:Str->Option Value} {name:Str} {v:Value}
end
section
variable {P:Program} {w:World} {H H':Hp} {h h':Heap} {a C dx:Addr} {fs fs':List (Str × V)}
theorem a8T (hok:HOk P w H h) (e:H a = some (.ins C dx fs)):∃ mA,ObjM h a dx C mA/\(∀ f,RelO (fs.lookup f) (mA f))/\PySem.Within mA (fs.map (·.1))/\fs.length <= 1000/\H dx = some (.own a):=by
 obtain ⟨d,z,ne,ob,mA,n,r,q⟩:=(show ObjOk P w H h a (.ins C dx fs) from hok a _ e)
 exact ⟨mA,⟨ob,n,ne⟩,r,q,z,d⟩
end
structure Cls (K:Φρ) (C:Addr):Prop where
 pg:PySem.W.plainGet K C Str.empty = true
 hd:PySem.W.hasDictIn K C = true
 po:PySem.W.plainOver K C = true
 sa:PySem.W.findIn K (.ref C) "__setattr__" = some (some (.builtin "object.__setattr__"))
theorem Cls.get {K:Φρ} {C:Addr} (c:Cls K C) (f:Str):PySem.W.plainGet K C f = true:=c.pg
section
variable {X:Cx} {pins:List (Addr × Obj)} {σ:St} {H:Hp} {s:Shared} {a C dx:Addr} {fs:List (Str × V)} {f:Str} {v:V} {A:Around} {E:Value->Shared->Prop}
end
section
variable {X:Cx} {o e value:Expr} {f:Str} {pos pos' tpos:Pos} {ta tv:TE}
end
section
variable {X:Cx} {pins:List (Addr × Obj)} {σ:St} {H:Hp} {s:Shared} {A:Around} {E:Value->Shared->Prop} {Q:Value->Shared->Prop} {c:Value} {b:Bool}
inductive TyOf (K:Φρ) (H:Hp):V->Value->Prop where
 | non:TyOf K H .non (.type "NoneType")
 | bl (x:Bool):TyOf K H (.bl x) (.type "bool")
 | int (i:Int):TyOf K H (.int i) (.type "int")
 | str (x:Str):TyOf K H (.str x) (.type "str")
 | flt (x:UInt64):TyOf K H (.flt x) (.type "float")
 | lst {a:Addr} {xs:List V} (e:H a = some (.lst xs)):TyOf K H (.ref a) (.type "list")
 | frz {a:Addr} {o:Obj} {xs:List V} (e:H a = some (.frz o (.lst xs))):TyOf K H (.ref a) (.type "list")
 | tup {a:Addr} {xs:List V} (e:H a = some (.tup xs)):TyOf K H (.ref a) (.type "tuple")
 | dK {a:Addr} {kvs:List (Key × V)} (e:H a = some (.dK kvs)):TyOf K H (.ref a) (.type "dict")
 | dT {a:Addr} {kvs:List (List Key × V)} (e:H a = some (.dT kvs)):TyOf K H (.ref a) (.type "dict")
 | ins {a C dx:Addr} {fs:List (Str × V)} (e:H a = some (.ins C dx fs)) (cl:Cls K C) (ha:PySem.W.findIn K (.ref C) "__class__" = some (some (.builtin "object.__class__")))
   (hn:PySem.W.specialIn K (.builtin "object.__class__") "__get__" = some (some (.builtin "getset_descriptor.__get__"))) (htk:PySem.W.takesIn K (.builtin "object.__class__") = some true)
   (hm:PySem.W.mroIn K C (.type "object") = some true):TyOf K H (.ref a) (.ref C)
theorem b7D {x:V} {u t:Value} (I:Inv X pins σ H s) (rx:RelV x u) (ty:TyOf X.K H x t) (e:PySem.W.kitOne X.K t c = some b) (h:∀ tk,Q (.bool b) { s with toks:=tk }) :
  wpAny (model X.prog X.w) A (call (.builtin "isinstance") [u,c]) Q E s:=by
 cases ty with
 | non=>cases (show u = Value.none from rx); exact PySem.W.kia_one PySem.W.kitx_none I.kIn True.intro e (λ z=>nomatch z) h
 | bl y=>cases (show u = Value.bool y from rx); exact PySem.W.kia_one PySem.W.kitx_bool I.kIn True.intro e (λ z=>nomatch z) h
 | int i=>obtain ⟨t,q⟩:=(show ∃ t,u = Value.int i t from rx); cases q; exact PySem.W.kia_one PySem.W.kitx_int I.kIn True.intro e (λ z=>nomatch z) h
 | str y=>obtain ⟨t,q⟩:=(show ∃ t,u = Value.str y t from rx); cases q; exact PySem.W.kia_one PySem.W.kitx_str I.kIn True.intro e (λ z=>nomatch z) h
 | flt y=>obtain ⟨t,q⟩:=(show ∃ t,u = Value.float y t from rx); cases q; exact PySem.W.kia_one PySem.W.kitx_float I.kIn True.intro e (λ z=>nomatch z) h
 | @lst a xs ea =>
  cases (show u = Value.ref a from rx)
  obtain ⟨_,_,n,_,h1⟩:=(show ObjOk X.prog X.w H s.heap a (.lst xs) from I.hok a _ ea)
  exact PySem.W.kia_one PySem.W.kitx_list I.kIn ⟨_,h1,rfl⟩ e (λ z=>nomatch z) h
 | @frz a ob xs ea =>
  cases (show u = Value.ref a from rx)
  obtain ⟨_,_,_,n,_,h1⟩:=(show ObjOk X.prog X.w H s.heap a (.frz ob (.lst xs)) from I.hok a _ ea)
  exact PySem.W.kia_one PySem.W.kitx_list I.kIn ⟨_,h1,rfl⟩ e (λ z=>nomatch z) h
 | @tup a xs ea =>
  cases (show u = Value.ref a from rx)
  obtain ⟨_,_,_,p⟩:=(show ObjOk X.prog X.w H s.heap a (.tup xs) from I.hok a _ ea)
  obtain ⟨o,h1,h2,_⟩:=p
  exact PySem.W.kia_one PySem.W.kitx_tuple I.kIn ⟨o,h1,h2⟩ e (λ z=>nomatch z) h
 | @dK a kvs ea =>
  cases (show u = Value.ref a from rx)
  obtain ⟨_,_,vs,_,p⟩:=(show ObjOk X.prog X.w H s.heap a (.dK kvs) from I.hok a _ ea)
  obtain ⟨o,es,ep,h1,h2,_⟩:=p
  exact PySem.W.kia_one PySem.W.kitx_dict I.kIn ⟨o,h1,h2.1⟩ e (λ z=>nomatch z) h
 | @dT a kvs ea =>
  cases (show u = Value.ref a from rx)
  obtain ⟨_,_,xs,_,o,es,ep,h1,h2,_⟩:=(show ObjOk X.prog X.w H s.heap a (.dT kvs) from I.hok a _ ea)
  exact PySem.W.kia_one PySem.W.kitx_dict I.kIn ⟨o,h1,h2.1⟩ e (λ z=>nomatch z) h
 | @ins a C dx fs ea cl ha hn htk hm =>
  cases (show u = Value.ref a from rx)
  obtain ⟨mA,O,_⟩:=a8T I.hok ea
  obtain ⟨od,J,_⟩:=O.look
  exact PySem.W.kia_one (PySem.W.kitx_own (cl.get _) cl.hd ha hn htk hm) I.kIn J e (λ z=>nomatch z) h
end
end L2
namespace L2
open PySem PySem.Spec PyProof.Rows
structure Room (k:Nat) (A:Around):Prop where
 hd:A.handled = none
 dp:A.depth + 3 * k + 5 < recursionLimit
 un:A.units + 16 * k + 200 < cLine
theorem Room.mono {j k:Nat} {A:Around} (r:Room k A) (h:j <= k):Room j A:=⟨r.hd,by have:=r.dp; omega,by have:=r.un; omega⟩
theorem Room.deeper {k:Nat} {A:Around} (r:Room (k + 1) A) (env:Env):Room k (A.deeper env) :=
 ⟨r.hd,by have:=r.dp; show A.depth + 1 + 3 * k + 5 < _; omega,by have:=r.un; show A.units + 3 + 16 * k + 200 < _; omega⟩
theorem Room.depth {k:Nat} {A:Around} (r:Room k A):A.depth < recursionLimit:=by have:=r.dp; omega
theorem Room.units {k:Nat} {A:Around} (r:Room k A):A.units + 64 < cLine:=by have:=r.un; omega
def tNil:TA:=λ _ H Q=>Q [] H
def c8T (ta:TE) (tr:TA):TA:=λ σ H Q=>ta σ H λ x H1=>tr σ H1 λ xs H2=>Q (x :: xs) H2
section
variable {X:Cx} {e:Expr} {es:List Expr} {te:TE} {t:TA} {pos:Pos}
theorem a0B:PA X [] tNil:=λ _ _ _ _ H Q I h=>Calls.spliced_nil ⟨[],H,I,.nil,h⟩
theorem a0A (ha:PE X e te) (hr:PA X es t) (hs:starEach (e :: es) X.env = (false,eval e X.env) :: starEach es X.env:=by rfl):PA X (e :: es) (c8T te t):=by
 intro pos pins s σ H Q I h
 rw [hs]
 show wpAny _ _ (spliced ((false,eval e X.env) :: backTo pos (starEach es X.env))) _ _ s
 refine Calls.spliced_cons (thn (ha pins s σ H _ I h) λ u s1 ⟨x,H1,I1,r1,q1⟩=>?_)
 exact thn (hr pos pins s1 σ H1 _ I1 q1) λ us s2 ⟨xs,H2,I2,r2,q2⟩=>⟨x :: xs,H2,I2,.cons r1 r2,q2⟩
end
abbrev Sp:=List V->Hp->VK->XK->Prop
abbrev CXT:=List Env->Hp->Shared->XK->Value->Shared->Prop
structure Env0 (P:Program) (w:World) (K:Φρ) (mg:Str->Option Value) (base:Heap) (A:Around) (outer:List Env) (s:Shared) (H:Hp):Prop where
 frames:A.frames = some outer
 mod:Mod K mg base
 bs:∀ b o,base.get? b = some o->s.heap.get? b = some o/\H b = none
 bsz:base.objs.size <= s.heap.objs.size
 funs:s.heap.FunFrames base outer
 frf:∀ b ∈ frs outer,H b = none
 hok:HOk P w H s.heap
 bare:AllBare s.gens
def CE (outer:List Env) (P:Program) (w:World) (H:Hp) (s:Shared) (Q:VK) (u:Value) (s':Shared):Prop :=
 ∃ v H',s'.os = s.os/\AllBare s'.gens/\Un (frs outer) [] H H' s.heap s'.heap/\HOk P w H' s'.heap/\RelV v u/\Q v H'
def CR (CX:CXT) (outer:List Env) (P:Program) (w:World) (H:Hp) (s:Shared) (Q:VK) (E:XK) (r:Result) (s':Shared):Prop :=
 match r with
 | .ok (.ret u)=>CE outer P w H s Q u s'
 | .ok _=>False
 | .error e=>CX outer H s E e s'
structure FnOk (P:Program) (w:World) (K:Φρ) (mg:Str->Option Value) (base:Heap) (CX:CXT) (k:Nat) (f:Addr) (fd:FuncData) (ps:List Str) (sp:Sp):Prop where
 len:∀ vs H Q E,sp vs H Q E->vs.length = ps.length
 run:∀ (A:Around) (outer:List Env) (s:Shared) (H:Hp) (args:Args) (us:List Value) (vs:List V) (Q:VK) (E:XK),Room k A->Env0 P w K mg base A outer s H->BindsTo s fd args (ps.zip us)->Vals vs us->sp vs H Q E ->
  codeAny (model P w) A (.call (.ref f) args) (CR CX outer P w H s Q E) s
theorem FnOk.mono {P:Program} {w:World} {K:Φρ} {mg:Str->Option Value} {base:Heap} {CX:CXT} {j k:Nat} {f:Addr} {fd:FuncData} {ps:List Str} {sp:Sp} (F:FnOk P w K mg base CX j f fd ps sp) (h:j <= k) :
  FnOk P w K mg base CX k f fd ps sp:=⟨F.len,λ A outer s H args us vs Q E hr=>F.run A outer s H args us vs Q E (hr.mono h)⟩
section
variable {X:Cx} {pins:List (Addr × Obj)} {σ:St} {H:Hp} {s s':Shared}
theorem Inv.env0 (I:Inv X pins σ H s):Env0 X.prog X.w X.K X.mg X.base X.A X.stack s H :=
 ⟨I.ok.frames,I.ok.mod,I.bs,Nat.le_trans I.ok.bsz I.sz,I.stack,I.stkFree,I.hok,I.bare⟩
theorem Inv.after {Q:VK} {u:Value} (I:Inv X pins σ H s) (h:CE X.stack X.prog X.w H s Q u s'):EP X pins σ Q u s':=by
 obtain ⟨v,H',os,bare,un,hok,r,q⟩:=h
 obtain ⟨hh,g,d,t,os'⟩:=s'
 obtain rfl:os' = s.os:=os
 exact ⟨v,H',I.call (h':=hh) (g':=g) (d':=d) (t':=t) (ch:=[]) un hok bare (λ b z=>absurd z (by simp)),r,q⟩
end
def d0T (sp:Sp) (dvs:List V) (E:XK) (t:TA):TE:=λ σ H Q=>t σ H λ vs H1=>sp (vs ++ dvs) H1 Q E
def Binds (K:Φρ) (fd:FuncData) (ps:List Str) (ds:List Value):Prop :=
 ∀ (s:Shared) (us:List Value),K.In s.heap->(us ++ ds).length = ps.length->BindsTo s fd ⟨us,[]⟩ (ps.zip (us ++ ds))
theorem Binds.all {K:Φρ} {fd:FuncData} {ps:List Str} (h:∀ us:List Value,us.length = ps.length->bindArgs fd ⟨us,[]⟩ = pure (ps.zip us)):Binds K fd ps []:=λ s us _ hl=>by
 rw [List.append_nil] at hl ⊢
 exact .of_eq (h us hl)
def b7E (CX:CXT) (X:Cx) (E:XK):Prop:=∀ (pins:List (Addr × Obj)) (σ:St) (H:Hp) (s:Shared) (e:Value) (s':Shared),Inv X pins σ H s->CX X.stack H s E e s'->X.xe e s'
section
variable {X:Cx} {CX:CXT} {k:Nat} {f C:Addr} {fd:FuncData} {ps:List Str} {sp:Sp} {dvs:List V} {ds:List Value} {E:XK} {x m:Str} {p pos apos:Pos} {e o:Expr} {es:List Expr} {ta:TE} {t:TA}
theorem c8U {pins:List (Addr × Obj)} {σ:St} {H:Hp} {s:Shared} {Q:VK} {us:List Value} {vs:List V} (F:FnOk X.prog X.w X.K X.mg X.base CX k f fd ps sp) (hr:Room k X.A) (hb:Binds X.K fd ps ds) (hd:Vals dvs ds) (hx:b7E CX X E)
  (I:Inv X pins σ H s) (r:Vals vs us) (h:sp (vs ++ dvs) H Q E):wpAny (model X.prog X.w) X.A (call (.ref f) us) (EP X pins σ Q) X.xe s:=by
 have r2:Vals (vs ++ dvs) (us ++ ds):=r.append hd
 have hl:(us ++ ds).length = ps.length:=by rw [<- r2.length]; exact F.len _ _ _ _ h
 refine wpAny_call (codeAny_mono (F.run X.A X.stack s H ⟨us,[]⟩ (us ++ ds) (vs ++ dvs) Q E hr I.env0 (hb s us I.kIn hl) r2 h) λ r s' hq=>?_)
 cases r with
 | error e=>exact hx pins σ H s e s' I hq
 | ok fl =>
  cases fl with
  | ret u=>exact I.after hq
  | next=>exact False.elim hq
  | brk=>exact False.elim hq
  | cont=>exact False.elim hq
theorem a0F (F:FnOk X.prog X.w X.K X.mg X.base CX k f fd ps sp) (hr:Room k X.A) (hg:Gl X x) (hm:X.mg x = some (.ref f)) (hk:PySem.W.keepIn X.K (.ref f) = true) (hb:Binds X.K fd ps ds) (hd:Vals dvs ds) (hx:b7E CX X E)
  (ha:PA X (e :: es) t) (hdb:(x == ("__debug__" : Str)) = false:=by decide) (he:starEach (e :: es) X.env = (false,eval e X.env) :: starEach es X.env:=by rfl) (hpl:(backTo pos (starEach es X.env)).any (·.1) = false:=by rfl) :
  PE X (.Call (.Name x p) (e :: es) [] pos) (d0T sp dvs E t):=by
 intro pins s σ H Q I h
 refine wpAny_Call_Name_kw (c5B I hg hm ?_ hdb)
 refine PySem.W.callWith_K (h₀:=X.base) I.ok.mod.kin hk (thn (ha pos pins s σ H _ I h) λ us s1 ⟨vs,H1,I1,r,q⟩=>⟨I1.kIn,?_⟩) he hpl
 exact c8U F hr hb hd hx I1 r q
end
def PK (X:Cx) (kws:List Keyword) (t:TA):Prop :=
 ∀ (pos:Pos) (pins:List (Addr × Obj)) (s:Shared) (σ:St) (H:Hp) (Q:List V->Hp->Prop),Inv X pins σ H s->t σ H Q->wpAny (model X.prog X.w) X.A (evalAll ((backToKw pos (keywordEach kws X.env)).map (·.2))) (AP X pins σ Q) X.xe s
section
variable {X:Cx} {CX:CXT} {k:Nat} {f C:Addr} {fd:FuncData} {ps ks:List Str} {sp:Sp} {E:XK} {x m:Str} {p pos apos kpos:Pos} {e o:Expr} {es:List Expr} {kws:List Keyword} {te ta:TE} {t tk:TA} {nm:Option Str}
theorem c4F:PK X [] tNil:=λ _ _ _ _ H Q I h=>wpAny_evalAll_nil ⟨[],H,I,.nil,h⟩
theorem b7F (ha:PE X e te) (hr:PK X kws t):PK X (⟨nm,e,kpos⟩ :: kws) (c8T te t):=by
 intro pos pins s σ H Q I h
 show wpAny _ _ (evalAll ((do let v <- eval e X.env; standAt pos; pure v) :: (backToKw pos (keywordEach kws X.env)).map (·.2))) _ _ s
 refine wpAny_evalAll_cons (wpAny_bind (thn (ha pins s σ H _ I h) λ u s1 ⟨x,H1,I1,r1,q1⟩=>wpAny_bind (wpAny_standAt (wpAny_pure ?_))))
 exact thn (hr pos pins s1 σ H1 _ I1 q1) λ us s2 ⟨xs,H2,I2,r2,q2⟩=>⟨x :: xs,H2,I2,.cons r1 r2,q2⟩
variable {g:List Value->List Value->List Value} {gV:List V->List V->List V}
end
structure FnScope (N P:List Str) (sc:Scope):Prop where
 kind:sc.kind = .function
 co:sc.isCoroutine = false
 gen:sc.isGenerator = false
 nd:N.Nodup
 pre:N.take P.length = P
 par:∀ x ∈ P,sc.names.lookup x = some .local\/sc.names.lookup x = some .cell
 nofree:∀ y ∈ sc.names,y.2 ≠ .free
theorem b0A {kindOf:Str->Option NameKind} {x:Str}:∀ {binds:List (Str × Value)} {m:Str->Option Value},(∀ v,(x,v) ∉ binds)->bindL kindOf binds m x = m x
 | [],_,_=>rfl
 | (n,v) :: r,m,h=>by
  unfold bindL
  rw [b0A λ w hw=>h w (List.mem_cons_of_mem _ hw)]
  split
  ·have:x ≠ n:=by rintro rfl; exact h v List.mem_cons_self
   simp [this]
  ·rfl
theorem b0B {kindOf:Str->Option NameKind} {x:Str}:∀ {binds:List (Str × Value)} {m:Str->Option Value},(∀ v,(x,v) ∉ binds)->bindC kindOf binds m x = m x
 | [],_,_=>rfl
 | (n,v) :: r,m,h=>by
  unfold bindC
  rw [b0B λ w hw=>h w (List.mem_cons_of_mem _ hw)]
  split
  ·rfl
  ·have:x ≠ n:=by rintro rfl; exact h v List.mem_cons_self
   simp [this]
theorem b0C {kindOf:Str->Option NameKind} {x:Str} {v:Value}:∀ {P:List Str} {vs:List Value} {i:Nat} {m:Str->Option Value},P.Nodup->P[i]? = some x->vs[i]? = some v->kindOf x = some .local ->
  bindL kindOf (P.zip vs) m x = some v
 | [],_,_,_,_,h,_,_=>by simp at h
 | _ :: _,[],_,_,_,_,h,_=>by simp at h
 | p :: P,w :: vs,0,m,nd,h1,h2,hk=>by
  simp at h1 h2; subst h1; subst h2
  show bindL kindOf ((p,w) :: P.zip vs) m p = _
  unfold bindL
  rw [b0A λ v hv=>(List.nodup_cons.mp nd).1 (List.of_mem_zip hv).1,if_pos hk]
  simp
 | p :: P,w :: vs,i + 1,m,nd,h1,h2,hk=>by
  show bindL kindOf ((p,w) :: P.zip vs) m x = _
  unfold bindL
  exact b0C (i:=i) (List.nodup_cons.mp nd).2 (by simpa using h1) (by simpa using h2) hk
theorem b0D {kindOf:Str->Option NameKind} {x:Str} {v:Value}:∀ {P:List Str} {vs:List Value} {i:Nat} {m:Str->Option Value},P.Nodup->P[i]? = some x->vs[i]? = some v->kindOf x ≠ some .local ->
  bindC kindOf (P.zip vs) m x = some v
 | [],_,_,_,_,h,_,_=>by simp at h
 | _ :: _,[],_,_,_,_,h,_=>by simp at h
 | p :: P,w :: vs,0,m,nd,h1,h2,hk=>by
  simp at h1 h2; subst h1; subst h2
  show bindC kindOf ((p,w) :: P.zip vs) m p = _
  unfold bindC
  rw [b0B λ v hv=>(List.nodup_cons.mp nd).1 (List.of_mem_zip hv).1,if_neg hk]
  simp
 | p :: P,w :: vs,i + 1,m,nd,h1,h2,hk=>by
  show bindC kindOf ((p,w) :: P.zip vs) m x = _
  unfold bindC
  exact b0D (i:=i) (List.nodup_cons.mp nd).2 (by simpa using h1) (by simpa using h2) hk
def b0E (N:List Str) (vs:List V):St:=vs.map some ++ List.replicate (N.length - vs.length) none
def cxOf (CX:CXT) (P:Program) (w:World) (K:Φρ) (mg:Str->Option Value) (base:Heap) (N:List Str) (qual:Str) (scope:Scope) (f:Addr) (cd:Value) (A:Around) (outer:List Env) (s:Shared) (H:Hp) (E:XK):Cx where
 prog:=P
 w:=w
 K:=K
 mg:=mg
 base:=base
 A:=A.deeper (envOfC qual scope s.heap.objs.size f cd)
 N:=N
 s₀:=s
 H₀:=H
 env:=envOfC qual scope s.heap.objs.size f cd
 outer:=outer
 stack:=envOfC qual scope s.heap.objs.size f cd :: outer
 ex:=[]
 calm:=true
 fn:=λ _=>true
 pn:=[]
 xe:=λ e s'=>wpAny (model P w) (A.deeper (envOfC qual scope s.heap.objs.size f cd)) (leaving (envOfC qual scope s.heap.objs.size f cd) e) (λ _ s''=>CX outer H s E e s'') (λ e' s''=>CX outer H s E e' s'') s'
theorem b3U {sc:Scope} {n:Nat} {x:Str} (h:sc.names.lookup x = some .cell):∃ c,(cellsFrom n sc.names []).lookup x = some c:=by
 have q:=PySem.W.cellsFrom_some sc.names n [] (.inl h)
 exact Option.isSome_iff_exists.mp q
theorem b7G {CX:CXT} {P:Program} {w:World} {K:Φρ} {mg:Str->Option Value} {base:Heap} {N ps:List Str} {qual:Str} {scope:Scope} {f:Addr} {cd:Value} {A:Around} {outer:List Env} {s s1:Shared} {H:Hp} {E:XK} {us:List Value} {vs:List V}
  (S:FnScope N ps scope) (hd:A.handled = none) (e0:Env0 P w K mg base A outer s H) (hl:vs.length = ps.length) (r:Vals vs us)
  (x:InCallC s s.heap.objs.size (bindL (envOfC qual scope s.heap.objs.size f cd).kindOf (ps.zip us) λ _=>none) (cellsFrom (s.heap.objs.size + 1) scope.names []) (bindC (envOfC qual scope s.heap.objs.size f cd).kindOf (ps.zip us) λ _=>none) s1) :
  Inv (cxOf CX P w K mg base N qual scope f cd A outer s H E) [] (b0E N vs) H s1:=by
 have hpl:ps.length <= N.length:=by have:=congrArg List.length S.pre; rw [List.length_take] at this; omega
 obtain ⟨h1,tk,rfl,hk⟩:=x.done
 have noA:∀ b:Addr,b ∉ (cxOf CX P w K mg base N qual scope f cd A outer s H E).ex:=λ b z=>absurd (show b ∈ ([]:List Addr) from z) (by simp)
 refine ⟨⟨e0.mod,S.kind,rfl,rfl,Nat.le_refl _,λ y z c h1 h2=>?_,λ y hy=>?_,λ y c _ h=>?_,λ _=>hd,Around.frames_deeper e0.frames,.inr ⟨rfl,rfl⟩,λ b z=>absurd z (noA b),e0.bs,e0.bsz,λ b _ _=>noA b,λ b z=>absurd z (noA b),e0.funs,e0.frf⟩,
  rfl,e0.bare,Un.kept hk,⟨_,x.toInCall.ns,λ i y v h1 h2 h3=>?_⟩,λ y c h=>⟨_,x.cell y c h⟩,e0.hok.fresh (Nat.le_refl _),λ y c h=>?_,λ p hp=>absurd (show p ∈ ([]:List (Addr × Obj)) from hp) (by simp),e0.hok.kept hk,?_⟩
 ·exact name_of_addr x.apart (PySem.mem_of_lookup h1) (PySem.mem_of_lookup h2)
 ·have hy:scope.names.lookup y = some .cell\/scope.names.lookup y = some .free:=hy
  rcases hy with hy | hy
  ·exact b3U hy
  ·exact absurd rfl (S.nofree _ (PySem.mem_of_lookup hy))
 ·exact Nat.le_of_lt (x.above y c (PySem.mem_of_lookup h))
 ·have hi:i < vs.length:=by
   unfold b0E at h2
   by_cases hi:i < vs.length
   ·exact hi
   ·rw [List.getElem?_append_right (by simpa using hi)] at h2
    rw [List.getElem?_replicate] at h2
    split at h2 <;> cases h2
  have ha:vs[i]? = some v:=by
   unfold b0E at h2
   rw [List.getElem?_append_left (by simpa using hi),List.getElem?_map] at h2
   cases e:vs[i]? with
   | none=>rw [e] at h2; cases h2
   | some a=>rw [e] at h2; cases h2; rfl
  obtain ⟨u,hu,rv⟩:=r.get ha
  have hp:ps[i]? = some y:=by
   rw [<- S.pre,List.getElem?_take_of_lt (by omega)]; exact h1
  have ndP:ps.Nodup:=by rw [<- S.pre]; exact S.nd.sublist (List.take_sublist _ _)
  refine ⟨u,rv,?_⟩
  rcases S.par y (List.mem_of_getElem? hp) with k | k
  ·exact .inl ⟨k,b0C ndP hp hu k⟩
  ·obtain ⟨c,e⟩:=b3U (n:=s.heap.objs.size + 1) k
   refine .inr ⟨.inl k,c,e,?_⟩
   have q:=x.cell y c e
   rw [b0D ndP hp hu (by show scope.names.lookup y ≠ _; rw [k]; decide)] at q
   exact q
 ·exact e0.hok.fresh (Nat.le_of_lt (x.above y c (PySem.mem_of_lookup h)))
 ·unfold b0E
  show _ = N.length
  rw [List.length_append,List.length_map,List.length_replicate]
  omega
theorem d0U {CX:CXT} {P:Program} {w:World} {K:Φρ} {mg:Str->Option Value} {base:Heap} {k:Nat} {f:Addr} {name qual:Str} {params:Arguments} {body:List Stmt} {scope:Scope} {dV kV doc pm cdv ct oc:Value} {an od:Option Addr}
  {osl:Array (Option Value)} {N ps:List Str} {sp:Sp} (lk:K.lookup f = some ⟨oc,od,.func (PySem.W.fnOf name qual params body scope dV kV doc pm an cdv ct),osl⟩) (hcd:PySem.W.codeIn K cdv qual = true) (S:FnScope N ps scope)
  (len:∀ vs H Q E,sp vs H Q E->vs.length = ps.length)
  (hbody:∀ (A:Around) (outer:List Env) (s:Shared) (H:Hp) (vs:List V) (Q:VK) (E:XK),Room k (A.deeper (envOfC qual scope s.heap.objs.size f cdv))->sp vs H Q E ->
   ∃ t,PSs (cxOf CX P w K mg base N qual scope f cdv A outer s H E) body t/\t { nx:=λ _ H'=>Q .non H',rt:=Q } (b0E N vs) H) :
  FnOk P w K mg base CX (k + 1) f (PySem.W.fnOf name qual params body scope dV kV doc pm an cdv ct) ps sp:=by
 refine ⟨len,λ A outer s H args us vs Q E hr e0 hb r hsp=>?_⟩
 have hl:=len _ _ _ _ hsp
 have KX:K.In s.heap:=e0.mod.kin.keeps λ b o e=>(e0.bs b o e).1
 have lim:s.heap.NoLimit:=e0.mod.nolimit.keeps λ b o e=>(e0.bs b o e).1
 have hkind:∀ y ∈ ps.zip us,scope.names.lookup y.1 = some .local\/(scope.names.lookup y.1 = some .cell/\((cellsFrom (s.heap.objs.size + 1) scope.names []).lookup y.1).isSome = true):=λ ⟨n,v⟩ hy=>by
  rcases S.par n (List.of_mem_zip hy).1 with q | q
  ·exact .inl q
  ·exact .inr ⟨q,PySem.W.cellsFrom_some _ _ _ (.inl q)⟩
 refine codeAny_call_function hr.depth (KX _ _ lk) rfl S.co S.gen rfl (PySem.W.codeRec_of KX hcd) (hb _ _ _ _ ?_)
 refine wpAny_newFunctionEnv_cells S.kind hkind λ env he s1 x=>?_
 subst he
 refine ⟨lim.keeps x.toInCall.keep,codeAny_func ?_⟩
 obtain ⟨t,ht,hq⟩:=hbody A outer s H vs Q E (hr.deeper _) hsp
 have I:Inv (cxOf CX P w K mg base N qual scope f cdv A outer s H E) [] (b0E N vs) H s1:=b7G S hr.hd e0 hl r x
 refine wpAny_mono (ht [] s1 (b0E N vs) H _ I hq) (λ fl s' hs=>?_) λ e s' hs=>hs
 have fin:∀ {σ':St} {H':Hp} {v:V} {u:Value},Inv (cxOf CX P w K mg base N qual scope f cdv A outer s H E) [] σ' H' s'->RelV v u->Q v H'->CE outer P w H s Q u s' :=
  λ {σ' H' v u} J rv q=>⟨v,H',J.os,J.bare,J.base,J.hok,rv,q⟩
 cases fl with
 | ret u =>
  obtain ⟨v,σ',H',J,rv,q⟩:=hs
  exact fin J rv q
 | next =>
  obtain ⟨σ',H',J,q⟩:=hs
  exact fin (v:=V.non) (u:=Value.none) J rfl q
 | brk =>
  obtain ⟨_,_,_,q⟩:=hs
  exact False.elim q
 | cont =>
  obtain ⟨_,_,_,q⟩:=hs
  exact False.elim q
end L2
namespace L2
open PySem PySem.Spec PyProof.Rows
section
variable {X:Cx} {x:Str} {p pos:Pos} {e:Expr} {es:List Expr} {t:TA} {id T:String} {r:List V->Hp->VK->Prop}
def tCB (r:List V->Hp->VK->Prop) (t:TA):TE:=λ σ H Q=>t σ H λ vs H1=>r vs H1 Q
theorem a0N (hc:CallR X (.builtin id) r) (hg:Gl X x) (hm:X.mg x = none) (hv:bootBuiltins x = some (.builtin id)) (ha:PA X (e :: es) t) (hn:x ≠ "__name__" := by decide) (hdb:(x == ("__debug__" : Str)) = false:=by decide)
  (he:starEach (e :: es) X.env = (false,eval e X.env) :: starEach es X.env:=by rfl) (hpl:(backTo pos (starEach es X.env)).any (·.1) = false:=by rfl):PE X (.Call (.Name x p) (e :: es) [] pos) (tCB r t):=by
 intro pins s σ H Q I h
 refine wpAny_Call_Name_kw (a4C I hg hm hv ?_ hn hdb)
 exact PyProof.Rows.callWith_builtin1 (thn (ha pos pins s σ H _ I h) λ us s1 ⟨vs,H1,I1,r1,q1⟩=>hc pins s1 σ H1 vs us Q I1 r1 q1) he hpl
theorem a2C (hc:CallR X (.type T) r) (hg:Gl X x) (hm:X.mg x = none) (hv:bootBuiltins x = some (.type T)) (ha:PA X (e :: es) t) (hn:x ≠ "__name__" := by decide) (hdb:(x == ("__debug__" : Str)) = false:=by decide)
  (he:starEach (e :: es) X.env = (false,eval e X.env) :: starEach es X.env:=by rfl) (hpl:(backTo pos (starEach es X.env)).any (·.1) = false:=by rfl):PE X (.Call (.Name x p) (e :: es) [] pos) (tCB r t):=by
 intro pins s σ H Q I h
 refine wpAny_Call_Name_kw (a4C I hg hm hv ?_ hn hdb)
 exact PyProof.Rows.callWith_type1 (thn (ha pos pins s σ H _ I h) λ us s1 ⟨vs,H1,I1,r1,q1⟩=>hc pins s1 σ H1 vs us Q I1 r1 q1) he hpl
end
end L2
namespace HT
open PySem PyProof.Rows
section
open PySem.SeqAt
open PySem.AutoSeq1 (wpAny_loadPart')
open PySem.MeetsSeq PySem.MeetsSeq2 PySem.MeetsSeq3
end
section
variable {prog:Program} {w:World} {A:Around} {E:Value->Shared->Prop} {s:Shared}
def sIx (n d:Nat):Option Int->Nat
 | none=>d
 | some v=>if v < 0 then (v + (n:Int)).toNat else min v.toNat n
theorem sIx_nat (n d k:Nat):sIx n d (some (k:Int)) = min k n:=by
 show (if (k:Int) < 0 then ((k:Int) + (n:Int)).toNat else min (k:Int).toNat n) = min k n
 rw [if_neg (by omega),Int.toNat_natCast]
end
end HT
namespace L2
open PySem PySem.Spec PyProof.Rows
abbrev TO:=St->Hp->(Option Int->Hp->Prop)->Prop
def PO (X:Cx) (e:Option Expr) (t:TO):Prop :=
 ∀ (pins:List (Addr × Obj)) (s:Shared) (σ:St) (H:Hp) (Q:Option Int->Hp->Prop),Inv X pins σ H s->t σ H Q ->
  wpAny (model X.prog X.w) X.A (evalPart e X.env) (λ u s'=>∃ o H',Inv X pins σ H' s'/\IsPart u o/\Q o H') X.xe s
def c5H:TO:=λ _ H Q=>Q none H
def d0V (t:TE):TO:=λ σ H Q=>t σ H λ x H1=>∃ i,x = .int i/\Q (some i) H1
section
variable {X:Cx} {e:Expr} {te:TE} {lo hi:Option Expr} {tl th:TO} {pos p2:Pos}
theorem a6S:PO X none c5H:=by
 intro pins s σ H Q I h
 rw [evalPart_none]
 exact wpAny_pure ⟨none,H,I,.none,h⟩
theorem a4F (h:PE X e te):PO X (some e) (d0V te):=by
 intro pins s σ H Q I hw
 rw [evalPart_some]
 refine thn (h pins s σ H _ I hw) λ u s1 ⟨x,H1,I1,r1,q1⟩=>?_
 obtain ⟨i,rfl,q⟩:=q1
 obtain ⟨t,rfl⟩:=r1
 exact ⟨some i,H1,I1,.int i t,q⟩
def SlR (X:Cx) (r:V->Option Int->Option Int->Hp->VK->Prop):Prop :=
 ∀ (pins:List (Addr × Obj)) (s:Shared) (σ:St) (H:Hp) (x:V) (v vl vu:Value) (lo hi:Option Int) (sl:Addr) (Q:VK),Inv X pins σ H s->RelV x v->s.heap.IsSliceOf sl vl vu .none->IsPart vl lo->IsPart vu hi->r x lo hi H Q ->
  ∃ T id,typeLookup (.type T) "__getitem__" = pure (some (.builtin id))/\s.TypeIs v T/\wpAny (model X.prog X.w) X.A (getItem v (.ref sl)) (EP X pins σ Q) X.xe s
def tSl (r:V->Option Int->Option Int->Hp->VK->Prop) (te:TE) (tl th:TO):TE:=λ σ H Q=>te σ H λ x H1=>tl σ H1 λ l H2=>th σ H2 λ u H3=>r x l u H3 Q
theorem a3X {r:V->Option Int->Option Int->Hp->VK->Prop} (hr:SlR X r) (he:PE X e te) (hl:PO X lo tl) (hu:PO X hi th):PE X (.Subscript e (.Slice lo hi none p2) pos) (tSl r te tl th):=by
 intro pins s σ H Q I h
 refine Subscript_ (thn (he pins s σ H _ I h) λ v s1 ⟨x,H1,I1,r1,q1⟩=>?_)
 refine wpAny_Slice (thn (hl pins s1 σ H1 _ I1 q1) λ vl s2 ⟨l,H2,I2,pl,q2⟩=>thn (hu pins s2 σ H2 _ I2 q2) λ vu s3 ⟨u,H3,I3,pu,q3⟩=>?_)
 rw [evalPart_none]
 refine wpAny_pure ?_
 have I4:Inv X pins σ H3 { s3 with heap:=s3.heap.push { cls:=.type "slice", data:=.fields #[vl,vu,.none] } }:=I3.kept (t':=s3.toks) λ b ob q=>Heap.get?_push_of_some _ q
 obtain ⟨T,id,hT,ht,hg⟩:=hr pins { s3 with heap:=s3.heap.push { cls:=.type "slice", data:=.fields #[vl,vu,.none] } } σ H3 x v vl vu l u s3.heap.objs.size Q I4 r1 (Heap.IsSliceOf.new ..) pl pu q3
 show wpAny (model X.prog X.w) X.A (subscriptTail e (.Slice lo hi none p2) v (.ref s3.heap.objs.size)) (EP X pins σ Q) X.xe { s3 with heap:=s3.heap.push { cls:=.type "slice", data:=.fields #[vl,vu,.none] } }
 exact tail_any (ops:=[.ref s3.heap.objs.size,v]) ht hT hg (by with_unfolding_all rfl)
def cutV (xs:List V) (lo hi:Option Int):List V:=(xs.drop (HT.sIx xs.length 0 lo)).take (HT.sIx xs.length xs.length hi - HT.sIx xs.length 0 lo)
theorem b2J (xs:List V) (lo hi:Option Int):(cutV xs lo hi).length <= xs.length:=by
 unfold cutV
 rw [List.length_take,List.length_drop]
 omega
end
end L2
namespace L2
open PySem PySem.Spec PyProof.Rows
def ixN (n:Nat) (i:Int):Option Nat:=if 0 <= i then (if i < n then some i.toNat else none) else if -(n:Int) <= i then some (i + n).toNat else none
def atI {α:Type} (xs:List α) (i:Int):Option α:=(ixN xs.length i).bind λ j=>xs[j]?
theorem b7H {n:Nat} {i:Int} {j:Nat} (h:ixN n i = some j):seqIndex? i n = some j/\j < n /\ -(n:Int) <= i/\i < n:=by
 unfold ixN at h
 by_cases h0:0 <= i
 ·rw [if_pos h0] at h
  by_cases h1:i < n
  ·rw [if_pos h1] at h
   have e:i.toNat = j:=Option.some.inj h
   exact ⟨by rw [seqIndex_of h0 h1,e],by omega,by omega,h1⟩
  ·rw [if_neg h1] at h; cases h
 ·rw [if_neg h0] at h
  by_cases h1 : -(n:Int) <= i
  ·rw [if_pos h1] at h
   have e:(i + n).toNat = j:=Option.some.inj h
   exact ⟨by rw [seqIndex_neg (by omega) h1,e],by omega,h1,by omega⟩
  ·rw [if_neg h1] at h; cases h
theorem b7I {α:Type} {xs:List α} {i:Int} {v:α} (h:atI xs i = some v):∃ j,seqIndex? i xs.length = some j/\xs[j]? = some v/\j < xs.length /\ -(xs.length:Int) <= i/\i < xs.length:=by
 unfold atI at h
 cases e:ixN xs.length i with
 | none=>rw [e] at h; cases h
 | some j =>
  rw [e] at h
  obtain ⟨h1,h2,h3,h4⟩:=b7H e
  exact ⟨j,h1,h,h2,h3,h4⟩
theorem a2M {α:Type} {xs:List α} {j:Nat} {v:α} (h:xs[j]? = some v):atI xs (j:Int) = some v:=by
 have hj:j < xs.length:=(List.getElem?_eq_some_iff.mp h).1
 have e:ixN xs.length (j:Int) = some j:=by
  unfold ixN
  rw [if_pos (by omega),if_pos (by omega)]; simp
 unfold atI; rw [e]; exact h
def c5I (b:Expr):Prop:=∀ o i,subscripted b false o i = operate [o,i] (getItem o i)
def IxR (X:Cx) (r:R2):Prop :=
 ∀ (value slice:Expr) (pins:List (Addr × Obj)) (s:Shared) (σ:St) (H:Hp) (x y:V) (v u:Value) (Q:VK),Inv X pins σ H s->RelV x v->RelV y u->r x y H Q ->
  subscripted slice false v u = operate [v,u] (getItem v u)->wpAny (model X.prog X.w) X.A (subscriptTail value slice v u) (EP X pins σ Q) X.xe s
def MtR (X:Cx) (id:String) (r:V->List V->Hp->VK->Prop):Prop :=
 ∀ (pins:List (Addr × Obj)) (s:Shared) (σ:St) (H:Hp) (x:V) (xs:List V) (v:Value) (us:List Value) (Q:VK),Inv X pins σ H s->RelV x v->Vals xs us->r x xs H Q ->
  wpAny (model X.prog X.w) X.A (call (.builtin id) (v :: us)) (EP X pins σ Q) X.xe s
section
variable {X:Cx} {a b:Expr} {ta tb:TE} {pos:Pos}
theorem a0U {r:R2} (hr:IxR X r) (ha:PE X a ta) (hb:PE X b tb) (hs:c5I b):PE X (.Subscript a b pos) (tOp r ta tb):=by
 intro pins s σ H Q I h
 exact Subscript_ (binT ha hb I h λ v u s2 x y H2 I2 rx ry q=>hr a b pins s2 σ H2 x y v u Q I2 rx ry q (hs _ _))
def rIxL (K:Φρ):R2:=λ x y H Q=>∃ p xs i v,x = .ref p/\y = .int i/\SqL K H p xs/\atI xs i = some v/\Q v H
def rIxT (K:Φρ):R2:=λ x y H Q=>∃ p xs i v,x = .ref p/\y = .int i/\SqT K H p xs/\atI xs i = some v/\Q v H
theorem c5J:IxR X (rIxL X.K):=by
 intro value slice pins s σ H x y v u Q I rx ry h hs
 obtain ⟨p,xs,i,z,rfl,rfl,hq,he,q⟩:=h
 cases rx
 obtain ⟨t,rfl⟩:=ry
 obtain ⟨its,r,pl,hz⟩:=I.list hq
 obtain ⟨j,h1,h2,h3,h4,h5⟩:=b7I he
 obtain ⟨w,ew,rw'⟩:=r.get h2
 have hl:=r.length
 have hn:=a7Z
 have fin:EP X pins σ Q w s:=⟨z,H,I,rw',q⟩
 by_cases h0:0 <= i
 ·have hj:i.toNat = j:=by
   rw [seqIndex_of h0 h5] at h1
   exact Option.some.inj h1
  exact item_listR pl.isList h0 (by omega) (by rw [hj]; simpa using ew) fin hs
 ·have hj:(i + (its.toArray.size:Int)).toNat = j:=by
   rw [seqIndex_neg (by omega) h4] at h1
   rw [List.size_toArray,<- hl]
   exact Option.some.inj h1
  exact subscriptTail_builtinR (x:=w) pl.isList.typeIs slot_list_getitem.lookup
   (wpAny_getItem_list_neg (Q:=λ r s'=>r = w/\EP X pins σ Q r s') pl.isList (by omega) (by rw [List.size_toArray] <;> omega) (by omega) (by rw [hj]; simpa using ew) ⟨rfl,fin⟩) hs
theorem c8V:IxR X (rIxT X.K):=by
 intro value slice pins s σ H x y v u Q I rx ry h hs
 obtain ⟨p,xs,i,z,rfl,rfl,hq,he,q⟩:=h
 cases rx
 obtain ⟨t,rfl⟩:=ry
 obtain ⟨its,r,pl,hz⟩:=I.tuple hq
 obtain ⟨j,h1,h2,h3,h4,h5⟩:=b7I he
 obtain ⟨w,ew,rw'⟩:=r.get h2
 have hl:=r.length
 have hn:=a7Z
 have fin:EP X pins σ Q w s:=⟨z,H,I,rw',q⟩
 exact subscriptTail_builtinR (x:=w) pl.typeIs slot_tuple_getitem.lookup
  (getItem_tuple (j:=j) (Q:=λ r s'=>r = w/\EP X pins σ Q r s') pl (by omega) (by omega) (by rw [List.size_toArray,<- hl]; exact h1) (by simpa using ew) ⟨rfl,fin⟩) hs
theorem b5P (its:List Value) (n j:Nat) (u:Value):Obj.mapSeq (·.setIfInBounds j u) { cls:=.type "list", data:=.seq its.toArray n } = { cls:=.type "list", data:=.seq (its.set j u).toArray n }:=by
 simp [Obj.mapSeq]
theorem Inv.lst {pins:List (Addr × Obj)} {σ:St} {H:Hp} {s:Shared} {p:Addr} {xs:List V} (I:Inv X pins σ H s) (h:H p = some (.lst xs)) :
  ∃ (its:List Value) (n:Nat),Vals xs its/\s.heap.get? p = some { cls:=.type "list", data:=.seq its.toArray n }/\xs.length <= sizeLine:=by
 obtain ⟨z,its,n,r,e⟩:=I.hok p _ h
 exact ⟨its,n,r,e,z⟩
theorem Inv.lstUpd {pins:List (Addr × Obj)} {σ:St} {H:Hp} {s:Shared} {p:Addr} {xs ys:List V} {its its':List Value} {n n':Nat} {f:Obj->Obj} (I:Inv X pins σ H s) (h:H p = some (.lst xs))
  (ho:s.heap.get? p = some { cls:=.type "list", data:=.seq its.toArray n }) (hf:f { cls:=.type "list", data:=.seq its.toArray n } = { cls:=.type "list", data:=.seq its'.toArray n' }) (r:Vals ys its') (hz:ys.length <= sizeLine) (t:Nat) :
  Inv X pins σ (upd H p (.lst ys)) { s with heap:=s.heap.update p f,toks:=t }:=by
 have e:(s.heap.update p f).get? p = some { cls:=.type "list", data:=.seq its'.toArray n' }:=by
  rw [Heap.get?_update_self f ho (by rw [hf] <;> rfl),hf]
 refine I.write (x:=p) (e:=p) (by rw [h]; trivial) (.inl rfl) (λ b u hb q=>(Heap.get?_update_other _ _ (Ne.symm hb)).trans q) ⟨_,e⟩ ?_
 exact ⟨hz,its',n',r,e⟩
def d0W:V->V->V->Hp->(Hp->Prop)->Prop:=λ o i v H Q=>∃ p xs k j,o = .ref p/\i = .int k/\H p = some (.lst xs)/\ixN xs.length k = some j/\Q (upd H p (.lst (xs.set j v)))
theorem c1S:PSet X d0W:=by
 intro pins s σ H o i v ov iv u Q I ro ri rv h
 obtain ⟨p,xs,k,j,rfl,rfl,hp,hj,q⟩:=h
 cases ro
 obtain ⟨t,rfl⟩:=ri
 obtain ⟨its,n,r,ho,hz⟩:=I.lst hp
 obtain ⟨h1,h2,h3,h4⟩:=b7H hj
 have hl:=r.length
 have hn:=a7Z
 have I':Inv X pins σ (upd H p (.lst (xs.set j v))) { s with heap:=s.heap.update p (Obj.mapSeq (·.setIfInBounds j u)) } :=
  I.lstUpd hp ho (b5P its n j u) (r.set rv j) (by rw [List.length_set]; exact hz) s.toks
 by_cases h0:0 <= k
 ·have hk:k.toNat = j:=by
   rw [seqIndex_of h0 h4] at h1
   exact Option.some.inj h1
  exact PySem.W.ki_setAt ho h0 (by omega) (by rw [List.size_toArray,<- hl]; exact h4) (by rw [hk]; exact ⟨_,I',q⟩)
 ·have hk:(k + (its.toArray.size:Int)).toNat = j:=by
   rw [seqIndex_neg (by omega) h3] at h1
   rw [List.size_toArray,<- hl]
   exact Option.some.inj h1
  exact PySem.W.ki_setBack ho (by omega) (by rw [List.size_toArray,<- hl]; exact h3) (by omega) (by rw [hk]; exact ⟨_,I',q⟩)
theorem b0F (lo hi:Option Int) (n:Nat):(sliceBounds lo hi none n).1 = ((HT.sIx n 0 lo:Nat):Int)/\(sliceBounds lo hi none n).2.1 = ((HT.sIx n n hi:Nat):Int)/\(sliceBounds lo hi none n).2.2 = 1:=by
 refine ⟨?_,?_,rfl⟩
 ·cases lo with
  | none=>simp [sliceBounds,HT.sIx]
  | some i =>
   simp only [sliceBounds,HT.sIx,Option.getD_none,show (1:Int) > 0 by decide,if_true]
   by_cases h:i < 0
   ·simp only [h,if_true] <;> omega
   ·simp only [h,if_false] <;> omega
 ·cases hi with
  | none=>simp [sliceBounds,HT.sIx]
  | some i =>
   simp only [sliceBounds,HT.sIx,Option.getD_none,show (1:Int) > 0 by decide,if_true]
   by_cases h:i < 0
   ·simp only [h,if_true] <;> omega
   ·simp only [h,if_false] <;> omega
theorem a8U (its:List Value) (lo hi:Option Int):slicePick its.toArray lo hi none = ((its.drop (HT.sIx its.length 0 lo)).take (HT.sIx its.length its.length hi - HT.sIx its.length 0 lo)).toArray:=by
 obtain ⟨h1,h2,h3⟩:=b0F lo hi its.toArray.size
 unfold slicePick
 rw [h1,h2,h3]
 simp only [sliceRange_one,pick_run,List.size_toArray] <;> rfl
def rSlL (K:Φρ):V->Option Int->Option Int->Hp->VK->Prop:=λ x lo hi H Q=>∃ a xs,x = .ref a/\SqL K H a xs/\∀ p,H p = none->Q (.ref p) (upd H p (.lst (cutV xs lo hi)))
theorem c5K:SlR X (rSlL X.K):=by
 intro pins s σ H x v vl vu lo hi sl Q I rx hs pl pu h
 obtain ⟨a,xs,rfl,hx,q⟩:=h
 cases rx
 obtain ⟨its,r,ht,hz⟩:=I.list hx
 have hlen:=r.length
 refine ⟨"list", _,slot_list_getitem.lookup,ht.isList.typeIs,?_⟩
 refine wpAny_getItem_list_slice ht.isList hs pl pu .none (by simp) ?_ (by rw [List.size_toArray] <;> omega)
 rw [a8U,<- hlen]
 refine ⟨.ref s.heap.objs.size,_,I.laid (t':=s.toks) (o:=.lst (cutV xs lo hi)) (λ b ob q=>Heap.get?_push_of_some _ q) (Nat.le_refl _) ?_,rfl,q _ (I.hok.fresh (Nat.le_refl _))⟩
 exact ⟨Nat.le_trans (b2J xs lo hi) hz,_,0,(r.drop (HT.sIx xs.length 0 lo)).take (HT.sIx xs.length xs.length hi - HT.sIx xs.length 0 lo),Heap.get?_push_size _ rfl⟩
theorem b0G:CallR X (.builtin "len") (λ xs H Q=>∃ p ys,xs = [.ref p]/\(SqL X.K H p ys\/SqT X.K H p ys)/\Q (.int ys.length) H):=by
 intro pins s σ H xs us Q I r h
 obtain ⟨p,ys,rfl,hq,q⟩:=h
 obtain ⟨u,rfl,rx⟩:=a4B r
 cases rx
 have hn:=a7Z
 rcases hq with hq | hq
 ·obtain ⟨its,r',pl,hz⟩:=I.list hq
  have hlen:=r'.length
  exact Calls.call_len_list pl.isList (by simp only [List.size_toArray] <;> omega) ⟨.int ys.length,H,I.tok _,⟨s.toks + 1,by rw [List.size_toArray,hlen]⟩,q⟩
 ·obtain ⟨its,r',pl,hz⟩:=I.tuple hq
  have hlen:=r'.length
  exact len_tuple pl (by simp only [List.size_toArray] <;> omega) ⟨.int ys.length,H,I.tok _,⟨s.toks + 1,by rw [List.size_toArray,hlen]⟩,q⟩
theorem b0H:CallR X (.type "list") (λ xs H Q=>∃ p ys,xs = [.ref p]/\(SqL X.K H p ys\/SqT X.K H p ys)/\∀ l,H l = none->Q (.ref l) (upd H l (.lst ys))):=by
 intro pins s σ H xs us Q I r h
 obtain ⟨p,ys,rfl,hq,q⟩:=h
 obtain ⟨u,rfl,rx⟩:=a4B r
 cases rx
 have fin:∀ (its:List Value),Vals ys its->ys.length <= sizeLine->∀ (h':Heap) (c':Nat),(∀ b o',s.heap.get? b = some o'->h'.get? b = some o') ->
   h'.get? s.heap.objs.size = some { cls:=.type "list", dict:=none,data:=.seq its.toArray c',slots:=#[] }->EP X pins σ Q (.ref s.heap.objs.size) { s with heap:=h' }:=λ its r' hz h' c' kp e =>
  ⟨.ref s.heap.objs.size,_,I.laid (t':=s.toks) kp (Nat.le_refl _) (show ObjOk X.prog X.w _ h' _ (.lst ys) from ⟨hz,its,c',r',e⟩),rfl,q _ (I.hok.fresh (Nat.le_refl _))⟩
 rcases hq with hq | hq
 ·obtain ⟨its,r',pl,hz⟩:=I.list hq
  have hlen:=r'.length
  obtain ⟨o,ho,hc,n,hd⟩:=pl.isList
  exact call_list_seq p (.inl rfl) ho hc hd (λ h' c' kp e=>fin its r' hz h' c' kp e) (by simp only [List.size_toArray] <;> omega)
 ·obtain ⟨its,r',pl,hz⟩:=I.tuple hq
  have hlen:=r'.length
  obtain ⟨o,ho,hc,n,hd⟩:=pl
  exact call_list_seq p (.inr rfl) ho hc hd (λ h' c' kp e=>fin its r' hz h' c' kp e) (by simp only [List.size_toArray] <;> omega)
def tyV (K:Φρ) (T:String) (x:V) (H:Hp):Prop:=match x with
 | .str _=>T = "str"
 | .int _=>T = "int"
 | .ref p=>(T = "list" /\ ∃ xs,SqL K H p xs)\/(T = "tuple" /\ ∃ o,K.lookup p = some o/\o.cls = .type "tuple" /\ o.dict = none) \/
   (T = "dict" /\ ((∃ kvs,H p = some (.dK kvs))\/∃ kvs,H p = some (.dT kvs)))\/(T = "set" /\ ∃ S n,H p = some (.set S n))
 | _=>False
theorem c4G {pins:List (Addr × Obj)} {σ:St} {H:Hp} {s:Shared} {T:String} {x:V} {v:Value} (I:Inv X pins σ H s) (r:RelV x v) (ty:tyV X.K T x H) :
  s.TypeIs v T/\∀ a,v = .ref a->∃ ob,s.heap.get? a = some ob/\ob.dict = none:=by
 cases x with
 | str z =>
  obtain ⟨t,rfl⟩:=r
  cases (show T = "str" from ty)
  exact ⟨typeIs_str s z t,λ _ e=>nomatch e⟩
 | int i =>
  obtain ⟨t,rfl⟩:=r
  cases (show T = "int" from ty)
  exact ⟨typeIs_int s i t,λ _ e=>nomatch e⟩
 | ref p =>
  cases r
  rcases ty with ⟨rfl,xs,hq⟩ | ⟨rfl,o,hk,hc,hd⟩ | ⟨rfl,hk⟩ | ⟨rfl,S,n,hk⟩
  ·obtain ⟨its,_,pl,_⟩:=I.list hq
   refine ⟨pl.isList.typeIs,λ a e=>?_⟩
   cases e
   obtain ⟨o,n,e,c,hd,_⟩:=pl
   exact ⟨o,e,hd⟩
  ·refine ⟨⟨o,I.kIn p o hk,hc⟩,λ a e=>?_⟩
   cases e
   exact ⟨o,I.kIn _ o hk,hd⟩
  ·have z:∃ o,s.heap.get? p = some o/\o.ExactDict:=by
    rcases hk with ⟨kvs,hk⟩ | ⟨kvs,hk⟩
    ·obtain ⟨_,_,_,_,o,_,_,e,ex,_⟩:=I.hok p _ hk
     exact ⟨o,e,ex⟩
    ·obtain ⟨_,_,_,_,o,_,_,e,ex,_⟩:=I.hok p _ hk
     exact ⟨o,e,ex⟩
   obtain ⟨o,e,ex⟩:=z
   refine ⟨⟨o,e,ex.1⟩,λ a e2=>?_⟩
   cases e2
   exact ⟨o,e,ex.2.1⟩
  ·obtain ⟨o,_,_,_,e,ex,_⟩:=I.hok p _ hk
   refine ⟨⟨o,e,ex.1⟩,λ a e2=>?_⟩
   cases e2
   exact ⟨o,e,ex.2.1⟩
 | _=>exact False.elim ty
def tBM0 (K:Φρ) (T:String) (r:V->List V->Hp->VK->Prop) (to:TE):TE:=λ σ H Q=>to σ H λ x H1=>tyV K T x H1/\r x [] H1 Q
def tBM (K:Φρ) (T:String) (r:V->List V->Hp->VK->Prop) (to:TE) (t:TA):TE:=λ σ H Q=>to σ H λ x H1=>tyV K T x H1/\t σ H1 λ xs H2=>r x xs H2 Q
variable {o e:Expr} {es:List Expr} {to:TE} {t:TA} {name:Str} {apos cpos:Pos} {T id:String} {r:V->List V->Hp->VK->Prop}
theorem c8W (pa:PlainAttrs T) (slot:Slot T name id) (hty:typeOf (.builtin id) = pure (.type "method_descriptor")) (hm:MtR X id r) (ho:PE X o to)
  (hbase:attributeBase o name X.env (eval o X.env) = eval o X.env:=by rfl) (hline:(apos.endLine == cpos.line) = true:=by rfl):PE X (.Call (.Attribute o name apos) [] [] cpos) (tBM0 X.K T r to):=by
 intro pins s σ H Q I h
 refine wpAny_Call_method0_late hbase hline (thn (ho pins s σ H _ I h) λ v s1 ⟨x,H1,I1,r1,ty,q1⟩=>?_)
 obtain ⟨h1,h2⟩:=c4G I1 r1 ty
 exact ⟨T,id,pa,slot,hty,h1,h2,Calls.callWith_builtin rfl (PySem.evalArgs_none (hm pins s1 σ H1 x [] v [] Q I1 r1 .nil q1))⟩
theorem d0X (pa:PlainAttrs T) (slot:Slot T name id) (hty:typeOf (.builtin id) = pure (.type "method_descriptor")) (hm:MtR X id r) (ho:PE X o to) (ha:PA X (e :: es) t)
  (hbase:attributeBase o name X.env (eval o X.env) = eval o X.env:=by rfl)
  (hfew:((backTo cpos (starEach (e :: es) X.env)).all (λ x=>!x.1) && (backToKw cpos (keywordEach [] X.env)).all (λ x=>x.1.isSome)
   && decide ((e :: es).length + ([]:List Keyword).length + (if ([]:List Keyword).isEmpty then 0 else 1) < 30)) = true:=by rfl)
  (hline:(apos.endLine == cpos.line) = true:=by rfl) (hs:starEach (e :: es) X.env = (false,eval e X.env) :: starEach es X.env:=by rfl) (hplain:(backTo cpos (starEach es X.env)).any (·.1) = false:=by rfl) :
  PE X (.Call (.Attribute o name apos) (e :: es) [] cpos) (tBM X.K T r to t):=by
 intro pins s σ H Q I h
 refine wpAny_Call_method_late hbase hfew hline rfl (thn (ho pins s σ H _ I h) λ v s1 ⟨x,H1,I1,r1,ty,q1⟩=>?_)
 obtain ⟨h1,h2⟩:=c4G I1 r1 ty
 refine ⟨T,id,pa,slot,hty,h1,h2,?_⟩
 have hA:=ha cpos pins s1 σ H1 _ I1 q1
 rw [hs] at hA ⊢
 refine Calls.callWith_builtin (by show (false || (backTo cpos (starEach es X.env)).any (·.1)) = false; rw [hplain] <;> rfl) (Calls.evalArgs_plain ?_)
 exact thn hA λ us s2 ⟨vs,H2,I2,r2,q2⟩=>hm pins s2 σ H2 x vs v us Q I2 r1 r2 q2
end
end L2
namespace L2
open PySem PySem.Spec PyProof.Rows
def MtM (X:Cx) (id:String) (r:V->List V->Hp->VK->Prop):Prop :=
 ∀ (pins:List (Addr × Obj)) (s:Shared) (σ:St) (H:Hp) (x:V) (xs:List V) (v:Value) (us:List Value) (Q:VK),Inv X pins σ H s->RelV x v->Vals xs us->r x xs H Q ->
  wpAny (model X.prog X.w) X.A (call (.builtin id) (v :: us)) (EP X pins σ Q) X.xe s
theorem Vals.one:∀ {x:V} {us:List Value},Vals [x] us->∃ u,us = [u]/\RelV x u
 | _,_,.cons r .nil=>⟨_,rfl,r⟩
theorem Vals.two:∀ {x y:V} {us:List Value},Vals [x,y] us->∃ u v,us = [u,v]/\RelV x u/\RelV y v
 | _,_,_,.cons r (.cons q .nil)=>⟨_,_,rfl,r,q⟩
section
variable {X:Cx} {pins:List (Addr × Obj)} {σ:St} {H:Hp} {s:Shared} {l b:Addr} {xs ys zs:List V}
theorem Inv.lset {its its':List Value} {n:Nat} {f:Array Value->Array Value} {t':Nat} (I:Inv X pins σ H s) (hH:H l = some (.lst xs))
  (e:s.heap.get? l = some { cls:=.type "list", data:=.seq its.toArray n }) (hf:f its.toArray = its'.toArray) (hv:Vals ys its') (hz:ys.length <= sizeLine) :
  Inv X pins σ (upd H l (.lst ys)) { s with heap:=s.heap.update l (Obj.mapSeq f),toks:=t' }:=by
 have q:=PySem.IsL.update e f
 rw [hf] at q
 refine I.write (x:=l) (e:=l) (by rw [hH]; exact trivial) (.inl rfl) (λ b' u hb hu=>(Heap.get?_update_other s.heap (Obj.mapSeq f) (Ne.symm hb)).trans hu) ⟨_,q⟩ ?_
 exact ⟨hz,its',_,hv,q⟩
theorem Inv.lnew {its:List Value} {t':Nat} (I:Inv X pins σ H s) (hv:Vals ys its) (hz:ys.length <= sizeLine) :
  Inv X pins σ (upd H s.heap.objs.size (.lst ys)) { s with heap:=s.heap.push { cls:=.type "list", data:=.seq its.toArray },toks:=t' } :=
 I.laid (λ _ _ q=>Heap.get?_push_of_some _ q) (Nat.le_refl _) ⟨hz,its,0,hv,Heap.get?_push_size _ rfl⟩
theorem Inv.fresh (I:Inv X pins σ H s):H s.heap.objs.size = none:=I.hok.fresh (Nat.le_refl _)
theorem Inv.lstM (I:Inv X pins σ H s) (hH:H l = some (.lst xs)):xs.length <= sizeLine/\∃ (its:List Value) (n:Nat),Vals xs its/\xs.length = its.length/\s.heap.get? l = some { cls:=.type "list", data:=.seq its.toArray n }:=by
 obtain ⟨z,its,n,r,e⟩:=I.hok l _ hH
 exact ⟨z,its,n,r,r.length,e⟩
theorem c1T {n:Nat} (h:n <= sizeLine):Builtin.List.listTooLong n = false:=by
 unfold Builtin.List.listTooLong
 exact decide_eq_false (by omega)
end
section
variable {X:Cx}
def c5L:V->List V->Hp->VK->Prop:=λ x vs H Q=>∃ l xs y,x = .ref l/\vs = [y]/\H l = some (.lst xs)/\xs.length < sizeLine/\Q .non (upd H l (.lst (xs ++ [y])))
theorem mt_append:MtM X "list.append" c5L:=by
 intro pins s σ H x vs v us Q I rx rv h
 obtain ⟨l,xs,y,rfl,rfl,hH,hz,q⟩:=h
 cases rx
 obtain ⟨u,rfl,ru⟩:=rv.one
 obtain ⟨z,its,n,r,hl,e⟩:=I.lstM hH
 refine call_meets F.slot_list_append ⟨_,e,rfl⟩ F.entry_list_append (F.args_list_append_2 _ _) (PySem.list_append l its.toArray n u (by rw [List.size_toArray]; omega)) ⟨e,?_⟩
 refine ⟨.non,_,I.lset (its':=its ++ [u]) hH e (by simp) (r.append (.cons ru .nil)) ?_,rfl,q⟩
 rw [List.length_append,List.length_singleton]
 omega
def c5M:V->List V->Hp->VK->Prop:=λ x vs H Q=>∃ l b xs zs,x = .ref l/\vs = [.ref b]/\H l = some (.lst xs)/\H b = some (.lst zs)/\xs.length + zs.length <= sizeLine/\Q .non (upd H l (.lst (xs ++ zs)))
theorem mt_extend:MtM X "list.extend" c5M:=by
 intro pins s σ H x vs v us Q I rx rv h
 obtain ⟨l,b,xs,zs,rfl,rfl,hH,hB,hz,q⟩:=h
 cases rx
 obtain ⟨u,rfl,ru⟩:=rv.one
 cases ru
 obtain ⟨z,its,n,r,hl,e⟩:=I.lstM hH
 obtain ⟨z2,its2,n2,r2,hl2,e2⟩:=I.lstM hB
 have hsz:its.toArray.size + its2.toArray.size <= sizeLine:=by rw [List.size_toArray,List.size_toArray]; omega
 have hlong:¬ (!its.toArray.isEmpty && Builtin.List.listTooLong (its.toArray.size + its2.toArray.size)) = true:=by
  rw [c1T hsz,Bool.and_false]
  exact Bool.false_ne_true
 refine call_meets F.slot_list_extend ⟨_,e,rfl⟩ F.entry_list_extend (F.args_list_extend_2 _ _)
  (AutoSeq1.list_extend_list_list_0 l its.toArray n b its2.toArray n2 hlong (by rw [List.size_toArray]; omega) (by omega)) ⟨e,e2,?_⟩
 refine ⟨.non,_,I.lset (its':=its ++ its2) hH e (by simp) (r.append r2) ?_,rfl,q⟩
 rw [List.length_append]
 omega
def rCat:R2:=λ x y H Q=>∃ l b xs zs,x = .ref l/\y = .ref b/\H l = some (.lst xs)/\H b = some (.lst zs)/\xs.length + zs.length <= sizeLine/\∀ p,H p = none->Q (.ref p) (upd H p (.lst (xs ++ zs)))
theorem op_cat:OpR X (binaryOp .Add) rCat:=by
 intro pins s σ H x y v u Q I rx ry h
 obtain ⟨l,b,xs,zs,rfl,rfl,hH,hB,hz,q⟩:=h
 cases rx
 cases ry
 obtain ⟨z,its,n,r,hl,e⟩:=I.lstM hH
 obtain ⟨z2,its2,n2,r2,hl2,e2⟩:=I.lstM hB
 refine PySem.P.add_list e e2 ?_ (by rw [List.size_toArray,List.size_toArray]; omega)
 have ea:its.toArray ++ its2.toArray = (its ++ its2).toArray:=by simp
 rw [ea]
 exact ⟨.ref _,_,I.lnew (t':=s.toks) (r.append r2) (by rw [List.length_append]; omega),rfl,q _ I.fresh⟩
end
section
variable {prog:Program} {w:World} {A:Around} {E:Value->Shared->Prop} {s:Shared}
end
section
variable {X:Cx}
end
end L2
namespace Att
open PySem PySem.W PySem.Calls PyProof.Rows
theorem a6T {P:Params} {h:Heap}:∀ (ns:List Int) (vs:List Value),WellAll P h vs (ns.map WData.int)->IntsAre vs ns:=by
 intro ns
 induction ns with
 | nil =>
  intro vs w
  rw [List.map_nil] at w
  cases w
  exact .nil
 | cons n ns ih =>
  intro vs w
  rw [List.map_cons] at w
  cases w with
  | cons a b =>
   cases a
   exact .cons _ _ (ih _ b)
theorem b7J {l : OpenLaw} {n : Nat} (hn : l.most = some n) {P : Params} {h : Heap} {args : List WData} {vals : List Value}
    (hpre : l.row.toRowW.claim.pre args = true) (hwl : WellAll P h vals args) :
    ∃ a vs ns, vals = [Value.ref a] /\ args = [WData.list (ns.map WData.int)] /\ h.get? a = some { cls := .type "list", data := .seq vs.toArray } /\ IntsAre vs ns /\ ns.length <= n := by
  have hsh : WShape.hasAll [] args [.list .int] = true := (pre_splitW hpre).1
  have hc : l.pre.holds [] { args := args } = true := (pre_splitW hpre).2
  obtain ⟨d, r, rfl, h1, h2⟩ := hasAllW_cons hsh
  obtain rfl := hasAllW_nil h2
  obtain ⟨xs, rfl, h3⟩ := hasW_list h1
  obtain ⟨ns, rfl⟩ := items_int h3
  have hlen : ns.length <= n := by
    unfold OpenLaw.pre at hc
    have h4 : (WTm.not (.lt (.lit (.int (n : Int))) (.len (.arg 0)))).holds [] { args := [.list (ns.map .int)] } = true := by
      have h4 := (holds_andW hc).1
      rw [hn] at h4
      exact h4
    have h5 := condW_of h4 (w_not (w_lt w_lit (w_len_list (w_arg rfl))))
    rw [List.length_map] at h5
    refine Nat.le_of_not_lt fun q => ?_
    have q' : (n : Int) < ((ns.length : Nat) : Int) := by omega
    first
      | (rw [decide_eq_true q'] at h5; exact absurd h5 (by decide))
      | (simp at h5; omega)
  cases hwl with
  | cons w1 w2 =>
    cases w2
    cases w1 with
    | list ho hall => exact ⟨_, _, ns, rfl, rfl, ho, a6T ns _ hall, hlen⟩
theorem b7K (l : OpenLaw) (args : List WData) : l.row.toRowW.claim.post args (.bool true) args = true :=
  postW_of (r := l.row.toRowW) (X := (true == true))
    (show WShape.has [] (.bool true) .bool = true by first | rfl | decide | simp [WShape.has, WShape.arms, WShape.armsAll])
    (show (WTm.eq .res (.lit (.bool true))).value [] { args := args, res := some (.bool true), after := args } = some (.bool (true == true)) from w_eq_bool (w_res rfl) w_lit) rfl
theorem attach_call {l:OpenLaw} {n:Nat} {q:Program} {loose:List Str} {XP:(Str->Option Value)->Heap->Prop} {YP:World->Heap->Prop} {d:DefRec}
  (hn:l.most = some n) (hdf:d.params.defaults = [])
  (call:∀ (w:World) (s₀ s₁:Shared) (mg mb:Str->Option Value) (fa:Addr) (o:Obj) (pm cd doc:Value) (a:Addr) (vs:List Value) (ns:List Int),
   Ground q loose [] XP w s₀ mg mb s₁.heap->YP w s₁.heap ->
   s₁.heap.get? fa = some o->o.data = .func (docDef d.name d.params d.body d.scope pm cd doc)->s₁.heap.CodeRec cd d.name->mg d.name = some (.ref fa) ->
   s₁.heap.get? a = some { cls:=.type "list", data:=.seq vs.toArray }->IntsAre vs ns->ns.length <= n->s₁.gens = #[] ->
   codeAny (model l.prog w) callerA (.call (.ref fa) ⟨[.ref a],[]⟩) (λ r s'=>r = .ok (.ret (.bool true))/\OldK s₁.heap s'.heap/\s'.os = s₁.os/\AllBare s'.gens) s₁) :
  WalkO q loose XP YP l.row.toRowW d [] (λ f vs=>PySem.call f vs):=by
 intro w s₀ s₁ mg mb G Y fa o pm cd doc dV kV ho hd hcd hD hmg hg args vals as hpre hlay hrd hwl hlo
 obtain rfl:dV = .none:=Dflts.none hD hdf
 obtain rfl:kV = .none:=Dflts.noKw hD
 obtain ⟨a,vs,ns,rfl,rfl,hobj,hints,hlen⟩:=b7J hn hpre hwl
 refine enter_call (codeAny_mono (call w s₀ s₁ mg mb fa o pm cd doc a vs ns G Y ho (fd_plain hd) hcd hmg hobj hints hlen hg) λ r s' hq=>?_)
 obtain ⟨rfl,h2,h3,h4⟩:=hq
 exact ⟨.inl ⟨.bool true,.bool true,[],rfl,λ _=>rfl,.bool true,b7K l _,λ _=>⟨List.Pairwise.nil,λ _ hm=>(nomatch hm)⟩⟩,h2,h3,h4⟩
section
variable {prog:Program} {w:World} {A:Around} {E:Value->Shared->Prop} {s:Shared} {K:Frag}
end
end Att
namespace L2
open PySem PySem.Spec PyProof.Rows
theorem b0I:∀ {vs:List Value} {ns:List Int},IntsAre vs ns->Vals (ns.map V.int) vs
 | _,_,.nil=>.nil
 | _,_,.cons n t h=>.cons ⟨t,rfl⟩ (b0I h)
def Only (H:Hp):Prop:=∀ b,H b = none\/∃ o xs,H b = some (.frz o (.lst xs))
theorem c1U {P:Program} {w:World} {K:Φρ} {mg mb:Str->Option Value} {CX:CXT} {k:Nat} {fa a:Addr} {fd:FuncData} {x:Str} {sp:Sp} {s₁:Shared} {vs:List Value} {ns:List Int}
  (KX:K.In s₁.heap) (hns:s₁.heap.Ns mainGlobals mg) (hb:s₁.heap.Ns builtinsNs mb) (hbb:∀ x:Str,x ≠ "__name__" -> mb x = bootBuiltins x) (hlim:s₁.heap.NoLimit) (hg:s₁.gens = #[])
  (ha:s₁.heap.get? a = some { cls:=.type "list", data:=.seq vs.toArray }) (hi:IntsAre vs ns) (hl:ns.length <= sizeLine) (hr:Room k callerA)
  (F:∀ base:Heap,K.In base->base.Ns mainGlobals mg->FnOk P w K mg base CX k fa fd [x] sp) (hbind:∀ (s:Shared) (u:Value),BindsTo s fd ⟨[u],[]⟩ [(x,u)])
  (hsp:∀ H:Hp,Only H->SqL K H a (ns.map V.int)->sp [.ref a] H (λ v _=>v = .bl true) λ _ _ _=>False)
  (hCX:∀ H e s',CX [] H s₁ (λ _ _ _=>False) e s'->False) :
  codeAny (model P w) callerA (.call (.ref fa) ⟨[.ref a],[]⟩) (λ r s'=>r = .ok (.ret (.bool true))/\OldK s₁.heap s'.heap/\s'.os = s₁.os/\AllBare s'.gens) s₁:=by
 have rv:=b0I hi
 have lenV:=hi.length
 have core:∀ H:Hp,Only H->SqL K H a (ns.map V.int)->HOk P w H s₁.heap->(∀ b,H b ≠ none->b = a)->(H a ≠ none->K.lookup a = none) ->
   codeAny (model P w) callerA (.call (.ref fa) ⟨[.ref a],[]⟩) (λ r s'=>r = .ok (.ret (.bool true))/\OldK s₁.heap s'.heap/\s'.os = s₁.os/\AllBare s'.gens) s₁:=by
  intro H hO hS hok hA hK
  have base_of:∀ {b:Addr} {o:Obj},s₁.heap.get? b = some o->H b = none->(hidT s₁.heap H).get? b = some o:=λ e n=>c1M e n
  have noA:∀ {b:Addr} {o:Obj} {es:Array DictEntry} {ep:Nat},s₁.heap.get? b = some o->o.data = .dict es ep->H b = none:=λ {b o es ep} e d=>by
   cases q:H b with
   | none=>rfl
   | some u =>
    have e':b = a:=hA b (by rw [q]; simp)
    subst e'
    rw [ha] at e; cases e
    have d':Data.seq vs.toArray _ = Data.dict es ep:=d
    cases d'
  have nsK:∀ {b:Addr} {m:Str->Option Value},s₁.heap.Ns b m->(hidT s₁.heap H).Ns b m:=λ {b m} ⟨o,es,ep,e,d,r⟩=>⟨o,es,ep,base_of e (noA e d),d,r⟩
  have hKb:K.In (hidT s₁.heap H):=λ b o e=>base_of (KX b o e) (by
   cases q:H b with
   | none=>rfl
   | some u =>
    have e':b = a:=hA b (by rw [q]; simp)
    subst e'
    rw [hK (by rw [q]; simp)] at e; cases e)
  have hM:Mod K mg (hidT s₁.heap H):=⟨hKb,nsK hns,⟨mb,nsK hb,hbb⟩,let ⟨mc,h1,h2⟩:=hlim; ⟨mc,nsK h1,h2⟩⟩
  have e0:Env0 P w K mg (hidT s₁.heap H) callerA [] s₁ H:=⟨rfl,hM,λ b o e=>c5A e,Nat.le_of_eq (b6R _ _),trivial,λ b hb=>absurd (show b ∈ ([]:List Addr) from hb) (by simp),hok,.of_eq hg⟩
  refine codeAny_mono ((F _ hKb (nsK hns)).run callerA [] s₁ H ⟨[.ref a],[]⟩ [.ref a] [.ref a] _ _ hr e0 (hbind s₁ (.ref a)) (.cons rfl .nil) (hsp H hO hS)) λ r s' h=>?_
  cases r with
  | error e=>exact (hCX H e s' h).elim
  | ok fl =>
   cases fl with
   | next=>exact False.elim h
   | brk=>exact False.elim h
   | cont=>exact False.elim h
   | ret u =>
    obtain ⟨v,H',os,bare,un,hok',r',q⟩:=h
    have q':v = .bl true:=q
    subst q'
    obtain rfl:u = Value.bool true:=r'
    refine ⟨rfl,OldK.of_keep λ b o e=>?_,os,bare⟩
    cases q:H b with
    | none=>exact un.keep b o e q (by intro z; exact absurd (show b ∈ ([]:List Addr) from z) (by simp)) (by simp)
    | some u =>
     rcases hO b with z | ⟨ob,xs,z⟩
     ·rw [q] at z; cases z
     ·have z2:=un.frzs b ob _ z
      obtain ⟨e1,_⟩:=hok b _ z
      obtain ⟨e2,_⟩:=hok' b _ z2
      rw [e] at e1; cases e1
      exact e2
 cases hk:K.lookup a with
 | some o =>
  have e:=KX a o hk
  rw [ha] at e
  cases e
  refine core (λ _=>none) (λ _=>.inl rfl) (.inr ⟨_,vs.toArray,_,hk,rfl,rfl,rfl,by rw [List.size_toArray,lenV]; exact hl,by simpa using rv⟩) (λ b u z=>by have z':(none:Option HO) = some u:=z; cases z') (λ b z=>absurd rfl z) λ z=>absurd rfl z
 | none =>
  refine core (λ b=>if b = a then some (.frz { cls:=.type "list", data:=.seq vs.toArray } (.lst (ns.map V.int))) else none) (λ b=>?_) (.inl (.inr ⟨{ cls:=.type "list", data:=.seq vs.toArray },if_pos rfl⟩)) (λ b u z=>?_) (λ b z=>?_) λ _=>hk
  ·by_cases hb:b = a
   ·exact .inr ⟨_,_,if_pos hb⟩
   ·exact .inl (if_neg hb)
  ·by_cases hb:b = a
   ·have z':=(if_pos hb).symm.trans z
    cases z'
    subst hb
    exact ⟨ha,by rw [List.length_map]; exact hl,vs,_,rv,ha⟩
   ·have z':=(if_neg hb).symm.trans z
    cases z'
  ·by_cases hb:b = a
   ·exact hb
   ·exact absurd (if_neg hb) z
end L2
namespace L2
open PySem PySem.Spec PyProof.Rows
abbrev KOf {K:Φρ} {h:Heap} (_:K.In h):Φρ:=K
theorem c5N {l:PySem.W.OpenLaw} {n k:Nat} {q:Program} {loose:List Str} {XP:(Str->Option Value)->Heap->Prop} {YP:World->Heap->Prop} {d:DefRec} {K:Params->Φρ} {CX:World->CXT} {sp:World->Sp} {x:Str}
  (hn:l.most = some n) (hn2:n <= sizeLine) (hdf:d.params.defaults = []) (hr:Room k callerA)
  (hY:∀ (w:World) (h:Heap),YP w h->(K w.params).In h)
  (F:∀ (w:World) (mg:Str->Option Value) (fa:Addr) (h:Heap),(K w.params).In h->h.Ns mainGlobals mg->mg d.name = some (.ref fa) ->
   ∃ fd:FuncData,(∀ (s:Shared) (u:Value),BindsTo s fd ⟨[u],[]⟩ [(x,u)]) /\
    ∀ base:Heap,(K w.params).In base->base.Ns mainGlobals mg->FnOk l.prog w (K w.params) mg base (CX w) k fa fd [x] (sp w))
  (hsp:∀ (w:World) (H:Hp) (a:Addr) (ns:List Int),ns.length <= n->Only H->SqL (K w.params) H a (ns.map V.int)->sp w [.ref a] H (λ v _=>v = .bl true) λ _ _ _=>False)
  (hCX:∀ (w:World) (H:Hp) (s:Shared) (e:Value) (s':Shared),CX w [] H s (λ _ _ _=>False) e s'->False) :
  PySem.W.WalkO q loose XP YP l.row.toRowW d [] (λ f vs=>PySem.call f vs):=by
 refine Att.attach_call hn hdf λ w s₀ s₁ mg mb fa o pm cd doc a vs ns G Y ho hd hcd hmg hobj hints hlen hg=>?_
 have KX:=hY w _ Y
 obtain ⟨fd,hb,hF⟩:=F w mg fa _ KX G.T.g hmg
 exact c1U KX G.T.g G.T.b G.T.builtins G.T.nolimit hg hobj hints (Nat.le_trans hlen hn2) hr hF hb (λ H hO hS=>hsp w H a ns hlen hO hS) λ H e s'=>hCX w H s₁ e s'
theorem walk_ofK {l:PySem.W.OpenLaw} {n k:Nat} {q:Program} {loose:List Str} {XP:(Str->Option Value)->Heap->Prop} {YP:World->Heap->Prop} {d:DefRec} {K:Params->Φρ} {CX:CXT} {sp:Φρ->Sp} {x:Str}
  (hn:l.most = some n) (hn2:n <= sizeLine) (hdf:d.params.defaults = []) (hr:Room k callerA)
  (hY:∀ (w:World) (h:Heap),YP w h->(K w.params).In h)
  (F:∀ (w:World) (mg:Str->Option Value) (fa:Addr) (h:Heap),(K w.params).In h->h.Ns mainGlobals mg->mg d.name = some (.ref fa) ->
   ∃ fd:FuncData,(∀ (s:Shared) (u:Value),BindsTo s fd ⟨[u],[]⟩ [(x,u)]) /\
    ∀ base:Heap,(K w.params).In base->base.Ns mainGlobals mg->FnOk l.prog w (K w.params) mg base CX k fa fd [x] (sp (K w.params)))
  (hsp:∀ (K:Φρ) (H:Hp) (a:Addr) (ns:List Int),ns.length <= n->Only H->SqL K H a (ns.map V.int)->sp K [.ref a] H (λ v _=>v = .bl true) λ _ _ _=>False)
  (hCX:∀ (H:Hp) (s:Shared) (e:Value) (s':Shared),CX [] H s (λ _ _ _=>False) e s'->False) :
  PySem.W.WalkO q loose XP YP l.row.toRowW d [] (λ f vs=>PySem.call f vs) :=
 c5N (K:=K) (CX:=λ _=>CX) (sp:=λ w=>sp (K w.params)) hn hn2 hdf hr hY F (λ w H a ns h1 h2 h3=>hsp (K w.params) H a ns h1 h2 h3) λ _ H s e s'=>hCX H s e s'
end L2
namespace L2
open PySem PySem.Spec PyProof.Rows
def a1Z (s:Stmt):Arguments:=match s with
 | .FunctionDef _ a _ _ _ _ _ _ _ _=>a
 | _=>{ posonlyargs:=[],args:=[],vararg:=none,kwonlyargs:=[],kw_defaults:=[],kwarg:=none,defaults:=[] }
def a1V (s:Stmt):List Stmt:=match s with
 | .FunctionDef _ _ b _ _ _ _ _ _ _=>b
 | _=>[]
def a0E (s:Stmt):Scope:=match s with
 | .FunctionDef _ _ _ _ _ _ sc _ _ _=>sc
 | _=>{ kind:=.function,names:=[],isGenerator:=false,isCoroutine:=false }
abbrev CX0:CXT:=λ _ _ _ _ _ _=>False
abbrev E0:XK:=λ _ _ _=>False
theorem a0M {X:Cx}:b7E CX0 X E0:=λ _ _ _ _ _ _ _ h=>h.elim
structure Fun (K:Φρ) (x qual:Str) (st:Stmt) (f:Addr) (fd:FuncData):Prop where
 ex:∃ (oc:Value) (od:Option Addr) (kV doc pm:Value) (an:Option Addr) (cdv ct:Value) (osl:Array (Option Value)),
  fd = PySem.W.fnOf x qual (a1Z st) (a1V st) (a0E st) .none kV doc pm an cdv ct/\K.lookup f = some ⟨oc,od,.func fd,osl⟩/\PySem.W.codeIn K cdv qual = true
 kp:PySem.W.keepIn K (.ref f) = true
section
variable {P:Program} {w:World} {K:Φρ} {mg:Str->Option Value} {base:Heap}
theorem Fun.ok {x qual:Str} {st:Stmt} {f:Addr} {fd:FuncData} {N ps:List Str} {k:Nat} {sp:Sp} (F:Fun K x qual st f fd) (S:FnScope N ps (a0E st)) (len:∀ vs H Q E,sp vs H Q E->vs.length = ps.length)
  (hbody:∀ (cdv:Value) (A:Around) (outer:List Env) (s:Shared) (H:Hp) (vs:List V) (Q:VK) (E:XK),Room k (A.deeper (envOfC qual (a0E st) s.heap.objs.size f cdv))->sp vs H Q E ->
   ∃ t,PSs (cxOf CX0 P w K mg base N qual (a0E st) f cdv A outer s H E).nox (a1V st) t/\t { nx:=λ _ H'=>Q .non H',rt:=Q } (b0E N vs) H):FnOk P w K mg base CX0 (k + 1) f fd ps sp:=by
 obtain ⟨oc,od,kV,doc,pm,an,cdv,ct,osl,rfl,lk,hcd⟩:=F.ex
 refine d0U lk hcd S len λ A outer s H vs Q E hr hsp=>?_
 obtain ⟨t,h,q⟩:=hbody cdv A outer s H vs Q E hr hsp
 exact ⟨t,h.nox,q⟩
theorem Fun.binds {x qual:Str} {st:Stmt} {f:Addr} {fd:FuncData} {ps:List Str} (F:Fun K x qual st f fd)
  (h:∀ (kV doc pm:Value) (an:Option Addr) (cdv ct:Value) (us:List Value),us.length = ps.length->bindArgs (PySem.W.fnOf x qual (a1Z st) (a1V st) (a0E st) .none kV doc pm an cdv ct) ⟨us,[]⟩ = pure (ps.zip us)):Binds K fd ps []:=by
 obtain ⟨oc,od,kV,doc,pm,an,cdv,ct,osl,rfl,lk,hcd⟩:=F.ex
 exact .all (h kV doc pm an cdv ct)
theorem c8X {x qual:Str} {st:Stmt} {f:Addr} {oc:Value} {od an:Option Addr} {osl:Array (Option Value)} {kV doc pm cdv ct:Value} (l:K.lookup f = some ⟨oc,od,.func (PySem.W.fnOf x qual (a1Z st) (a1V st) (a0E st) .none kV doc pm an cdv ct),osl⟩)
  (c:PySem.W.codeIn K cdv qual = true) (k:PySem.W.keepIn K (.ref f) = true):Fun K x qual st f (PySem.W.fnOf x qual (a1Z st) (a1V st) (a0E st) .none kV doc pm an cdv ct):=⟨⟨oc,od,kV,doc,pm,an,cdv,ct,osl,rfl,l,c⟩,k⟩
end
theorem a0V {n:Nat} (h:n <= 1000):n < sizeLine:=Nat.lt_of_le_of_lt h (by decide)
section
variable {X:Cx}
theorem pv (i:Nat) {x:Str} {pos:Pos} (hN:X.N[i]? = some x:=by rfl) (hv:Vis X.env.scope x:=by first | exact Or.inl rfl | exact Or.inr (Or.inl rfl) | exact Or.inr (Or.inr rfl)) (hd:(x == ("__debug__" : Str)) = false:=by decide)
  (hcd:(x == ("__classdict__" : Str)) = false:=by decide):PE X (.Name x pos) (tVar i):=c8H hN hv hd hcd
end
theorem iteF {A B:Prop} (h:B):if false = true then A else B:=by
 rw [if_neg Bool.false_ne_true]
 exact h
theorem iteT {A B:Prop} (h:A):if true = true then A else B:=by
 rw [if_pos rfl]
 exact h
theorem ite2 {c A B:Prop} [Decidable c] (h1:c->A) (h2:¬ c->B):if c then A else B:=by
 by_cases h:c
 ·rw [if_pos h]
  exact h1 h
 ·rw [if_neg h]
  exact h2 h
def Same (H H':Hp):Prop:=∀ b o,H b = some o->H' b = some o
theorem Same.refl (H:Hp):Same H H:=λ _ _ h=>h
theorem Same.trans {H H1 H2:Hp} (a:Same H H1) (b:Same H1 H2):Same H H2:=λ c o h=>b c o (a c o h)
theorem Same.free {H H':Hp} (e:Same H H') {l:Addr} (h:H' l = Option.none):H l = Option.none:=by
 cases q:H l with
 | none=>rfl
 | some o =>
  rw [e l o q] at h
  cases h
theorem Same.seq {K:Φρ} {H H':Hp} {a:Addr} {xs:List V} (e:Same H H') (h:SqL K H a xs):SqL K H' a xs:=by
 rcases h with (h | ⟨o,h⟩) | h
 ·exact .inl (.inl (e _ _ h))
 ·exact .inl (.inr ⟨o,e _ _ h⟩)
 ·exact .inr h
end L2
namespace L2
open PySem PySem.Spec PyProof.Rows
def clOf (cells:List (Str × Addr)):List (Str × NameKind)->List (Str × Addr)->List (Str × Addr)
 | [],acc=>acc
 | (n,k) :: r,acc=>clOf cells r (if k == .free then (match cells.lookup n with | some c=>(n,c) :: acc | none=>acc) else acc)
theorem c4H {env:Env}:∀ (ns:List (Str × NameKind)) (acc:List (Str × Addr)),(∀ x ∈ ns,x.2 = .free->∃ c,env.cells.lookup x.1 = some c) ->
  (forIn ns acc λ (x:Str × NameKind) (cs:List (Str × Addr))=>(if x.2 == NameKind.free then do let a <- cellOf env x.1; pure (ForInStep.yield ((x.1,a) :: cs)) else pure (ForInStep.yield cs):Sem (ForInStep (List (Str × Addr))))) = pure (clOf env.cells ns acc)
 | [],acc,_=>by simp [clOf]
 | (n,k) :: r,acc,h=>by
  rw [List.forIn_cons]
  have ih:=λ a=>c4H (env:=env) r a λ x hx=>h x (List.mem_cons_of_mem _ hx)
  unfold clOf
  by_cases hk:(k == NameKind.free) = true
  ·obtain ⟨c,hc⟩:=h (n,k) List.mem_cons_self (by simpa using hk)
   have hc':env.cells.lookup n = some c:=hc
   have hce:cellOf env n = pure c:=by simp only [cellOf,hc']
   simp only [hk,if_true,hce,pure_bind,hc']
   exact ih _
  ·simp only [hk,if_false,pure_bind,ih]
   simp
theorem a8A {scope:Scope} {env:Env} (h:∀ x ∈ scope.names,x.2 = .free->∃ c,env.cells.lookup x.1 = some c):closureFor scope env = pure (clOf env.cells scope.names []):=by
 have q:=c4H (env:=env) scope.names [] h
 unfold closureFor
 rw [<- q]
 first
  | rfl
  | simp
theorem a6I {cells:List (Str × Addr)}:∀ (ns:List (Str × NameKind)) (acc:List (Str × Addr)) {x:Str} {c:Addr},(∀ y d,acc.lookup y = some d->cells.lookup y = some d)->(clOf cells ns acc).lookup x = some c->cells.lookup x = some c
 | [],acc,x,c,ha,h=>ha x c h
 | (n,k) :: r,acc,x,c,ha,h=>by
  unfold clOf at h
  refine a6I r _ (λ y d hy=>?_) h
  split at hy
  ·split at hy
   ·rename_i c' hc'
    rw [List.lookup_cons] at hy
    split at hy
    ·rename_i e
     have e':y = n:=by simpa using e
     subst e'
     rw [hc']; exact hy
    ·exact ha y d hy
   ·exact ha y d hy
  ·exact ha y d hy
theorem b0J {cells:List (Str × Addr)}:∀ (ns:List (Str × NameKind)) (acc:List (Str × Addr)) {x:Str},(∃ c,acc.lookup x = some c)->∃ c,(clOf cells ns acc).lookup x = some c
 | [],acc,x,h=>h
 | (n,k) :: r,acc,x,h=>by
  unfold clOf
  refine b0J r _ ?_
  split
  ·split
   ·rw [List.lookup_cons]
    split
    ·exact ⟨_,rfl⟩
    ·exact h
   ·exact h
  ·exact h
theorem a8V {cells:List (Str × Addr)}:∀ (ns:List (Str × NameKind)) (acc:List (Str × Addr)) {x:Str},(x,NameKind.free) ∈ ns->(∃ c,cells.lookup x = some c)->∃ c,(clOf cells ns acc).lookup x = some c
 | [],acc,x,h,_=>nomatch h
 | (n,k) :: r,acc,x,h,hc=>by
  unfold clOf
  rcases List.mem_cons.mp h with e | h
  ·cases e
   obtain ⟨c,hc⟩:=hc
   refine b0J r _ ?_
   simp [hc]
  ·exact a8V r _ h hc
end L2
namespace L2
open PySem PySem.Spec PyProof.Rows
theorem Inv.track {X:Cx} {pins:List (Addr × Obj)} {σ:St} {H:Hp} {s:Shared} {a:Addr} {o:HO} (I:Inv X pins σ H s) (hn:H a = none) (h0:X.s₀.heap.objs.size <= a) (hL:a ≠ X.env.locals)
  (hc:∀ x c,X.env.cells.lookup x = some c->c ≠ a) (hp:∀ p ∈ X.pn ++ pins,p.1 ≠ a) (new:ObjOk X.prog X.w (upd H a o) s.heap a o):Inv X pins σ (upd H a o) s:=by
 have ne:∀ b u,H b = some u->b ≠ a:=λ b u e=>a1C e hn
 have q:=I.step (g':=s.gens) (d':=s.drawn) (t':=s.toks) (h':=s.heap) (H':=upd H a o) (ch:=[a]) (λ b hb=>?_) (λ b ob _ _ _ e _=>e) (λ b ob _ _ _ e _=>⟨ob.slots,e⟩) (λ b ob hb _ n=>?_)
  (λ b ob _ e=>⟨ob,e⟩) (λ b xs e=>by rw [a1M (ne b _ e)]; exact e) (λ b ob u e=>by rw [a1M (ne b _ e)]; exact e) (λ b ps e=>⟨#[],by rw [a1M (ne b _ e),e]; simp⟩) (λ m hm=>hm) (λ b u e=>?_) I.bare
 ·exact q
 ·have e:b = a:=by simpa using hb
  subst e
  exact ⟨.inr h0,hL,hc,hp⟩
 ·rw [a1M (λ z=>hb (by simp [z]))]; exact n
 ·by_cases hb:b = a
  ·subst hb; rw [a4M] at e; cases e; exact new
  ·rw [a1M hb] at e
   exact (I.hok b u e).stay (λ c v _ q=>q) (λ c q=>by rw [a1M (a1C q hn)]; exact q) λ c xs q=>by rw [a1M (a1C q hn)]; exact q
def a3J (X:Cx) (N':List Str) (scope:Scope) (C:Addr) (s:Shared) (H:Hp) (fp:List Addr) (xe:Value->Shared->Prop):Cx :=
 { X with N:=N',s₀:=s,H₀:=H,env:=compEnvC scope (clOf X.env.cells scope.names []) C X.env,outer:=X.stack,ex:=fp,fn:=λ _=>false,xe:=xe }
structure BlkOk (X:Cx) (N':List Str) (ix:List (Option Nat)) (scope:Scope):Prop where
 kind:scope.kind = .function
 nocell:∀ y ∈ scope.names,y.2 ≠ .cell
 locs:∀ y ∈ scope.names,y.2 = .local->scope.names.lookup y.1 = some .local
 free:∀ y ∈ scope.names,y.2 = .free->X.env.kindOf y.1 = some .cell\/X.env.kindOf y.1 = some .free
 len:ix.length = N'.length
 cap:∀ (i j:Nat),ix[i]? = some (some j)->∃ x,N'[i]? = some x/\X.N[j]? = some x/\scope.names.lookup x = some .free
def capt (ix:List (Option Nat)) (σ:St):St:=ix.map λ o=>o.bind λ j=>(σ[j]?).join
theorem a5U {env:Env} {x:Str}:∀ {names:List (Str × NameKind)},names.lookup x = some .free->(names.map λ (n,k)=>if (k == NameKind.free && env.scope.kind == .function && env.kindOf n == some .cell) then (n,NameKind.cell) else (n,k)).lookup x = some .cell\/(names.map λ (n,k)=>if (k == NameKind.free && env.scope.kind == .function && env.kindOf n == some .cell) then (n,NameKind.cell) else (n,k)).lookup x = some .free
 | [],h=>by simp at h
 | (n,k) :: r,h=>by
  have ih:=@a5U env x r
  simp only [List.map_cons]
  cases hx:x == n with
  | true =>
   simp only [List.lookup_cons,hx] at h
   cases h
   by_cases hc:(NameKind.free == NameKind.free && env.scope.kind == .function && env.kindOf n == some .cell) = true
   ·rw [if_pos hc]; left; simp [List.lookup_cons,hx]
   ·rw [if_neg hc]; right; simp [List.lookup_cons,hx]
  | false =>
   simp only [List.lookup_cons,hx] at h
   by_cases hc:(k == NameKind.free && env.scope.kind == .function && env.kindOf n == some .cell) = true
   ·rw [if_pos hc]; simp only [List.lookup_cons,hx]; exact ih h
   ·rw [if_neg hc]; simp only [List.lookup_cons,hx]; exact ih h
theorem a5V {env:Env} {x:Str}:∀ {names:List (Str × NameKind)},(∀ y ∈ names,y.2 ≠ .cell)->((names.map λ (n,k)=>if (k == NameKind.free && env.scope.kind == .function && env.kindOf n == some .cell) then (n,NameKind.cell) else (n,k)).lookup x = some .cell\/(names.map λ (n,k)=>if (k == NameKind.free && env.scope.kind == .function && env.kindOf n == some .cell) then (n,NameKind.cell) else (n,k)).lookup x = some .free)->(x,NameKind.free) ∈ names
 | [],_,h=>by simp at h
 | (n,k) :: r,hn,h=>by
  have ih:=@a5V env x r λ y hy=>hn y (List.mem_cons_of_mem _ hy)
  simp only [List.map_cons] at h
  cases hx:x == n with
  | true =>
   have e:x = n:=by simpa using hx
   subst e
   have hk:=hn (x,k) List.mem_cons_self
   by_cases hc:(k == NameKind.free && env.scope.kind == .function && env.kindOf x == some .cell) = true
   ·have hf:k = .free:=by
     simp only [Bool.and_eq_true,beq_iff_eq] at hc
     exact hc.1.1
    subst hf
    exact List.mem_cons_self
   ·rw [if_neg hc] at h
    simp only [List.lookup_cons,hx] at h
    rcases h with h | h
    ·exact absurd (Option.some.inj h) hk
    ·have hf:k = .free:=Option.some.inj h
     subst hf
     exact List.mem_cons_self
  | false =>
   refine List.mem_cons_of_mem _ (ih ?_)
   by_cases hc:(k == NameKind.free && env.scope.kind == .function && env.kindOf n == some .cell) = true
   ·rw [if_pos hc] at h; simpa only [List.lookup_cons,hx] using h
   ·rw [if_neg hc] at h; simpa only [List.lookup_cons,hx] using h
theorem b0K {X:Cx} {pins:List (Addr × Obj)} {σ:St} {H:Hp} {s:Shared} {N':List Str} {ix:List (Option Nat)} {scope:Scope} {i:Nat} {x:Str} {v:V} (B:BlkOk X N' ix scope) (I:Inv X pins σ H s)
  (h1:N'[i]? = some x) (h2:(capt ix σ)[i]? = some (some v)):∃ u c,RelV v u/\(clOf X.env.cells scope.names []).lookup x = some c/\X.env.cells.lookup x = some c/\s.heap.IsCell c (some u) /\
   ((relabel scope X.env).names.lookup x = some .cell\/(relabel scope X.env).names.lookup x = some .free):=by
 have clB:∀ x c,(clOf X.env.cells scope.names []).lookup x = some c->X.env.cells.lookup x = some c:=λ x c h=>a6I scope.names [] (λ _ _ z=>by simp at z) h
 obtain ⟨j,hj,hv⟩:∃ j,ix[i]? = some (some j)/\σ[j]? = some (some v):=by
  unfold capt at h2
  rw [List.getElem?_map] at h2
  cases e:ix[i]? with
  | none=>rw [e] at h2; cases h2
  | some o =>
   rw [e] at h2
   cases o with
   | none=>cases h2
   | some j =>
    refine ⟨j,rfl,?_⟩
    have h2':(σ[j]?).join = some v:=Option.some.inj h2
    cases e2:σ[j]? with
    | none=>rw [e2] at h2'; cases h2'
    | some o2=>rw [e2] at h2'; have:o2 = some v:=h2'; rw [this]
 obtain ⟨x',hx1,hx2,hx3⟩:=B.cap i j hj
 have exx:x' = x:=by
  have h1':N'[i]? = some x:=h1
  rw [hx1] at h1'; exact Option.some.inj h1'
 subst exx
 have hmem:=PySem.mem_of_lookup hx3
 have hout:=B.free _ hmem rfl
 obtain ⟨m0,_,hl⟩:=I.loc
 obtain ⟨u,r,l⟩:=hl j x' v hx2 hv (by
  rcases hout with e | e
  ·exact .inr (.inl e)
  ·exact .inr (.inr e))
 rcases l with ⟨k,_⟩ | ⟨k,c,e,z⟩
 ·rcases hout with e | e
  ·rw [e] at k; cases k
  ·rw [e] at k; cases k
 ·obtain ⟨c',hc'⟩:=a8V scope.names [] hmem (I.ok.has x' hout)
  have:=clB x' c' hc'
  rw [e] at this; cases this
  exact ⟨u,c,r,hc',e,z,a5U hx3⟩
theorem b7L {X:Cx} {pins:List (Addr × Obj)} {σ:St} {H:Hp} {s s4:Shared} {N':List Str} {ix:List (Option Nat)} {scope:Scope} {C:Addr} {fp:List Addr} {xe:Value->Shared->Prop} {m:Str->Option Value}
  (B:BlkOk X N' ix scope) (I:Inv X pins σ H s) (hf:∀ b ∈ fp,FpOk X pins H b) (hC:s.heap.objs.size <= C) (hfs:∀ b ∈ fp,b < s.heap.objs.size)
  (ho:s4.os = s.os) (hg:s4.gens = s.gens) (hk:∀ b o,s.heap.get? b = some o->s4.heap.get? b = some o) (hns:s4.heap.Ns C m) :
  Inv (a3J X N' scope C s H fp xe) pins (capt ix σ) H s4:=by
 have clB:∀ x c,(clOf X.env.cells scope.names []).lookup x = some c->X.env.cells.lookup x = some c:=λ x c h=>a6I scope.names [] (λ _ _ z=>by simp at z) h
 have hfree:H C = none:=I.hok.fresh hC
 have neC:∀ b o,s.heap.get? b = some o->b ≠ C:=λ b o e=>Nat.ne_of_lt (Nat.lt_of_lt_of_le (Heap.lt_size e) hC)
 refine ⟨⟨I.ok.mod,B.kind,I.ok.glob,I.ok.blt,hC,λ x y c h1 h2=>I.ok.inj x y c (clB x c h1) (clB y c h2),λ x hx=>?_,λ x c h=>absurd (show false = true from h) Bool.false_ne_true,I.ok.hd,I.ok.frames,.inl rfl,λ b hb=>⟨?_,λ x c e=>?_⟩,I.bs,?_,λ b o e hb=>?_,λ b hb z=>?_,I.stack,I.stkFree⟩,
  ho,?_,Un.kept hk,⟨m,hns,λ i x v h1 h2 h3=>?_⟩,λ x c e=>?_,hfree,λ x c e=>I.freeC x c (clB x c e),λ p hp=>?_,I.hok.kept hk,?_⟩
 ·have hx':=a5V (env:=X.env) (x:=x) B.nocell hx
  exact a8V scope.names [] hx' (I.ok.has x (B.free _ hx' rfl))
 ·exact Nat.ne_of_lt (Nat.lt_of_lt_of_le (hfs b hb) hC)
 ·exact (hf b hb).2.2.2.2.1 x c (clB x c e)
 ·exact Nat.le_trans I.ok.bsz I.sz
 ·obtain ⟨_,_,_,q,_⟩:=hf b hb
  rcases q with q | q
  ·exact I.ok.noex b o e q
  ·exact absurd (Nat.lt_of_lt_of_le (Heap.lt_size (I.ok.bs b o e).1) q) (Nat.lt_irrefl _)
 ·obtain ⟨_,q1,q2,_⟩:=hf b hb
  rcases List.mem_cons.mp (I.stkSub b z) with e | e
  ·exact q1 e
  ·exact q2 e
 ·rw [hg]; exact I.bare
 ·obtain ⟨u,c,r,hc1,_,⟨oc,z1,z2⟩,hk'⟩:=b0K B I h1 h2
  exact ⟨u,r,.inr ⟨hk',c,hc1,oc,hk _ _ z1,z2⟩⟩
 ·obtain ⟨v,oc,h1,h2⟩:=I.cell x c (clB x c e)
  exact ⟨v,oc,hk _ _ h1,h2⟩
 ·obtain ⟨e,n,ne,nf,d⟩:=I.pin p hp
  refine ⟨hk _ _ e,n,neC _ _ e,λ z=>?_,d⟩
  rcases List.mem_cons.mp (I.stkSub p.1 z) with e' | e'
  ·exact ne e'
  ·exact nf e'
 ·show (ix.map _).length = N'.length
  rw [List.length_map]; exact B.len
end L2
namespace L2
open PySem PySem.Spec PyProof.Rows
theorem b2K {prog:Program} {w:World} {A:Around} {R:Result->Shared->Prop} {s:Shared} {elt target iter:Expr} {ifs:List Expr} {scope:Scope} {pos:Pos} {it acc:Value} {env:Env} (Iv:Nat->Shared->Prop)
  (turn:∀ n s,Iv n s->wpAny (model prog w) A (pyNext it) (λ r s₁=>match r with
   | none=>R (.ok .next) s₁
   | some v=>wpAny (model prog w) A (letOwnedTupleGo target it v) (λ _ s₁'=>wpAny (model prog w) A (assign target env v) (λ _ s₂ =>
     wpAny (model prog w) A (forIn ifs true λ c r=>if r = true then do let ok <- isTrue c env (eval c env); pure (ForInStep.yield ok) else pure (ForInStep.yield r)) (λ ok s₃ =>
      if ok = true then wpAny (model prog w) A (eval elt env) (λ x s₄ =>
       wpAny (model prog w) A (call (.builtin "list.append") [acc,x]) (λ _ s₅=>∃ m,m < n/\Iv m s₅) (notedBy (model prog w) A env λ e s'=>R (.error e) s') s₄) (notedBy (model prog w) A env λ e s'=>R (.error e) s') s₃
      else ∃ m,m < n/\Iv m s₃) (notedBy (model prog w) A env λ e s'=>R (.error e) s') s₂) (notedBy (model prog w) A env λ e s'=>R (.error e) s') s₁') (notedBy (model prog w) A env λ e s'=>R (.error e) s') s₁) (notedBy (model prog w) A env λ e s'=>R (.error e) s') s)
  (n:Nat) (h:Iv n s) :
  codeAny (model prog w) A (.compLoop (.ListComp elt [⟨target,iter,ifs,0⟩] scope pos) 0 it acc env) R s:=by
 refine codeAny_loop rfl Iv (λ n s hI=>?_) n h
 show wpAny _ A ((compTurn (.ListComp elt [⟨target,iter,ifs,0⟩] scope pos) 0 it acc env).onRaise (λ x=>do noteFrame x env; theTreesLotGoes x)) _ _ s
 refine wpAny_noted ?_
 rw [compTurn_list]
 refine wpAny_bind (wpAny_standAt (wpAny_bind (wpAny_mono (turn n s hI) (λ r s₁ h₁=>?_) λ _ _ h'=>h')))
 cases r with
 | none=>exact wpAny_pure h₁
 | some v =>
  refine wpAny_bind (wpAny_mono h₁ (λ _ s₁' h₁'=>?_) λ _ _ h'=>h')
  refine wpAny_bind (wpAny_mono h₁' (λ _ s₂ h₂=>wpAny_bind (wpAny_mono h₂ (λ ok s₃ h₃=>?_) λ _ _ h'=>h')) λ _ _ h'=>h')
  cases ok with
  | false=>exact wpAny_pure ⟨rfl,h₃⟩
  | true =>
   exact wpAny_bind (wpAny_bind (wpAny_mono h₃ (λ x s₄ h₄=>wpAny_bind (wpAny_mono h₄ (λ _ s₅ h₅=>wpAny_pure (wpAny_pure ⟨rfl,h₅⟩)) λ _ _ h'=>h')) λ _ _ h'=>h'))
def PTs (X:Cx) (ifs:List Expr) (t:TT):Prop :=
 ∀ (pins:List (Addr × Obj)) (s:Shared) (σ:St) (H:Hp) (Q:Bool->Hp->Prop),Inv X pins σ H s->t σ H Q ->
  wpAny (model X.prog X.w) X.A (forIn ifs true λ c r=>if r = true then do let ok <- isTrue c X.env (eval c X.env); pure (ForInStep.yield ok) else pure (ForInStep.yield r)) (TP X pins σ Q) X.xe s
def c8Y:TT:=λ _ H Q=>Q true H
theorem a2N {X:Cx}:PTs X [] c8Y:=λ _ _ _ H _ I h=>wpAny_tests_nil ⟨H,I,h⟩
theorem a2O {X:Cx} {c:Expr} {t:TT} (h:PT X c t):PTs X [c] t:=λ pins s σ H Q I hw=>wpAny_tests_one (h pins s σ H Q I hw)
def a4O (ix:List (Option Nat)) (g:TG) (tt:TT) (te:TE) (σ:St) (H1:Hp) (Q:VK) (J:It):Prop:=∃ W:Nat->Nat->List V->Hp->Prop,(∃ m,W 0 m [] H1)/\∀ i m ys H,W i m ys H ->
 (J.stop i H/\ys.length <= sizeLine/\∀ p,H p = none->Q (.ref p) (upd H p (.lst ys))) \/
 (J.go i H/\ys.length <= sizeLine/\∃ N:List V->Hp->Prop,(∀ ys' H',N ys' H'->∃ m',m' < m/\W (i + 1) m' ys' H')/\∀ x H',J.yld i H x H'->g x (capt ix σ) H' λ σ2 H2=>tt σ2 H2 λ b H3=>if b = true then te σ2 H3 λ v H4=>N (ys ++ [v]) H4 else N ys H3)
def tLC (ix:List (Option Nat)) (wi:TI) (g:TG) (tt:TT) (te:TE):TE:=λ σ H Q=>wi σ H λ J H1=>a4O ix g tt te σ H1 Q J
section
variable {X:Cx} {elt tg iter:Expr} {ifs:List Expr} {scope:Scope} {pos:Pos} {N':List Str} {ix:List (Option Nat)} {wi:TI} {g:TG} {tt:TT} {te:TE}
theorem c4I (B:BlkOk X N' ix scope) (hc:X.calm = true)
  (hg:∀ C s H fp xe,PG (a3J X N' scope C s H fp xe) tg g) (ht:∀ C s H fp xe,PTs (a3J X N' scope C s H fp xe) ifs tt) (he:∀ C s H fp xe,PE (a3J X N' scope C s H fp xe) elt te)
  {pins:List (Addr × Obj)} {s2:Shared} {σ:St} {H2:Hp} {Q:VK} {it:Addr} {fp:List Addr} {tn:Nat->Heap->Prop} {J:It} {RR:Value->Addr->Result->Shared->Prop} {E:Value->Shared->Prop}
  (I2:Inv X pins σ H2 s2) (T:Turn X.prog X.w X.K tg J fp it tn) (st2:tn 0 s2.heap) (f2:∀ b ∈ fp,FpOk X pins H2 b)
  (q:∃ W:Nat->Nat->List V->Hp->Prop,(∃ m,W 0 m [] H2)/\∀ i m ys H,W i m ys H ->
   (J.stop i H/\ys.length <= sizeLine/\∀ p,H p = none->Q (.ref p) (upd H p (.lst ys))) \/
   (J.go i H/\ys.length <= sizeLine/\∃ N:List V->Hp->Prop,(∀ ys' H',N ys' H'->∃ m',m' < m/\W (i + 1) m' ys' H')/\∀ x H',J.yld i H x H'->g x (capt ix σ) H' λ σ2 H2=>tt σ2 H2 λ b H3=>if b = true then te σ2 H3 λ v H4=>N (ys ++ [v]) H4 else N ys H3))
  (hRR:∀ D C s' H' ys,Inv X pins σ (upd H' D (.lst ys)) s'->H' D = none->Q (.ref D) (upd H' D (.lst ys))->(∃ m,s'.heap.Ns C m)->upd H' D (.lst ys) C = none->C ≠ X.env.locals->X.s₀.heap.objs.size <= C->(∀ x c,X.env.cells.lookup x = some c->c ≠ C)->(∀ p ∈ X.pn ++ pins,p.1 ≠ C)->RR (.ref D) C (.ok .next) s') :
  wpAny (model X.prog X.w) X.A (newList []) (λ acc s₃=>wpAny (model X.prog X.w) X.A (newFunctionEnv scope X.env.globals (clOf X.env.cells scope.names []) [] X.env.qual none .none (some X.env)) (λ cenv s₄ =>
   codeAny (model X.prog X.w) X.A (.compStart (.ListComp elt [⟨tg,iter,ifs,0⟩] scope pos) 0 (.ref it) acc { cenv with scope:=relabel scope X.env }) (RR acc cenv.locals) s₄) E s₃) E s2:=by
 have hfs:∀ b ∈ fp,b < s2.heap.objs.size:=λ b hb=>by
  obtain ⟨o,e,_⟩:=T.obj _ _ st2 b hb
  exact Heap.lt_size e
 refine wpAny_newObj_type (wpAny_newFunctionEnv B.nocell (by intro y hy; simp at hy) (λ h₁ hns₁ hsb₁=>?_) B.kind)
 dsimp only at hns₁ hsb₁ ⊢
 generalize hH3:s2.heap.push { cls:=.type "list", dict:=none,data:=.seq ([]:List Value).toArray } = H3 at hns₁ hsb₁ ⊢
 have hC:H3.objs.size = s2.heap.objs.size + 1:=by rw [<- hH3,Heap.size_push]
 have hDC:s2.heap.objs.size ≠ H3.objs.size:=by rw [hC]; exact Nat.ne_of_lt (Nat.lt_succ_self _)
 have below:∀ b,b < s2.heap.objs.size->b ≠ H3.objs.size/\b ≠ s2.heap.objs.size:=λ b hb=>⟨by rw [hC]; exact Nat.ne_of_lt (Nat.lt_succ_of_lt hb),Nat.ne_of_lt hb⟩
 have old:∀ b o,s2.heap.get? b = some o->h₁.get? b = some o:=λ b o e=>hsb₁.extBut b o (below b (Heap.lt_size e)).1 (Heap.get?_push_of_some _ (hH3 ▸ Heap.get?_push_of_some _ e))
 have hacc:h₁.get? s2.heap.objs.size = some { cls:=.type "list", data:=.seq ([]:List Value).toArray 0 }:=hsb₁.extBut _ _ hDC (Heap.get?_push_of_some _ (hH3 ▸ Heap.get?_push_size _ rfl))
 have hCle:s2.heap.objs.size <= H3.objs.size:=by rw [hC]; exact Nat.le_succ _
 generalize hD:s2.heap.objs.size = D at *
 generalize hCC:H3.objs.size = C at *
 obtain ⟨W,⟨m0,w0⟩,turn⟩:=q
 let xe:Value->Shared->Prop:=notedBy (model X.prog X.w) X.A (compEnvC scope (clOf X.env.cells scope.names []) C X.env) λ e s'=>RR (.ref D) C (.error e) s'
 let X':Cx:=a3J X N' scope C s2 H2 fp xe
 have DL:D ∉ frs X.stack:=λ z=>by
  rcases List.mem_cons.mp (I2.stkSub D z) with e | e
  ·exact absurd I2.lt (by rw [<- e,hD]; exact Nat.lt_irrefl _)
  ·exact I2.nofs (by rw [hD]; exact Nat.le_refl _) e
 have cellLt:∀ x c,X.env.cells.lookup x = some c->c < D:=λ x c e=>by
  obtain ⟨v,oc,h,_⟩:=I2.cell x c e
  rw [<- hD]; exact Heap.lt_size h
 have clB:∀ x c,(clOf X.env.cells scope.names []).lookup x = some c->X.env.cells.lookup x = some c:=λ x c h=>a6I scope.names [] (λ _ _ z=>by simp at z) h
 have pinLt:∀ p ∈ X.pn ++ pins,p.1 < D:=λ p hp=>by rw [<- hD]; exact Heap.lt_size (I2.pin p hp).1
 have fpX:∀ {pl:List (Addr × Obj)} {H':Hp},(∀ b ∈ fp,H' b = none)->(∀ p ∈ pl,p ∈ pins\/p.1 = D)->∀ b ∈ fp,FpOk X' pl H' b:=λ {pl H'} hn hpl b hb=>by
  obtain ⟨_,q1,q2,q3,q4,q5⟩:=f2 b hb
  refine ⟨hn b hb,(below b (hfs b hb)).1,λ z=>?_,.inl hb,λ x c e=>q4 x c (clB x c e),λ p hp=>?_⟩
  ·rcases List.mem_cons.mp (I2.stkSub b z) with e | e
   ·exact q1 e
   ·exact q2 e
  ·rcases List.mem_append.mp hp with hp | hp
   ·exact q5 p (List.mem_append_left _ hp)
   ·rcases hpl p hp with z | z
    ·exact q5 p (List.mem_append_right _ z)
    ·rw [z]; exact Ne.symm (below b (hfs b hb)).2
 have loop:∀ s₃:Shared,s₃ = { s2 with heap:=h₁,toks:=s2.toks + ([]:List (Str × Value)).length } ->
   codeAny (model X.prog X.w) X.A (.compLoop (.ListComp elt [⟨tg,iter,ifs,0⟩] scope pos) 0 (.ref it) (.ref D) (compEnvC scope (clOf X.env.cells scope.names []) C X.env)) (RR (.ref D) C) s₃:=by
  rintro s₃ rfl
  refine b2K (λ n s'=>∃ i H' ys its k,Inv X' pins (capt ix σ) H' s'/\tn i s'.heap/\(∀ b ∈ fp,H' b = none)/\H' D = none/\s'.heap.get? D = some { cls:=.type "list", data:=.seq (List.toArray its) k }/\Vals ys its/\W i n ys H') ?_ m0
   ⟨0,H2,[],[],0,b7L B I2 f2 (by rw [hD]; exact hCle) (λ b hb=>by rw [hD]; exact hfs b hb) rfl rfl old hns₁,T.keep _ _ _ st2 λ b _ o e=>old b o e,λ b hb=>(f2 b hb).1,I2.hok.fresh (by rw [hD]; exact Nat.le_refl _),hacc,.nil,w0⟩
  rintro n s' ⟨i,H',ys,its,k,I',st',fr',hDn,hDo,rv,w'⟩
  have hDX:∀ v,({ cls:=.type "list", data:=.seq (List.toArray its) k }:Obj).data ≠ .cell v:=λ v z=>by
   have z':Data.seq (List.toArray its) k = Data.cell v:=z
   cases z'
  have pinD:∀ {σ':St} {H'':Hp} {s'':Shared} {its':List Value} {k':Nat},Inv X' pins σ' H'' s''->H'' D = none->s''.heap.get? D = some { cls:=.type "list", data:=.seq (List.toArray its') k' }->Inv X' (pins ++ [(D,{ cls:=.type "list", data:=.seq (List.toArray its') k' })]) σ' H'' s'':=λ {σ' H'' s'' its' k'} J hn ho =>
   J.pins_of λ p hp=>(List.mem_append.mp hp).elim (λ z=>J.pin p (List.mem_append_right _ z)) λ z=>by
    have e:p = (D,{ cls:=.type "list", data:=.seq (List.toArray its') k' }):=by simpa using z
    subst e
    exact ⟨ho,hn,hDC,DL,λ v z=>by
     have z':Data.seq (List.toArray its') k' = Data.cell v:=z
     cases z'⟩
  have plD:∀ {its':List Value} {k':Nat},∀ p ∈ pins ++ [(D,({ cls:=.type "list", data:=.seq (List.toArray its') k' }:Obj))],p ∈ pins\/p.1 = D:=λ {its' k'} p hp=>(List.mem_append.mp hp).elim .inl λ z=>by
   have e:p = (D,{ cls:=.type "list", data:=.seq (List.toArray its') k' }):=by simpa using z
   subst e
   exact .inr rfl
  have unD:∀ {pl:List (Addr × Obj)} {σ':St} {H'':Hp} {s'':Shared},Inv X' (pins ++ pl) σ' H'' s''->Inv X' pins σ' H'' s'':=λ J=>J.pins_of λ p hp=>J.pin p (List.mem_append_right _ (List.mem_append_left _ hp))
  have I'p:=pinD I' hDn hDo
  rcases turn i n ys H' w' with ⟨stop,hsz,fin⟩ | ⟨go,hsz,N,hN,step⟩
  ·refine wpAny_mono (T.done X' rfl rfl rfl hc i _ s' (capt ix σ) H' X'.xe I'p (fpX fr' plD) st' stop) (λ r s5 ⟨hr,I5⟩=>?_) λ _ _ z=>z
   subst hr
   have hDo5:s5.heap.get? D = some { cls:=.type "list", data:=.seq (List.toArray its) k }:=(I5.pin (D,_) (List.mem_append_right _ (List.mem_append_right _ (List.mem_singleton.mpr rfl)))).1
   have sz0:X.s₀.heap.objs.size <= D:=by rw [<- hD]; exact I2.sz
   have J:Inv X pins σ H' s5:=I2.call' (ch:=fp) I5.os I5.base I5.hok I5.bare λ b hb=>by
    obtain ⟨_,q1,_,q3,q4,q5⟩:=f2 b hb
    exact ⟨q3,q1,q4,q5⟩
   have nL:X.env.locals < D:=by rw [<- hD]; exact I2.lt
   have J2:Inv X pins σ (upd H' D (.lst ys)) s5:=Inv.track J hDn sz0 (Nat.ne_of_gt nL) (λ x c e=>Nat.ne_of_lt (cellLt x c e)) (λ p hp=>Nat.ne_of_lt (pinLt p hp)) ⟨hsz,its,k,rv,hDo5⟩
   obtain ⟨mC,hnC,_⟩:=I5.loc
   have DltC:D < C:=Nat.lt_of_le_of_ne hCle hDC
   refine hRR D C s5 H' ys J2 hDn (fin D hDn) ⟨mC,hnC⟩ ?_ (Nat.ne_of_gt (Nat.lt_trans nL DltC)) (Nat.le_trans sz0 hCle) (λ x c e=>Nat.ne_of_lt (Nat.lt_trans (cellLt x c e) DltC)) λ p hp=>Nat.ne_of_lt (Nat.lt_trans (pinLt p hp) DltC)
   rw [a1M (Ne.symm hDC)]
   exact I5.free
  ·refine wpAny_mono (T.item X' rfl rfl rfl hc i _ s' (capt ix σ) H' X'.xe I'p (fpX fr' plD) st' go) (λ r s5 ⟨u,hr,h5⟩=>?_) λ _ _ z=>z
   subst hr
   refine wpAny_mono h5 (λ _ s6 ⟨x,H6,I6,r6,y6,st6,fr6⟩=>?_) λ _ _ z=>z
   have I6':=I6.pinned (fpX fr6 plD) (T.obj _ _ st6)
   refine wpAny_mono (hg C s2 H2 fp xe _ s6 (capt ix σ) H6 x u _ I6' r6 (step x H6 y6)) (λ _ s7 ⟨σ7,H7,I7,q7⟩=>?_) λ _ _ z=>z
   have after:∀ {σ8:St} {H8:Hp} {s8:Shared},Inv X' ((pins ++ [(D,{ cls:=.type "list", data:=.seq (List.toArray its) k })]) ++ a6R fp s6.heap) σ8 H8 s8 ->
     Inv X' pins (capt ix σ) H8 s8/\tn (i + 1) s8.heap/\(∀ b ∈ fp,H8 b = none)/\H8 D = none/\s8.heap.get? D = some { cls:=.type "list", data:=.seq (List.toArray its) k }:=λ {σ8 H8 s8} I8=>by
    have pD:=I8.pin (D,{ cls:=.type "list", data:=.seq (List.toArray its) k }) (List.mem_append_right _ (List.mem_append_left _ (List.mem_append_right _ (List.mem_singleton.mpr rfl))))
    have fpP:∀ b ∈ fp,∀ o,s6.heap.get? b = some o->s8.heap.get? b = some o/\H8 b = none:=λ b hb o e=>by
     have z:=I8.pin (b,o) (List.mem_append_right _ (List.mem_append_right _ (a3V hb e)))
     exact ⟨z.1,z.2.1⟩
    refine ⟨⟨I8.ok,I8.os,I8.bare,I8.base,?_,I8.cell,I8.free,I8.freeC,λ p hp=>?_,I8.hok,?_⟩,T.keep _ _ _ st6 λ b hb o e=>(fpP b hb o e).1,λ b hb=>?_,pD.2.1,pD.1⟩
    ·obtain ⟨m8,hn8,_⟩:=I8.loc
     refine ⟨m8,hn8,λ i x v h1 h2 h3=>?_⟩
     obtain ⟨u,c,r,hc1,hc2,⟨oc,z1,z2⟩,hk'⟩:=b0K B I2 h1 h2
     obtain ⟨sl,e8⟩:=I8.base.any z1 (I2.freeC x c hc2) λ z=>(f2 c z).2.2.2.2.1 x c hc2 rfl
     exact ⟨u,r,.inr ⟨hk',c,hc1,_,e8,z2⟩⟩
    ·rcases List.mem_append.mp hp with hp | hp
     ·exact I8.pin p (List.mem_append_left _ hp)
     ·exact I8.pin p (List.mem_append_right _ (List.mem_append_left _ (List.mem_append_left _ hp)))
    ·show (capt ix σ).length = N'.length
     unfold capt
     rw [List.length_map]; exact B.len
    ·obtain ⟨o,e,_⟩:=T.obj _ _ st6 b hb
     exact (fpP b hb o e).2
   refine wpAny_mono (ht C s2 H2 fp xe _ s7 σ7 H7 _ I7 q7) (λ b s8 ⟨H8,I8,q8⟩=>?_) λ _ _ z=>z
   cases b with
   | false =>
    rw [if_neg Bool.false_ne_true] at q8 ⊢
    obtain ⟨m',hm,w8⟩:=hN _ _ q8
    obtain ⟨J,tn8,f8,d8,o8⟩:=after I8
    exact ⟨m',hm,i + 1,H8,ys,its,k,J,tn8,f8,d8,o8,rv,w8⟩
   | true =>
    rw [if_pos rfl] at q8 ⊢
    refine wpAny_mono (he C s2 H2 fp xe _ s8 σ7 H8 _ I8 q8) (λ v s9 ⟨y,H9,I9,r9,q9⟩=>?_) λ _ _ z=>z
    obtain ⟨J,tn9,f9,d9,o9⟩:=after I9
    obtain ⟨m',hm,w9⟩:=hN _ _ q9
    refine append_at (hsz:=by rw [List.size_toArray,<- rv.length]; exact hsz) o9 λ h10 hs10 hD10=>?_
    refine ⟨m',hm,i + 1,H9,ys ++ [y],its ++ [v],k + 1,?_,T.keep _ _ _ tn9 λ b hb o e=>hs10.extBut b o (λ z=>?_) e,f9,d9,by rw [List.push_toArray] at hD10; exact hD10,rv.append (.cons r9 .nil),w9⟩
    ·refine J.turned (t':=s9.toks) (it:=D) (λ b o hb e=>hs10.extBut b o hb e) d9 hDC (.inr (by show s2.heap.objs.size <= D; rw [hD]; exact Nat.le_refl _)) (λ x c e=>Nat.ne_of_lt (cellLt x c (clB x c e))) λ p hp=>Nat.ne_of_lt (pinLt p hp)
    ·exact (below b (hfs b hb)).2 z
 exact codeAny_compStart_list (loop _ rfl) (T.self X.A 0 _ _ _ (T.keep _ _ _ st2 λ b _ o e=>old b o e) (loop _ rfl))
end
end L2
namespace L2
open PySem PySem.Spec PyProof.Rows
def a6J (outer:Scope) (N N':List Str) (ix:List (Option Nat)) (scope:Scope):Bool :=
 (scope.kind == .function) && (scope.names.all λ y=>y.2 != .cell) && (scope.names.all λ y=>y.2 != .local || scope.names.lookup y.1 == some .local) &&
 (scope.names.all λ y=>y.2 != .free || outer.names.lookup y.1 == some .cell || outer.names.lookup y.1 == some .free) && (ix.length == N'.length) &&
 (List.range ix.length).all λ i=>match ix[i]? with
  | some (some j)=>(match N'[i]? with | some x=>N[j]? == some x && scope.names.lookup x == some .free | none=>false)
  | _=>true
theorem c4J {X:Cx} {N':List Str} {ix:List (Option Nat)} {scope:Scope} (h:a6J X.env.scope X.N N' ix scope = true):BlkOk X N' ix scope:=by
 unfold a6J at h
 simp only [Bool.and_eq_true] at h
 obtain ⟨⟨⟨⟨⟨h1,h2⟩,h3⟩,h4⟩,h5⟩,h6⟩:=h
 refine ⟨?_,λ y hy=>?_,λ y hy hl=>?_,λ y hy hl=>?_,by simpa using h5,λ i j e=>?_⟩
 ·simpa using h1
 ·have:=List.all_eq_true.mp h2 y hy
  simpa using this
 ·have:=List.all_eq_true.mp h3 y hy
  rw [hl] at this
  simpa using this
 ·have:=List.all_eq_true.mp h4 y hy
  rw [hl] at this
  simp at this
  exact this
 ·have hi:i < ix.length:=(List.getElem?_eq_some_iff.mp e).1
  have:=List.all_eq_true.mp h6 i (List.mem_range.mpr hi)
  rw [e] at this
  simp only at this
  cases q:N'[i]? with
  | none=>rw [q] at this; simp at this
  | some x =>
   rw [q] at this
   simp at this
   exact ⟨x,rfl,this.1,this.2⟩
section
variable {X:Cx} {elt tg iter:Expr} {ifs:List Expr} {scope:Scope} {pos:Pos} {N':List Str} {ix:List (Option Nat)} {wi:TI} {g:TG} {tt:TT} {te:TE}
theorem a3K (N':List Str) (ix:List (Option Nat)) (hB:a6J X.env.scope X.N N' ix scope = true) (hc:X.calm = true) (hi:PI X tg iter wi)
  (hg:∀ C s H fp xe,PG (a3J X N' scope C s H fp xe) tg g) (ht:∀ C s H fp xe,PTs (a3J X N' scope C s H fp xe) ifs tt) (he:∀ C s H fp xe,PE (a3J X N' scope C s H fp xe) elt te)
  (hs:∀ x,foldedSetIterable iter X.env x = pure x:=by intro _; rfl):PE X (.ListComp elt [⟨tg,iter,ifs,0⟩] scope pos) (tLC ix wi g tt te):=by
 intro pins s σ H Q I h
 have B:=c4J hB
 rw [eval_ListComp]
 refine wpAny_comprehension_free (use:=none) rfl hs (a8A λ y hy hf=>I.ok.has y.1 (B.free y hy hf)) B.kind B.locs (thn (hi pins s σ H _ I h) λ v s1 h1=>thn h1 λ itv s2 h2=>?_)
 obtain ⟨it,fp,tn,J,H2,e,I2,T,st2,f2,q⟩:=h2
 subst e
 refine c4I B hc hg ht he I2 T st2 f2 q ?_
 intro D C s' H' ys J2 hDn hq ⟨m,hn⟩ hC1 hC2 hC3 hC4 hC5
 refine ⟨m,hn,λ h' hs'=>?_⟩
 exact ⟨.ref D,_,J2.turned (t':=s'.toks) (it:=C) (λ b o hb e=>hs'.extBut b o hb e) hC1 hC2 (.inr hC3) hC4 hC5,rfl,hq⟩
theorem a3E {i:Nat} {x:Str} {pos' spos:Pos} (N':List Str) (ix:List (Option Nat)) (hN:X.N.Nodup) (hi':X.N[i]? = some x) (hx:X.env.scope.names.lookup x = some .local)
  (hB:a6J X.env.scope X.N N' ix scope = true) (hc:X.calm = true) (hi:PI X tg iter wi)
  (hg:∀ C s H fp xe,PG (a3J X N' scope C s H fp xe) tg g) (ht:∀ C s H fp xe,PTs (a3J X N' scope C s H fp xe) ifs tt) (he:∀ C s H fp xe,PE (a3J X N' scope C s H fp xe) elt te)
  (hsw:swapsWith (.ListComp elt [⟨tg,iter,ifs,0⟩] scope pos) (some (.Name x pos')) spos.line X.env = pure true)
  (hs:∀ x,foldedSetIterable iter X.env x = pure x:=by intro _; rfl):PS X (.Assign [.Name x pos'] (.ListComp elt [⟨tg,iter,ifs,0⟩] scope pos) spos) (tAsg (tLC ix wi g tt te) (c1N i)):=by
 intro pins s σ H D0 I h
 have B:=c4J hB
 rw [exec_Assign_Name_used _ _ _ _ hsw]
 refine wpAny_bind (wpAny_standAt (wpAny_bind ?_))
 show wpAny _ X.A (do let _ <- comprehension (.ListComp elt [⟨tg,iter,ifs,0⟩] scope pos) scope X.env _ (newList []) false (eval iter X.env) (some (assign (.Name x pos') X.env))) _ _ s
 refine wpAny_bind (wpAny_mono (wpAny_comprehension_free (use:=some (assign (.Name x pos') X.env)) (Q:=λ _ s'=>SP X pins D0 .next s') rfl hs (a8A λ y hy hf=>I.ok.has y.1 (B.free y hy hf)) B.kind B.locs
  (thn (hi pins s σ H _ I h) λ v s1 h1=>thn h1 λ itv s2 h2=>?_)) (λ _ s' hq=>wpAny_pure (wpAny_pure hq)) λ _ _ e=>e)
 obtain ⟨it,fp,tn,J,H2,e,I2,T,st2,f2,q⟩:=h2
 subst e
 refine c4I (Q:=λ x H1=>c1N i x σ H1 D0.nx) B hc hg ht he I2 T st2 f2 q ?_
 intro D C s' H' ys J2 hDn hq ⟨m,hn⟩ hC1 hC2 hC3 hC4 hC5
 show wpAny _ X.A (assign (.Name x pos') X.env (.ref D)) _ _ _
 refine wpAny_assign_Name (a9W (v:=.ref D) J2 hN hi' (.inl hx) rfl (λ s'' I'' hsb=>?_) (.inr hx))
 obtain ⟨a,hsb,ha⟩:=hsb
 have aC:C ≠ a:=by
  rcases ha with rfl | ha
  ·exact hC2
  ·exact λ z=>hC4 x a ha z.symm
 refine ⟨m,hn.sameBut hsb aC,λ h'' hs''=>?_⟩
 exact ⟨_,_,I''.turned (t':=s''.toks) (it:=C) (λ b o hb e=>hs''.extBut b o hb e) hC1 hC2 (.inr hC3) hC4 hC5,hq⟩
end
section
variable {K:Φρ} {a:Addr} {xs:List V} {ix:List (Option Nat)} {g:TG} {tt:TT} {te:TE} {σ:St} {H1:Hp} {Q:VK}
theorem a4G (Pv:Nat->List V->Hp->Prop) (h0:Pv 0 [] H1) (hl:∀ i ys H,i <= xs.length->Pv i ys H->SqL K H a xs/\ys.length <= sizeLine)
  (hs:∀ i x ys H,xs[i]? = some x->Pv i ys H->g x (capt ix σ) H λ σ2 H2=>tt σ2 H2 λ b H3=>if b = true then te σ2 H3 λ v H4=>Pv (i + 1) (ys ++ [v]) H4 else Pv (i + 1) ys H3)
  (hd:∀ ys H,Pv xs.length ys H->∀ p,H p = none->Q (.ref p) (upd H p (.lst ys))):a4O ix g tt te σ H1 Q (Itl K a):=by
 refine ⟨λ i m ys H=>m = xs.length - i/\i <= xs.length/\Pv i ys H,⟨xs.length,by simp,Nat.zero_le _,h0⟩,?_⟩
 rintro i m ys H ⟨rfl,hi,p⟩
 obtain ⟨q,z⟩:=hl i ys H hi p
 by_cases hlt:i < xs.length
 ·refine .inr ⟨⟨xs,xs[i],q,by simp [hlt]⟩,z,Pv (i + 1),λ ys' H' p'=>⟨xs.length - (i + 1),by omega,rfl,hlt,p'⟩,λ x H' y=>?_⟩
  obtain ⟨e,y⟩:=y
  subst e
  exact hs i x ys _ (y xs q) p
 ·have e:i = xs.length:=by omega
  subst e
  exact .inl ⟨⟨xs,q,Nat.le_refl _⟩,z,hd ys H p⟩
theorem a8W {lo:Int} {n:Nat} (Pv:Nat->List V->Hp->Prop) (h0:Pv 0 [] H1) (hl:∀ i ys H,i <= n->Pv i ys H->ys.length <= sizeLine)
  (hs:∀ i ys H,i < n->Pv i ys H->g (.int (lo + i)) (capt ix σ) H λ σ2 H2=>tt σ2 H2 λ b H3=>if b = true then te σ2 H3 λ v H4=>Pv (i + 1) (ys ++ [v]) H4 else Pv (i + 1) ys H3)
  (hd:∀ ys H,Pv n ys H->∀ p,H p = none->Q (.ref p) (upd H p (.lst ys))):a4O ix g tt te σ H1 Q (Itr lo n):=by
 refine ⟨λ i m ys H=>m = n - i/\i <= n/\Pv i ys H,⟨n,by simp,Nat.zero_le _,h0⟩,?_⟩
 rintro i m ys H ⟨rfl,hi,p⟩
 have z:=hl i ys H hi p
 by_cases hlt:i < n
 ·refine .inr ⟨hlt,z,Pv (i + 1),λ ys' H' p'=>⟨n - (i + 1),by omega,rfl,hlt,p'⟩,λ x H' y=>?_⟩
  obtain ⟨e,y⟩:=y
  subst e y
  exact hs i ys _ hlt p
 ·have e:i = n:=by omega
  subst e
  exact .inl ⟨Nat.le_refl _,z,hd ys H p⟩
end
theorem d0Y {K:Φρ} {a:Addr} {xs:List V} {ix:List (Option Nat)} {g:TG} {tt:TT} {te:TE} {σ:St} {H1:Hp} {Q:VK} (f:V->Option V) (hx:SqL K H1 a xs) (hz:xs.length <= sizeLine)
  (hs:∀ x H (N:Option V->Hp->Prop),x ∈ xs->Same H1 H->(∀ H',Same H1 H'->N (f x) H')->g x (capt ix σ) H λ σ2 H2=>tt σ2 H2 λ b H3=>if b = true then te σ2 H3 λ v H4=>N (some v) H4 else N none H3)
  (hd:∀ H p,Same H1 H->H p = none->Q (.ref p) (upd H p (.lst (xs.filterMap f)))):a4O ix g tt te σ H1 Q (Itl K a):=by
 refine a4G (K:=K) (a:=a) (xs:=xs) (λ i ys H=>ys = (xs.take i).filterMap f/\Same H1 H) ⟨rfl,Same.refl _⟩ (λ i ys H hi ⟨e,s⟩=>⟨s.seq hx,?_⟩) (λ i x ys H hi ⟨e,s⟩=>?_) λ ys H ⟨e,s⟩ p hp=>?_
 ·subst e
  refine Nat.le_trans (List.length_filterMap_le _ _) (Nat.le_trans ?_ hz)
  rw [List.length_take]; exact Nat.min_le_right _ _
 ·have hm:x ∈ xs:=List.mem_of_getElem? hi
  obtain ⟨hil,hix⟩:=List.getElem?_eq_some_iff.mp hi
  have et:xs.take (i + 1) = xs.take i ++ [x]:=by rw [List.take_succ_eq_append_getElem hil,hix]
  refine hs x H (λ o H'=>match o with | some v=>(ys ++ [v] = (xs.take (i + 1)).filterMap f/\Same H1 H') | none=>(ys = (xs.take (i + 1)).filterMap f/\Same H1 H')) hm s λ H' s'=>?_
  cases ef:f x with
  | some v =>
   refine ⟨?_,s'⟩
   rw [e,et,List.filterMap_append]
   simp [ef]
  | none =>
   refine ⟨?_,s'⟩
   rw [e,et,List.filterMap_append]
   simp [ef]
 ·subst e
  rw [List.take_length]
  exact hd H p s hp
theorem c8Z {lo:Int} {n:Nat} {ix:List (Option Nat)} {g:TG} {tt:TT} {te:TE} {σ:St} {H1:Hp} {Q:VK} (f:Nat->Option V) (hz:n <= sizeLine)
  (hs:∀ i H (N:Option V->Hp->Prop),i < n->Same H1 H->(∀ H',Same H1 H'->N (f i) H')->g (.int (lo + i)) (capt ix σ) H λ σ2 H2=>tt σ2 H2 λ b H3=>if b = true then te σ2 H3 λ v H4=>N (some v) H4 else N none H3)
  (hd:∀ H p,Same H1 H->H p = none->Q (.ref p) (upd H p (.lst ((List.range n).filterMap f)))):a4O ix g tt te σ H1 Q (Itr lo n):=by
 refine a8W (λ i ys H=>ys = (List.range i).filterMap f/\Same H1 H) ⟨rfl,Same.refl _⟩ (λ i ys H hi ⟨e,s⟩=>?_) (λ i ys H hi ⟨e,s⟩=>?_) λ ys H ⟨e,s⟩ p hp=>?_
 ·subst e
  refine Nat.le_trans (List.length_filterMap_le _ _) (Nat.le_trans ?_ hz)
  rw [List.length_range]; exact hi
 ·refine hs i H (λ o H'=>match o with | some v=>(ys ++ [v] = (List.range (i + 1)).filterMap f/\Same H1 H') | none=>(ys = (List.range (i + 1)).filterMap f/\Same H1 H')) hi s λ H' s'=>?_
  cases ef:f i with
  | some v =>
   refine ⟨?_,s'⟩
   rw [e,List.range_succ,List.filterMap_append]
   simp [ef]
  | none =>
   refine ⟨?_,s'⟩
   rw [e,List.range_succ,List.filterMap_append]
   simp [ef]
 ·subst e
  exact hd H p s hp
end L2
namespace L2
open PySem PySem.Spec PyProof.Rows
mutual
inductive IsD (K:Φρ) (H:Hp):V->PyData->Prop
 | non:IsD K H .non .none
 | bl (b:Bool):IsD K H (.bl b) (.bool b)
 | int (i:Int):IsD K H (.int i) (.int i)
 | str (x:Str):IsD K H (.str x) (.str x)
 | lst {a:Addr} {xs:List V} {ds:List PyData}:SqL K H a xs->IsDs K H xs ds->IsD K H (.ref a) (.list ds)
 | tup {a:Addr} {xs:List V} {ds:List PyData}:SqT K H a xs->IsDs K H xs ds->IsD K H (.ref a) (.tuple ds)
inductive IsDs (K:Φρ) (H:Hp):List V->List PyData->Prop
 | nil:IsDs K H [] []
 | cons {x:V} {xs:List V} {d:PyData} {ds:List PyData}:IsD K H x d->IsDs K H xs ds->IsDs K H (x :: xs) (d :: ds)
end
theorem Same.tupq {K:Φρ} {H H':Hp} {a:Addr} {xs:List V} (e:Same H H') (h:SqT K H a xs):SqT K H' a xs:=by
 rcases h with (h | ⟨o,h⟩) | h
 ·exact .inl (.inl (e _ _ h))
 ·exact .inl (.inr ⟨o,e _ _ h⟩)
 ·exact .inr h
mutual
theorem IsD.reads {X:Cx} {pins:List (Addr × Obj)} {σ:St} {H:Hp} {s:Shared} (I:Inv X pins σ H s):∀ {v:V} {d:PyData} {u:Value},IsD X.K H v d->RelV v u->∃ as,Reads s.heap u d as
 | _,_,_,.non,r=>by cases r; exact ⟨_,.none⟩
 | _,_,_,.bl b,r=>by cases r; exact ⟨_,.bool b⟩
 | _,_,_,.int i,r=>by obtain ⟨t,rfl⟩:=r; exact ⟨_,.int i t⟩
 | _,_,_,.str x,r=>by obtain ⟨t,rfl⟩:=r; exact ⟨_,.str x t⟩
 | _,_,_,.lst h q,r=>by
  cases r
  obtain ⟨its,rv,⟨o,n,e,c,_,d⟩,_⟩:=I.list h
  obtain ⟨as,ra⟩:=IsDs.reads I q rv
  exact ⟨_,.list e c d (by simpa using ra)⟩
 | _,_,_,.tup h q,r=>by
  cases r
  obtain ⟨its,rv,⟨o,e,c,n,d⟩,_⟩:=I.tuple h
  obtain ⟨as,ra⟩:=IsDs.reads I q rv
  exact ⟨_,.tuple e c d (by simpa using ra)⟩
theorem IsDs.reads {X:Cx} {pins:List (Addr × Obj)} {σ:St} {H:Hp} {s:Shared} (I:Inv X pins σ H s):∀ {xs:List V} {ds:List PyData} {us:List Value},IsDs X.K H xs ds->Vals xs us->∃ as,ReadsAll s.heap us ds as
 | _,_,_,.nil,.nil=>⟨_,.nil⟩
 | _,_,_,.cons h q,.cons r t=>by
  obtain ⟨as,ra⟩:=IsD.reads I h r
  obtain ⟨bs,rb⟩:=IsDs.reads I q t
  exact ⟨_,.cons ra rb⟩
end
theorem IsDs.ints {K:Φρ} {H:Hp}:∀ ns:List Int,IsDs K H (ns.map V.int) (ns.map PyData.int)
 | []=>.nil
 | n :: ns=>.cons (.int n) (IsDs.ints ns)
section
variable {X:Cx}
def rEqD (K:Φρ) (neg:Bool):R2:=λ x y H Q=>∃ d d',IsD K H x d/\IsD K H y d'/\SeqAt.shaped d = true/\SeqAt.shaped d' = true/\Q (.bl (if neg then !PyData.eqv d d' else PyData.eqv d d')) H
theorem c9A (hu:X.A.units + 64 < cLine):OpR X (compareOp .Eq) (rEqD X.K false):=by
 intro pins s σ H x y v u Q I rx ry h
 obtain ⟨d,d',h1,h2,s1,s2,q⟩:=h
 obtain ⟨as,ra⟩:=h1.reads I rx
 obtain ⟨bs,rb⟩:=h2.reads I ry
 exact eq_dataH ra rb s1 s2 hu ⟨.bl _,H,I,rfl,q⟩
def rInD (K:Φρ) (neg:Bool):R2:=λ x y H Q=>∃ d ds,IsD K H x d/\IsD K H y (.list ds)/\SeqAt.shaped d = true/\SeqAt.shaped (.list ds) = true/\Q (.bl (if neg then !ds.any (λ e=>PyData.eqv e d) else ds.any (λ e=>PyData.eqv e d))) H
theorem c9B (hu:X.A.units + 65 < cLine):OpR X (compareOp .In) (rInD X.K false):=by
 intro pins s σ H x y v u Q I rx ry h
 obtain ⟨d,ds,h1,h2,s1,s2,q⟩:=h
 obtain ⟨as,ra⟩:=h1.reads I rx
 obtain ⟨bs,rb⟩:=h2.reads I ry
 exact SeqAt.in_list_reads rb ra (SeqAt.canLay_of_shaped s2) (SeqAt.canLay_of_shaped s1) (room_in_shaped s1 hu) ⟨.bl _,H,I,rfl,q⟩
theorem b7M (hu:X.A.units + 65 < cLine):OpR X (compareOp .NotIn) (rInD X.K true):=by
 intro pins s σ H x y v u Q I rx ry h
 obtain ⟨d,ds,h1,h2,s1,s2,q⟩:=h
 obtain ⟨as,ra⟩:=h1.reads I rx
 obtain ⟨bs,rb⟩:=h2.reads I ry
 exact SeqAt.notIn_list_reads rb ra (SeqAt.canLay_of_shaped s2) (SeqAt.canLay_of_shaped s1) (room_in_shaped s1 hu) ⟨.bl _,H,I,rfl,q⟩
def clsV:V->Option Value
 | .ty n=>some (.type n)
 | .ref a=>some (.ref a)
 | _=>none
theorem c1V {c:V} {cv u:Value} (h:clsV c = some cv) (r:RelV c u):u = cv:=by
 cases c with
 | ty n=>cases h; exact r
 | ref a=>cases h; exact r
 | _=>cases h
theorem b2L:CallR X (.builtin "isinstance") (λ xs H Q=>∃ x c cv t b,xs = [x,c]/\clsV c = some cv/\TyOf X.K H x t/\PySem.W.kitOne X.K t cv = some b/\Q (.bl b) H):=by
 intro pins s σ H xs us Q I r h
 obtain ⟨x,c,cv,t,b,rfl,hc,ty,hk,q⟩:=h
 obtain ⟨u1,u2,rfl,r1,r2⟩:=c5G r
 obtain rfl:=c1V hc r2
 exact b7D I r1 ty hk λ tk=>⟨.bl b,H,I.tok tk,rfl,q⟩
abbrev Cx.in1 (X:Cx):Cx:={ X with A:=X.A.in1 }
theorem Inv.in1 {pins:List (Addr × Obj)} {σ:St} {H:Hp} {s:Shared} (I:Inv X pins σ H s):Inv X.in1 pins σ H s :=
 ⟨⟨I.ok.mod,I.ok.kind,I.ok.glob,I.ok.blt,I.ok.above,I.ok.inj,I.ok.has,I.ok.cab,I.ok.hd,I.ok.frames,I.ok.stk,I.ok.exf,I.ok.bs,I.ok.bsz,I.ok.noex,I.ok.exfs,I.ok.funs,I.ok.frf⟩,I.os,I.bare,I.base,I.loc,I.cell,I.free,I.freeC,I.pin,I.hok,I.len⟩
theorem Inv.of_in1 {pins:List (Addr × Obj)} {σ:St} {H:Hp} {s:Shared} (I:Inv X.in1 pins σ H s):Inv X pins σ H s :=
 ⟨⟨I.ok.mod,I.ok.kind,I.ok.glob,I.ok.blt,I.ok.above,I.ok.inj,I.ok.has,I.ok.cab,I.ok.hd,I.ok.frames,I.ok.stk,I.ok.exf,I.ok.bs,I.ok.bsz,I.ok.noex,I.ok.exfs,I.ok.funs,I.ok.frf⟩,I.os,I.bare,I.base,I.loc,I.cell,I.free,I.freeC,I.pin,I.hok,I.len⟩
def Truths (K:Φρ) (H:Hp) (xs:List V) (bs:List Bool):Prop:=Paired (λ x b=>TruV K x H b) xs bs
theorem Truths.get {K:Φρ} {H:Hp}:∀ {xs:List V} {bs:List Bool} {i:Nat} {x:V},Truths K H xs bs->xs[i]? = some x->∃ b,bs[i]? = some b/\TruV K x H b
 | _,_,_,_,.nil,h=>by simp at h
 | _,_,0,_,.cons h r,e=>by
  simp at e; subst e
  exact ⟨_,rfl,h⟩
 | _,_,i + 1,_,.cons h r,e=>by
  obtain ⟨d,e1,q⟩:=Truths.get (i:=i) r (by simpa using e)
  exact ⟨d,by simpa using e1,q⟩
theorem Truths.bls {K:Φρ} {H:Hp}:∀ bs:List Bool,Truths K H (bs.map V.bl) bs
 | []=>.nil
 | b :: bs=>.cons rfl (Truths.bls bs)
theorem c1W {pins:List (Addr × Obj)} {σ:St} {H:Hp} {p it:Addr} {ys:List V} {bs:List Bool} {R:Result->Shared->Prop} (hc:X.calm = true) (hq:SqL X.K H p ys) (ht:Truths X.K H ys bs) (f:FpOk X pins H it) :
  ∀ (k i:Nat) (s:Shared),ys.length - i = k->Inv X pins σ H s->s.heap.IsListIter it p i->(∀ s',Inv X pins σ H s'->R (.ok (.ret (.bool ((bs.drop i).all id)))) s') ->
  codeAny (model X.prog X.w) X.A (.builtin "all.loop" ⟨[.ref it],[]⟩) R s:=by
 obtain ⟨f0,f1,f2,f3,f4,f5⟩:=f
 intro k
 induction k with
 | zero =>
  intro i s hk I st hR
  obtain ⟨its,rv,pl,hz⟩:=I.list hq
  have hl:=rv.length
  refine codeAny_builtin F.entry_all_loop ?_
  rw [Around.under_plainId F.plain_all_loop _]
  show wpAny _ X.A.in1 (pyNext (.ref it) >>= _) _ _ s
  refine wpAny_bind (wpAny_pyNext_list_end (I.ok.hd hc) st pl.isList (by simp; omega) λ h' eb=>?_)
  refine wpAny_bind (wpAny_rule (wpAny_pure ?_))
  have q:=hR _ (I.turned (t':=s.toks) (λ b o hb e=>eb b o hb e) f0 f1 f3 f4 f5)
  have hlb:bs.length = ys.length:=(Paired.length ht).symm
  rw [List.drop_of_length_le (by omega)] at q
  exact q
 | succ k ih =>
  intro i s hk I st hR
  obtain ⟨its,rv,pl,hz⟩:=I.list hq
  have hl:=rv.length
  have hlt:i < ys.length:=by omega
  have hx:ys[i]? = some ys[i]:=by simp [hlt]
  obtain ⟨u,hu,ru⟩:=rv.get hx
  obtain ⟨b,hb,tb⟩:=ht.get hx
  refine codeAny_builtin F.entry_all_loop ?_
  rw [Around.under_plainId F.plain_all_loop _]
  show wpAny _ X.A.in1 (pyNext (.ref it) >>= _) _ _ s
  refine wpAny_bind (wpAny_pyNext_list_item st pl.isList (x:=u) (by simpa using hu) λ h' st' sb=>?_)
  have I1:Inv X pins σ H { s with heap:=h' }:=I.turned (t':=s.toks) (λ b o hb e=>(sb.2 b hb).trans e) f0 f1 f3 f4 f5
  have hdb:bs.drop i = b :: bs.drop (i + 1):=by
   obtain ⟨hlb,eb⟩:=List.getElem?_eq_some_iff.mp hb
   rw [List.drop_eq_getElem_cons hlb,eb]
  rw [hdb] at hR
  have I1p:Inv X (pins ++ a6R [it] h') σ H { s with heap:=h' }:=I1.pinned (fp:=[it]) (λ c hcc=>by rw [List.mem_singleton.mp hcc]; exact ⟨f0,f1,f2,f3,f4,f5⟩) λ c hcc=>by
   rw [List.mem_singleton.mp hcc]
   obtain ⟨o,e,c',d⟩:=st'
   exact ⟨o,e,λ v z=>by rw [d] at z; cases z⟩
  refine wpAny_bind (wpAny_holding (wpAny_mono (b6Z (X:=X.in1.nox) _ _ σ H ys[i] u (λ c H'=>c = b/\H' = H) ((Inv.in1 I1p).wish _) ru ⟨b,tb,rfl,rfl⟩) (λ c s2 ⟨H',I2,e1,e2⟩=>?_) λ _ _ z=>False.elim z))
  rw [e2] at I2
  subst e1
  have I2':Inv X (pins ++ a6R [it] h') σ H s2:=Inv.of_in1 I2.unwish
  have I2'':Inv X pins σ H s2:=I2'.unpinned
  have st2:s2.heap.IsListIter it p (i + 1):=st'.at λ o e=>(I2'.pin (it,o) (List.mem_append_right _ (List.mem_append_right _ (a3V (List.mem_singleton.mpr rfl) e)))).1
  refine wpAny_bind (wpAny_letGo ?_)
  cases c with
  | true =>
   simp only [if_true]
   exact wpAny_pure ⟨plainId_quiet F.plain_all_loop _,ih (i + 1) s2 (by omega) I2'' st2 λ s' I'=>by simpa using hR s' I'⟩
  | false =>
   simp only [Bool.false_eq_true,if_false]
   refine wpAny_bind (wpAny_rule (wpAny_pure ?_))
   simpa using hR s2 I2''
theorem b7N (hc:X.calm = true):CallR X (.builtin "all") (λ xs H Q=>∃ p ys bs,xs = [.ref p]/\SqL X.K H p ys/\Truths X.K H ys bs/\Q (.bl (bs.all id)) H):=by
 intro pins s σ H xs us Q I r h
 obtain ⟨p,ys,bs,rfl,hq,ht,q⟩:=h
 obtain ⟨u,rfl,rx⟩:=a4B r
 cases rx
 refine call_function_tree F.kind_all F.plain_all F.entry_all (F.args_all1 _) ?_
 unfold Builtin.«all»
 refine wpAny_bind (m:=oneArg "all" _) (wpAny_pure ?_)
 obtain ⟨its,rv,pl,hz⟩:=I.list hq
 refine wpAny_bind (wpAny_pyIter_list pl.isList ?_)
 have I1:Inv X pins σ H { s with heap:=s.heap.push { cls:=.type "list_iterator", data:=.fields #[.ref p,.int 0 0] } }:=I.kept (t':=s.toks) λ b o e=>Heap.get?_push_of_some _ e
 refine wpAny_pure ⟨plainId_quiet F.plain_all_loop _,c1W hc hq ht (I.fpOk (Nat.le_refl _) (I.hok.fresh (Nat.le_refl _))) ys.length 0 _ (Nat.sub_zero _) I1 ⟨_,Heap.get?_push_size _ rfl,rfl,rfl⟩ λ s' I'=>?_⟩
 exact ⟨.bl _,H,I',rfl,by simpa using q⟩
end
end L2
namespace L2
open PySem PySem.Spec PyProof.Rows
structure Dn (K:Φρ) (mg:Str->Option Value) (x:Str) (st:Stmt) (ps:List Str) where
 f:Addr
 fd:FuncData
 F:Fun K x x st f fd
 b:Binds K fd ps []
 m:mg x = some (.ref f)
 bd:∀ (s:Shared) (us:List Value),us.length = ps.length->BindsTo s fd ⟨us,[]⟩ (ps.zip us)
structure Bl (mg:Str->Option Value):Prop where
 get:∀ x:Str,x ∈ (["len", "range", "list", "isinstance", "int", "bool", "str", "all", "any", "sorted", "set", "min", "max", "tuple", "enumerate", "dict", "ValueError"]:List Str)->mg x = none
theorem Bl.len {mg:Str->Option Value} (B:Bl mg):mg "len" = none:=B.get _ (by decide +kernel)
theorem Bl.range {mg:Str->Option Value} (B:Bl mg):mg "range" = none:=B.get _ (by decide +kernel)
theorem Bl.list {mg:Str->Option Value} (B:Bl mg):mg "list" = none:=B.get _ (by decide +kernel)
theorem Bl.isinstance {mg:Str->Option Value} (B:Bl mg):mg "isinstance" = none:=B.get _ (by decide +kernel)
theorem Bl.int {mg:Str->Option Value} (B:Bl mg):mg "int" = none:=B.get _ (by decide +kernel)
theorem Bl.bool {mg:Str->Option Value} (B:Bl mg):mg "bool" = none:=B.get _ (by decide +kernel)
theorem Bl.all {mg:Str->Option Value} (B:Bl mg):mg "all" = none:=B.get _ (by decide +kernel)
theorem Bl.sorted {mg:Str->Option Value} (B:Bl mg):mg "sorted" = none:=B.get _ (by decide +kernel)
theorem Bl.set {mg:Str->Option Value} (B:Bl mg):mg "set" = none:=B.get _ (by decide +kernel)
theorem Bl.min {mg:Str->Option Value} (B:Bl mg):mg "min" = none:=B.get _ (by decide +kernel)
theorem Bl.max {mg:Str->Option Value} (B:Bl mg):mg "max" = none:=B.get _ (by decide +kernel)
theorem Bl.enumerate {mg:Str->Option Value} (B:Bl mg):mg "enumerate" = none:=B.get _ (by decide +kernel)
theorem b2M {K:Φρ}:PySem.W.kitOne K (.type "int") (.type "int") = some true:=by rfl
theorem b0L {K:Φρ}:PySem.W.kitOne K (.type "int") (.type "bool") = some false:=by rfl
theorem b2N {K:Φρ}:PySem.W.kitOne K (.type "NoneType") (.type "int") = some false:=by rfl
theorem b0M {K:Φρ}:PySem.W.kitOne K (.type "NoneType") (.type "bool") = some false:=by rfl
end L2
namespace L2
open PySem PySem.Spec PyProof.Rows
section
variable {X:Cx} {K:Φρ}
theorem a0I (e:X.K = K):IxR X (rIxL K):=by subst e; exact c5J
theorem a1P (e:X.K = K):IxR X (rIxT K):=by subst e; exact c8V
theorem c5O (e:X.K = K) (hu:X.A.units + 64 < cLine):OpR X (compareOp .Eq) (rEqD K false):=by subst e; exact c9A hu
theorem a6U (e:X.K = K) (hu:X.A.units + 65 < cLine):OpR X (compareOp .In) (rInD K false):=by subst e; exact c9B hu
theorem a5I (e:X.K = K) (hu:X.A.units + 65 < cLine):OpR X (compareOp .NotIn) (rInD K true):=by subst e; exact b7M hu
def rLen (K:Φρ):List V->Hp->VK->Prop:=λ xs H Q=>∃ p ys,xs = [.ref p]/\(SqL K H p ys\/SqT K H p ys)/\Q (.int ys.length) H
theorem a0T (e:X.K = K):CallR X (.builtin "len") (rLen K):=by subst e; exact b0G
def c5P (K:Φρ):List V->Hp->VK->Prop:=λ xs H Q=>∃ p ys,xs = [.ref p]/\(SqL K H p ys\/SqT K H p ys)/\∀ l,H l = none->Q (.ref l) (upd H l (.lst ys))
theorem b5Q (e:X.K = K):CallR X (.type "list") (c5P K):=by subst e; exact b0H
def d0Z (K:Φρ):List V->Hp->VK->Prop:=λ xs H Q=>∃ x c cv t b,xs = [x,c]/\clsV c = some cv/\TyOf K H x t/\PySem.W.kitOne K t cv = some b/\Q (.bl b) H
theorem a3L (e:X.K = K):CallR X (.builtin "isinstance") (d0Z K):=by subst e; exact b2L
def rAll (K:Φρ):List V->Hp->VK->Prop:=λ xs H Q=>∃ p ys bs,xs = [.ref p]/\SqL K H p ys/\Truths K H ys bs/\Q (.bl (bs.all id)) H
theorem a6V (e:X.K = K) (hc:X.calm = true):CallR X (.builtin "all") (rAll K):=by subst e; exact b7N hc
theorem a0P {tg l:Expr} {tl:TE} (e:X.K = K) (hl:PE X l tl):PI X tg l (c8O K tl):=by subst e; exact c5D hl
def tTru (K:Φρ) (ta:TE):TT:=λ σ H Q=>ta σ H λ x H'=>∃ k,TruV K x H' k/\Q k H'
theorem a0W {a:Expr} {ta:TE} (e:X.K = K) (ha:PE X a ta) (he:∀ whole,isTrue a X.env whole = (do let v <- whole; standAt a.pos; holding [v] (truthy v))):PT X a (tTru K ta):=by subst e; exact c1R ha he
theorem a2W {es:List Expr} {k:Nat} {t:TGs} {n:Nat} {pos:Pos} (e:X.K = K) (hc:X.calm = true) (h:PGs X es t)
  (hn:(assignEach es X.env).length = n:=by rfl) (hst:(assignEach es X.env).findIdx? (·.1) = none:=by rfl):PG X (.Tuple es k pos) (gTup K n t):=by subst e; exact c8L hc h hn hst
theorem c5Q {o:Expr} {to:TE} {name:Str} {apos cpos:Pos} {T id:String} {r:V->List V->Hp->VK->Prop} (e:X.K = K) (pa:PlainAttrs T) (slot:Slot T name id) (hty:typeOf (.builtin id) = pure (.type "method_descriptor")) (hm:MtR X id r) (ho:PE X o to)
  (hbase:attributeBase o name X.env (eval o X.env) = eval o X.env:=by rfl) (hline:(apos.endLine == cpos.line) = true:=by rfl):PE X (.Call (.Attribute o name apos) [] [] cpos) (tBM0 K T r to):=by subst e; exact c8W pa slot hty hm ho hbase hline
theorem a3A {o e:Expr} {es:List Expr} {to:TE} {t:TA} {name:Str} {apos cpos:Pos} {T id:String} {r:V->List V->Hp->VK->Prop} (e0:X.K = K) (pa:PlainAttrs T) (slot:Slot T name id) (hty:typeOf (.builtin id) = pure (.type "method_descriptor")) (hm:MtR X id r) (ho:PE X o to) (ha:PA X (e :: es) t)
  (hbase:attributeBase o name X.env (eval o X.env) = eval o X.env:=by rfl)
  (hfew:((backTo cpos (starEach (e :: es) X.env)).all (λ x=>!x.1) && (backToKw cpos (keywordEach [] X.env)).all (λ x=>x.1.isSome)
   && decide ((e :: es).length + ([]:List Keyword).length + (if ([]:List Keyword).isEmpty then 0 else 1) < 30)) = true:=by rfl)
  (hline:(apos.endLine == cpos.line) = true:=by rfl) (hs:starEach (e :: es) X.env = (false,eval e X.env) :: starEach es X.env:=by rfl) (hplain:(backTo cpos (starEach es X.env)).any (·.1) = false:=by rfl) :
  PE X (.Call (.Attribute o name apos) (e :: es) [] cpos) (tBM K T r to t):=by subst e0; exact d0X pa slot hty hm ho ha hbase hfew hline hs hplain
def c5R:V->List V->Hp->VK->Prop:=λ x vs H Q=>∃ l xs i y,x = .ref l/\vs = [.int i,y]/\H l = some (.lst xs)/\xs.length < 1000/\0 <= i/\i <= (xs.length:Int)/\Q .non (upd H l (.lst (xs.take i.toNat ++ y :: xs.drop i.toNat)))
theorem mt_insert:MtM X "list.insert" c5R:=by
 intro pins s σ H x vs v us Q I rx rv h
 obtain ⟨l,xs,i,y,rfl,rfl,hH,hz,h0,h1,q⟩:=h
 cases rx
 obtain ⟨u1,u2,rfl,ru1,ru2⟩:=rv.two
 obtain ⟨t,rfl⟩:=ru1
 obtain ⟨z,its,n,r,hl,e⟩:=I.lstM hH
 have hlen:=r.length
 have hs:sizeLine = 16777216:=sizeLine_eq
 have hfit:¬(!Builtin.List.listFitsIndex i) = true:=by
  unfold Builtin.List.listFitsIndex
  simp
  omega
 refine call_meets F.slot_list_insert ⟨_,e,rfl⟩ F.entry_list_insert (F.args_list_insert_3 _ _ _) (AutoSeq1.list_insert_list_int_val_1 l its.toArray n i t u2 hfit (by rw [List.size_toArray]; omega)) ⟨e,?_⟩
 refine ⟨.non,_,I.lset (its':=its.take i.toNat ++ u2 :: its.drop i.toNat) hH e ?_ ((r.take i.toNat).append (.cons ru2 (r.drop i.toNat))) ?_,rfl,q⟩
 ·have hk:min i.toNat its.length = i.toNat:=by omega
  simp [show ¬ i < 0 by omega,hk]
  exact List.take_of_length_le (by simp)
 ·rw [List.length_append,List.length_cons,List.length_take,List.length_drop]
  omega
end
end L2
namespace L2
open PySem PySem.Spec PyProof.Rows
end L2
namespace L2
open PySem PySem.Spec PyProof.Rows
structure New (H:Hp) (p:Addr) (o:HO) (H':Hp):Prop where
 fresh:H p = none
 here:H' p = some o
 rest:∀ b,b ≠ p->H' b = H b
theorem New.mk0 {H:Hp} {p:Addr} {o:HO} (h:H p = none):New H p o (upd H p o):=⟨h,a4M,λ _ hb=>a1M hb⟩
theorem New.same {H H':Hp} {p:Addr} {o:HO} (n:New H p o H'):Same H H':=λ b u e=>(n.rest b (a1C e n.fresh)).trans e
theorem New.ne {H H':Hp} {p b:Addr} {o u:HO} (n:New H p o H') (h:H b = some u):b ≠ p:=a1C h n.fresh
structure Chg (H:Hp) (l:Addr) (o:HO) (H':Hp):Prop where
 here:H' l = some o
 rest:∀ b,b ≠ l->H' b = H b
theorem Chg.mk0 {H:Hp} {l:Addr} {o:HO}:Chg H l o (upd H l o):=⟨a4M,λ _ hb=>a1M hb⟩
section
variable {X:Cx} {K:Φρ} {es:List Expr} {t:TA} {pos:Pos}
def d1A (t:TA):TE:=λ σ H Q=>t σ H λ xs H1=>xs.length <= 1000/\∀ p H',New H1 p (.tup xs) H'->Q (.ref p) H'
def d1B (t:TA):TE:=λ σ H Q=>t σ H λ xs H1=>xs.length <= 1000/\∀ p H',New H1 p (.lst xs) H'->Q (.ref p) H'
theorem a1W {x1} (h:PA X es t):PE X (.Tuple es x1 pos) (d1A t):=by
 intro pins s σ H Q I hq
 refine wpAny_Tuple_spliced (thn (h pos pins s σ H _ I hq) λ us s1 ⟨xs,H1,I1,r,z,q⟩=>?_)
 have z':xs.length <= sizeLine:=Nat.le_of_lt (a0V z)
 refine ⟨by rw [<- r.length]; exact z',?_⟩
 have hf:H1 s1.heap.objs.size = none:=I1.hok.fresh (Nat.le_refl _)
 refine ⟨.ref s1.heap.objs.size,upd H1 s1.heap.objs.size (.tup xs),I1.laid (t':=s1.toks) (λ b u e=>Heap.get?_push_of_some _ e) (Nat.le_refl _) ?_,rfl,q _ _ (New.mk0 hf)⟩
 exact ⟨z',us,r,⟨_,Heap.get?_push_size _ rfl,rfl,_,rfl⟩⟩
theorem a1G (h:PA X es t):PE X (.List es pos) (d1B t):=by
 intro pins s σ H Q I hq
 refine wpAny_List_spliced (thn (h pos pins s σ H _ I hq) λ us s1 ⟨xs,H1,I1,r,z,q⟩=>?_)
 have z':xs.length <= sizeLine:=Nat.le_of_lt (a0V z)
 refine ⟨by rw [<- r.length]; exact z',?_⟩
 have hf:H1 s1.heap.objs.size = none:=I1.hok.fresh (Nat.le_refl _)
 refine ⟨.ref s1.heap.objs.size,upd H1 s1.heap.objs.size (.lst xs),I1.laid (t':=s1.toks) (λ b u e=>Heap.get?_push_of_some _ e) (Nat.le_refl _) ?_,rfl,q _ _ (New.mk0 hf)⟩
 exact ⟨z',us,0,r,Heap.get?_push_size _ rfl⟩
theorem OpR.weak {f:Value->Value->Sem Value} {r r':R2} (h:OpR X f r) (m:∀ x y H Q,r' x y H Q->r x y H Q):OpR X f r':=λ pins s σ H x y v u Q I rx ry q=>h pins s σ H x y v u Q I rx ry (m x y H Q q)
theorem CallR.weak {f:Value} {r r':List V->Hp->VK->Prop} (h:CallR X f r) (m:∀ xs H Q,r' xs H Q->r xs H Q):CallR X f r':=λ pins s σ H xs us Q I rs q=>h pins s σ H xs us Q I rs (m xs H Q q)
def d1C:R2:=λ x y H Q=>∃ l b xs zs,x = .ref l/\y = .ref b/\H l = some (.lst xs)/\H b = some (.lst zs)/\xs.length + zs.length <= 1000/\∀ p H',New H p (.lst (xs ++ zs)) H'->Q (.ref p) H'
theorem a8X:OpR X (binaryOp .Add) d1C:=op_cat.weak λ x y H Q ⟨l,b,xs,zs,e1,e2,h1,h2,z,q⟩=>⟨l,b,xs,zs,e1,e2,h1,h2,Nat.le_of_lt (a0V z),λ p hp=>q p _ (New.mk0 hp)⟩
def rSlN (K:Φρ):V->Option Int->Option Int->Hp->VK->Prop:=λ x lo hi H Q=>∃ a xs,x = .ref a/\SqL K H a xs/\∀ p H',New H p (.lst (cutV xs lo hi)) H'->Q (.ref p) H'
theorem a3Y (e:X.K = K):SlR X (rSlN K):=by
 subst e
 exact λ pins s σ H x v vl vu lo hi sl Q I rx hs pl pu ⟨a,xs,e,h,q⟩=>c5K pins s σ H x v vl vu lo hi sl Q I rx hs pl pu ⟨a,xs,e,h,λ p hp=>q p _ (New.mk0 hp)⟩
def c9C (K:Φρ):List V->Hp->VK->Prop:=λ xs H Q=>∃ p ys,xs = [.ref p]/\(SqL K H p ys\/SqT K H p ys)/\∀ l H',New H l (.lst ys) H'->Q (.ref l) H'
theorem a3Z (e:X.K = K):CallR X (.type "list") (c9C K):=(b5Q e).weak λ xs H Q ⟨p,ys,e,h,q⟩=>⟨p,ys,e,h,λ l hl=>q l _ (New.mk0 hl)⟩
theorem MtM.weak {id:String} {r r':V->List V->Hp->VK->Prop} (h:MtM X id r) (m:∀ x xs H Q,r' x xs H Q->r x xs H Q):MtM X id r':=λ pins s σ H x xs v us Q I rx rs q=>h pins s σ H x xs v us Q I rx rs (m x xs H Q q)
def d1D:V->List V->Hp->VK->Prop:=λ x vs H Q=>∃ l xs y,x = .ref l/\vs = [y]/\H l = some (.lst xs)/\xs.length < 1000/\∀ H',Chg H l (.lst (xs ++ [y])) H'->Q .non H'
theorem a2A:MtM X "list.append" d1D:=mt_append.weak λ x vs H Q ⟨l,xs,y,e1,e2,h,z,q⟩=>⟨l,xs,y,e1,e2,h,a0V (Nat.le_of_lt z),q _ Chg.mk0⟩
def d1E:V->List V->Hp->VK->Prop:=λ x vs H Q=>∃ l xs i y,x = .ref l/\vs = [.int i,y]/\H l = some (.lst xs)/\xs.length < 1000/\0 <= i/\i <= (xs.length:Int)/\∀ H',Chg H l (.lst (xs.take i.toNat ++ y :: xs.drop i.toNat)) H'->Q .non H'
theorem b5R:MtM X "list.insert" d1E:=mt_insert.weak λ x vs H Q ⟨l,xs,i,y,e1,e2,h,z,h0,h1,q⟩=>⟨l,xs,i,y,e1,e2,h,z,h0,h1,q _ Chg.mk0⟩
def d1F:V->List V->Hp->VK->Prop:=λ x vs H Q=>∃ l b xs zs,x = .ref l/\vs = [.ref b]/\H l = some (.lst xs)/\H b = some (.lst zs)/\xs.length + zs.length <= 1000/\∀ H',Chg H l (.lst (xs ++ zs)) H'->Q .non H'
theorem b5S:MtM X "list.extend" d1F:=mt_extend.weak λ x vs H Q ⟨l,b,xs,zs,e1,e2,h,h',z,q⟩=>⟨l,b,xs,zs,e1,e2,h,h',Nat.le_of_lt (a0V z),q _ Chg.mk0⟩
end
theorem a5W {K:Φρ} {a:Addr} {xs:List V} {ix:List (Option Nat)} {g:TG} {tt:TT} {te:TE} {σ:St} {H1:Hp} {Q:VK} (f:V->Option V) (hx:SqL K H1 a xs) (hz:xs.length <= 1000)
  (hs:∀ x H (N:Option V->Hp->Prop),x ∈ xs->Same H1 H->(∀ H',Same H1 H'->N (f x) H')->g x (capt ix σ) H λ σ2 H2=>tt σ2 H2 λ b H3=>if b = true then te σ2 H3 λ v H4=>N (some v) H4 else N none H3)
  (hd:∀ H p H',Same H1 H->New H p (.lst (xs.filterMap f)) H'->Q (.ref p) H'):a4O ix g tt te σ H1 Q (Itl K a) :=
 d0Y f hx (Nat.le_of_lt (a0V hz)) hs λ H p s hp=>hd H p _ s (New.mk0 hp)
theorem b2O {lo:Int} {n:Nat} {ix:List (Option Nat)} {g:TG} {tt:TT} {te:TE} {σ:St} {H1:Hp} {Q:VK} (f:Nat->Option V) (hz:n <= 1000)
  (hs:∀ i H (N:Option V->Hp->Prop),i < n->Same H1 H->(∀ H',Same H1 H'->N (f i) H')->g (.int (lo + i)) (capt ix σ) H λ σ2 H2=>tt σ2 H2 λ b H3=>if b = true then te σ2 H3 λ v H4=>N (some v) H4 else N none H3)
  (hd:∀ H p H',Same H1 H->New H p (.lst ((List.range n).filterMap f)) H'->Q (.ref p) H'):a4O ix g tt te σ H1 Q (Itr lo n) :=
 c8Z f (Nat.le_of_lt (a0V hz)) hs λ H p s hp=>hd H p _ s (New.mk0 hp)
end L2
namespace Lw
open PySem L2
theorem a3M {α β:Type} {f:α->Option β} {g:α->β}:∀ {l:List α},(∀ x ∈ l,f x = some (g x))->l.filterMap f = l.map g
 | [],_=>rfl
 | x :: r,h=>by
  rw [List.filterMap_cons_some (h x List.mem_cons_self),List.map_cons,a3M λ y hy=>h y (List.mem_cons_of_mem _ hy)]
theorem c5S {f:V->Option V} {g:Int->V} {ns:List Int} (h:∀ v ∈ ns,f (.int v) = some (g v)):(ns.map V.int).filterMap f = ns.map g:=by
 rw [List.filterMap_map]
 exact a3M h
theorem a8Y {ns:List Int} {k:Int} (h0:0 <= k) (h:k < (ns.length:Int)):atI (ns.map V.int) k = some (.int (ns.getD k.toNat 0)):=by
 have hk:k.toNat < ns.length:=by omega
 have ek:k = ((k.toNat:Nat):Int):=by omega
 have q:atI (ns.map V.int) ((k.toNat:Nat):Int) = some (.int (ns.getD k.toNat 0)):=a2M (by
  rw [List.getElem?_map,List.getElem?_eq_getElem hk,τα,List.getElem?_eq_getElem hk]; rfl)
 rw [<- ek] at q
 exact q
def Scr (K:Φρ) (H:Hp) (a:Addr) (ns:List Int):Prop:=(∃ o,H a = some (.frz o (.lst (ns.map V.int)))) \/
 ∃ (o:Obj) (its:Array Value) (n:Nat),K.lookup a = some o/\o.cls = .type "list" /\ o.dict = none/\o.data = .seq its n/\its.size <= sizeLine/\Vals (ns.map V.int) its.toList
theorem Scr.seq {K:Φρ} {H:Hp} {a:Addr} {ns:List Int} (h:Scr K H a ns):SqL K H a (ns.map V.int):=by
 rcases h with ⟨o,h⟩ | h
 ·exact .inl (.inr ⟨o,h⟩)
 ·exact .inr h
theorem Scr.of {K:Φρ} {H:Hp} {a:Addr} {ns:List Int} (hO:Only H) (h:SqL K H a (ns.map V.int)):Scr K H a ns:=by
 rcases h with (h | ⟨o,h⟩) | h
 ·rcases hO a with z | ⟨ob,xs,z⟩
  ·rw [z] at h; cases h
  ·rw [z] at h; cases h
 ·exact .inl ⟨o,h⟩
 ·exact .inr h
theorem Scr.same {K:Φρ} {H H':Hp} {a:Addr} {ns:List Int} (e:Same H H') (h:Scr K H a ns):Scr K H' a ns:=by
 rcases h with ⟨o,h⟩ | h
 ·exact .inl ⟨o,e _ _ h⟩
 ·exact .inr h
def spLaw (K:Φρ):Sp:=λ vs H Q _=>∃ (a:Addr) (ns:List Int),vs = [.ref a]/\Scr K H a ns/\ns.length <= 63/\∀ H',Q (.bl true) H'
end Lw
namespace L2
open PySem PySem.Spec PyProof.Rows
theorem c5T {K:Φρ} {h:Heap} {mg:Str->Option Value} {x:Str} {st:Stmt} {ps:List Str} {f:Addr} {oc:Value} {od an:Option Addr} {osl:Array (Option Value)} {kV doc pm cdv ct:Value} (X:K.In h) (G:h.Ns mainGlobals mg)
  (a:PySem.W.nsIn K mainGlobals x = some (some (.ref f))) (l:K.lookup f = some ⟨oc,od,.func (PySem.W.fnOf x x (a1Z st) (a1V st) (a0E st) .none kV doc pm an cdv ct),osl⟩) (c:PySem.W.codeIn K cdv x = true) (k:PySem.W.keepIn K (.ref f) = true)
  (hb:∀ (kV doc pm:Value) (an:Option Addr) (cdv ct:Value) (us:List Value),us.length = ps.length->bindArgs (PySem.W.fnOf x x (a1Z st) (a1V st) (a0E st) .none kV doc pm an cdv ct) ⟨us,[]⟩ = pure (ps.zip us)) :
  Nonempty (Dn K mg x st ps) :=
 have F:=c8X (st:=st) l c k
 ⟨⟨f,_,F,F.binds hb,PySem.W.mg_of X G a,λ s us hl=>.of_eq (hb _ _ _ _ _ _ us hl)⟩⟩
theorem bl_mk {K:Φρ} {h:Heap} {mg:Str->Option Value} (X:K.In h) (G:h.Ns mainGlobals mg)
  (z1:PySem.W.nsIn K mainGlobals "len" = some none) (z2:PySem.W.nsIn K mainGlobals "range" = some none) (z3:PySem.W.nsIn K mainGlobals "list" = some none) (z4:PySem.W.nsIn K mainGlobals "isinstance" = some none) (z5:PySem.W.nsIn K mainGlobals "int" = some none)
  (z6:PySem.W.nsIn K mainGlobals "bool" = some none) (z7:PySem.W.nsIn K mainGlobals "str" = some none) (z8:PySem.W.nsIn K mainGlobals "all" = some none) (z9:PySem.W.nsIn K mainGlobals "any" = some none) (z10:PySem.W.nsIn K mainGlobals "sorted" = some none)
  (z11:PySem.W.nsIn K mainGlobals "set" = some none) (z12:PySem.W.nsIn K mainGlobals "min" = some none) (z13:PySem.W.nsIn K mainGlobals "max" = some none) (z14:PySem.W.nsIn K mainGlobals "tuple" = some none) (z15:PySem.W.nsIn K mainGlobals "enumerate" = some none)
  (z16:PySem.W.nsIn K mainGlobals "dict" = some none) (z17:PySem.W.nsIn K mainGlobals "ValueError" = some none):Bl mg:=by
 refine ⟨λ x hx=>?_⟩
 simp only [List.mem_cons,List.not_mem_nil,or_false] at hx
 rcases hx with rfl | rfl | rfl | rfl | rfl | rfl | rfl | rfl | rfl | rfl | rfl | rfl | rfl | rfl | rfl | rfl | rfl
 ·exact PySem.W.mg_none_of X G z1
 ·exact PySem.W.mg_none_of X G z2
 ·exact PySem.W.mg_none_of X G z3
 ·exact PySem.W.mg_none_of X G z4
 ·exact PySem.W.mg_none_of X G z5
 ·exact PySem.W.mg_none_of X G z6
 ·exact PySem.W.mg_none_of X G z7
 ·exact PySem.W.mg_none_of X G z8
 ·exact PySem.W.mg_none_of X G z9
 ·exact PySem.W.mg_none_of X G z10
 ·exact PySem.W.mg_none_of X G z11
 ·exact PySem.W.mg_none_of X G z12
 ·exact PySem.W.mg_none_of X G z13
 ·exact PySem.W.mg_none_of X G z14
 ·exact PySem.W.mg_none_of X G z15
 ·exact PySem.W.mg_none_of X G z16
 ·exact PySem.W.mg_none_of X G z17
theorem law_at {P:Program} {w:World} {K:Φρ} {mg:Str->Option Value} {fa:Addr} {st:Stmt} {k:Nat} {sp:Sp} {x:Str} (hfa:mg "law" = some (.ref fa)) (d:Dn K mg "law" st [x]) (F:∀ base:Heap,FnOk P w K mg base CX0 k d.f d.fd [x] sp) :
  ∃ fd:FuncData,(∀ (s:Shared) (u:Value),BindsTo s fd ⟨[u],[]⟩ [(x,u)])/\∀ base:Heap,K.In base->base.Ns mainGlobals mg->FnOk P w K mg base CX0 k fa fd [x] sp:=by
 have e:fa = d.f:=by
  have:=hfa.symm.trans d.m
  have:=Option.some.inj this
  cases this
  rfl
 subst e
 exact ⟨d.fd,λ s u=>d.bd s [u] rfl,λ base _ _=>F base⟩
end L2
namespace L2
open PySem PySem.Spec PyProof.Rows
def Ite (K:Φρ) (a:Addr):It :=
 ⟨λ i H=>∃ xs x,SqL K H a xs/\xs[i]? = some x,λ i H x H'=>∃ p y,x = .ref p/\New H p (.tup [.int i,y]) H'/\∀ xs,SqL K H a xs->xs[i]? = some y,λ i H=>∃ xs,SqL K H a xs/\xs.length <= i⟩
theorem b7O {P:Program} {w:World} {K:Φρ} {elts:List Expr} {k:Nat} {pos:Pos} (a it e:Addr) (hei:e ≠ it):Turn P w K (.Tuple elts k pos) (Ite K a) [e,it] e (λ i h=>(∃ old,IsEnum h e it i old)/\h.IsListIter it a i) where
 mem:=by simp
 obj:=λ i h st b hb=>by
  obtain ⟨⟨old,he⟩,hit⟩:=st
  rcases List.mem_cons.mp hb with rfl | hb
  ·exact ⟨_,he,λ v z=>by
    have z':Data.fields _ = Data.cell v:=z
    cases z'⟩
  ·rw [List.mem_singleton.mp hb]
   obtain ⟨o,e1,c,d⟩:=hit
   exact ⟨o,e1,λ v z=>by rw [d] at z; cases z⟩
 keep:=λ i h h' st kk=>by
  obtain ⟨⟨old,he⟩,hit⟩:=st
  exact ⟨⟨old,kk e (by simp) _ he⟩,hit.at λ o q=>kk it (by simp) o q⟩
 item:=by
  intro X hP hw hK hc i pins s σ H E I hf st hg
  subst hP hw hK
  obtain ⟨xs,x,hq,hx⟩:=hg
  obtain ⟨its,rv,pl,hz⟩:=I.list hq
  obtain ⟨u,hu,ru⟩:=rv.get hx
  obtain ⟨⟨old,he⟩,hit⟩:=st
  obtain ⟨f0,f1,f2,f3,f4,f5⟩:=hf e (by simp)
  obtain ⟨g0,g1,g2,g3,g4,g5⟩:=hf it (by simp)
  refine wpAny_pyNext_enum_item he hit pl.isList (x:=u) (by simpa using hu) hei λ h' ho hit' hT hsz hk=>?_
  refine ⟨_,rfl,wpAny_letOwnedTupleGo_enum ho λ h2 he2 hs2=>?_⟩
  have eT:s.heap.objs.size ≠ e:=Nat.ne_of_gt (Heap.lt_size he)
  have iT:s.heap.objs.size ≠ it:=by
   obtain ⟨o,e1,_⟩:=hit
   exact Nat.ne_of_gt (Heap.lt_size e1)
  have hT2:h2.get? s.heap.objs.size = some { cls:=.type "tuple", data:=.seq #[.int i s.toks,u] }:=(hs2.2 _ eT).trans hT
  have kp:∀ b o,b ≠ e->b ≠ it->s.heap.get? b = some o->h2.get? b = some o:=λ b o h1 h2' q=>(hs2.2 b h1).trans (hk b o h1 h2' q)
  have I1:Inv X pins σ H { s with heap:=h2,toks:=s.toks + 1 }:=by
   refine I.step (g':=s.gens) (d':=s.drawn) (H':=H) (ch:=[e,it]) (λ b hb=>?_) (λ b o _ _ hc q _=>kp b o (λ z=>hc (by simp [z])) (λ z=>hc (by simp [z])) q) (λ b o _ _ hc q _=>⟨o.slots,kp b o (λ z=>hc (by simp [z])) (λ z=>hc (by simp [z])) q⟩) (λ _ _ _ _ n=>n)
    (λ b o hc q=>⟨o,kp b o (λ z=>hc (by simp [z])) (λ z=>hc (by simp [z])) q⟩) (λ _ _ q=>q) (λ _ _ _ q=>q) (λ b ps q=>⟨#[],by rw [q]; simp⟩) (λ m hm=>?_) (λ b o q=>?_) I.bare
   ·rcases List.mem_cons.mp hb with rfl | hb
    ·exact ⟨f3,f1,f4,f5⟩
    ·rw [List.mem_singleton.mp hb]; exact ⟨g3,g1,g4,g5⟩
   ·obtain ⟨o,es,ep,q,r⟩:=hm
    exact ⟨o,es,ep,kp _ o (Ne.symm f1) (Ne.symm g1) q,r⟩
   ·have nb:∀ c v,H c = some v->c ≠ e/\c ≠ it:=λ c v q=>⟨a1C q f0,a1C q g0⟩
    refine (I.hok b o q).stay (λ c v hcc r=>kp c v ?_ ?_ r) (λ _ q=>q) λ _ _ q=>q
    ·rcases hcc with z | z
     ·rw [z]; exact (nb b o q).1
     ·exact (nb c _ z).1
    ·rcases hcc with z | z
     ·rw [z]; exact (nb b o q).2
     ·exact (nb c _ z).2
  have hfree:H s.heap.objs.size = none:=I.hok.fresh (Nat.le_refl _)
  have I2:Inv X pins σ (upd H s.heap.objs.size (.tup [.int i,x])) { s with heap:=h2,toks:=s.toks + 1 }:=by
   refine Inv.track I1 hfree I.sz (Nat.ne_of_gt I.lt) (λ y c q=>?_) (λ p hp=>Nat.ne_of_lt (Heap.lt_size (I.pin p hp).1)) ?_
   ·obtain ⟨v,oc,q1,_⟩:=I.cell y c q
    exact Nat.ne_of_lt (Heap.lt_size q1)
   ·exact ⟨(by show 2 <= sizeLine; decide),[.int i s.toks,u],.cons ⟨_,rfl⟩ (.cons ru .nil),⟨_,hT2,rfl,_,rfl⟩⟩
  refine ⟨.ref s.heap.objs.size,_,I2,rfl,⟨_,x,rfl,New.mk0 hfree,λ ys hy=>by rw [I.list_inj hy hq]; exact hx⟩,⟨⟨u,?_⟩,hit'.at λ o q=>(hs2.2 it (Ne.symm hei)).trans q⟩,λ b hb=>?_⟩
  ·have e1:((i + 1:Nat):Int) = (i:Int) + 1:=by omega
   show IsEnum h2 e it ((i + 1:Nat):Int) u
   rw [e1]; exact he2
  ·rcases List.mem_cons.mp hb with rfl | hb
   ·rw [a1M (Ne.symm eT)]; exact f0
   ·rw [List.mem_singleton.mp hb,a1M (Ne.symm iT)]; exact g0
 done:=by
  intro X hP hw hK hc i pins s σ H E I hf st hg
  subst hP hw hK
  obtain ⟨xs,hq,hx⟩:=hg
  obtain ⟨its,rv,pl,hz⟩:=I.list hq
  obtain ⟨⟨old,he⟩,hit⟩:=st
  obtain ⟨g0,g1,g2,g3,g4,g5⟩:=hf it (by simp)
  have hl:=rv.length
  exact wpAny_pyNext_enum_end (I.ok.hd hc) he hit pl.isList (by simp; omega) λ h' eb=>⟨rfl,I.turned (t':=s.toks) (λ b o hb q=>eb b o hb q) g0 g1 g3 g4 g5⟩
 self:=λ _ _ _ _ _ st h=>by
  obtain ⟨⟨old,he⟩,_⟩:=st
  exact wpAny_pyIter_enum he h
section
variable {X:Cx} {K:Φρ}
def d1G (K:Φρ) (ta:TA):TI:=λ σ H R=>ta σ H λ vs H1=>∃ a,vs = [.ref a]/\(∃ xs,SqL K H1 a xs)/\R (Ite K a) H1
theorem b2P {elts:List Expr} {k:Nat} {tpos:Pos} {l:Expr} {ta:TA} {p pos:Pos} (e0:X.K = K) (hg:Gl X "enumerate") (hm:X.mg "enumerate" = none) (ha:PA X [l] ta) (hs:starEach [l] X.env = [(false,eval l X.env)]:=by rfl) :
  PI X (.Tuple elts k tpos) (.Call (.Name "enumerate" p) [l] [] pos) (d1G K ta):=by
 subst e0
 intro pins s σ H R I h
 refine wpAny_Call_Name_kw (a4C I hg hm boot_enumerate ?_)
 refine PyProof.Rows.callWith_type1 (thn (ha pos pins s σ H _ I h) λ us s1 ⟨vs,H1,I1,r1,q1⟩=>?_) hs (by rfl)
 obtain ⟨a,e,⟨xs,hq⟩,q⟩:=q1
 subst e
 obtain ⟨u,rfl,ru⟩:=a4B r1
 cases ru
 obtain ⟨its,rv,pl,hz⟩:=I1.list hq
 refine call_enumerate_list pl.isList λ h' he hit hsz hk=>?_
 refine wpAny_pyIter_enum he ?_
 have I2:Inv X pins σ H1 { s1 with heap:=h' }:=I1.kept (t':=s1.toks) hk
 refine ⟨s1.heap.objs.size + 1,[s1.heap.objs.size + 1,s1.heap.objs.size],_,_,H1,rfl,I2,b7O a s1.heap.objs.size (s1.heap.objs.size + 1) (Nat.ne_of_gt (Nat.lt_succ_self _)),⟨⟨_,he⟩,hit⟩,λ b hb=>?_,q⟩
 have hb':s1.heap.objs.size <= b:=by
  rcases List.mem_cons.mp hb with rfl | hb
  ·exact Nat.le_succ _
  ·rw [List.mem_singleton.mp hb]; exact Nat.le_refl _
 exact I1.fpOk hb' (I1.hok.fresh hb')
end
theorem b3V {K:Φρ} {a:Addr} {xs:List V} {g:TG} {tb:TS} {D:Ends} {σ:St} {H:Hp} (Pv:Nat->St->Hp->Prop) (h0:Pv 0 σ H) (hl:∀ i σ H,i <= xs.length->Pv i σ H->SqL K H a xs)
  (hs:∀ (i:Nat) x σ H p H',xs[i]? = some x->Pv i σ H->New H p (.tup [.int i,x]) H'->g (.ref p) σ H' λ σ2 H2=>tb { D with nx:=Pv (i + 1),ct:=Pv (i + 1),bk:=D.nx } σ2 H2) (hd:∀ σ H,Pv xs.length σ H->D.nx σ H) :
  ∃ W:Nat->Nat->St->Hp->Prop,(∃ m,W 0 m σ H)/\∀ i m σ H,W i m σ H ->
   ((Ite K a).stop i H/\D.nx σ H)\/((Ite K a).go i H/\∃ N:St->Hp->Prop,(∀ σ' H',N σ' H'->∃ m',m' < m/\W (i + 1) m' σ' H')/\∀ x H',(Ite K a).yld i H x H'->g x σ H' λ σ2 H2=>tb { D with nx:=N,ct:=N,bk:=D.nx } σ2 H2):=by
 refine ⟨λ i m σ H=>m = xs.length - i/\i <= xs.length/\Pv i σ H,⟨xs.length,by simp,Nat.zero_le _,h0⟩,?_⟩
 rintro i m σ H ⟨rfl,hi,p⟩
 have q:=hl i σ H hi p
 by_cases hlt:i < xs.length
 ·refine .inr ⟨⟨xs,xs[i],q,by simp [hlt]⟩,Pv (i + 1),λ σ' H' p'=>⟨xs.length - (i + 1),by omega,rfl,hlt,p'⟩,λ x H' y=>?_⟩
  obtain ⟨pp,y0,rfl,nw,ex⟩:=y
  exact hs i y0 σ H pp H' (ex xs q) p nw
 ·have e:i = xs.length:=by omega
  subst e
  exact .inl ⟨⟨xs,q,Nat.le_refl _⟩,hd σ H p⟩
theorem c5U {K:Φρ} {a:Addr} {xs:List V} {ix:List (Option Nat)} {g:TG} {tt:TT} {te:TE} {σ:St} {H1:Hp} {Q:VK} (f:Nat->V->Option V) (hx:SqL K H1 a xs) (hz:xs.length <= 1000)
  (hs:∀ (i:Nat) x H p H0 (N:Option V->Hp->Prop),xs[i]? = some x->Same H1 H->New H p (.tup [.int i,x]) H0->(∀ H',Same H1 H'->N (f i x) H')->g (.ref p) (capt ix σ) H0 λ σ2 H2=>tt σ2 H2 λ b H3=>if b = true then te σ2 H3 λ v H4=>N (some v) H4 else N none H3)
  (hd:∀ H p H',Same H1 H->New H p (.lst ((List.range xs.length).filterMap λ i=>(xs[i]?).bind (f i))) H'->Q (.ref p) H'):a4O ix g tt te σ H1 Q (Ite K a):=by
 refine ⟨λ i m ys H=>m = xs.length - i/\i <= xs.length/\ys = (List.range i).filterMap (λ i=>(xs[i]?).bind (f i))/\Same H1 H,⟨xs.length,by simp,Nat.zero_le _,rfl,Same.refl _⟩,?_⟩
 rintro i m ys H ⟨rfl,hi,e,s⟩
 have zy:ys.length <= sizeLine:=by
  rw [e]
  refine Nat.le_trans (List.length_filterMap_le _ _) ?_
  rw [List.length_range]; exact Nat.le_trans hi (Nat.le_of_lt (a0V hz))
 have q:=s.seq hx
 by_cases hlt:i < xs.length
 ·refine .inr ⟨⟨xs,xs[i],q,by simp [hlt]⟩,zy,λ ys' H'=>ys' = (List.range (i + 1)).filterMap (λ i=>(xs[i]?).bind (f i))/\Same H1 H',λ ys' H' ⟨e',s'⟩=>⟨xs.length - (i + 1),by omega,rfl,hlt,e',s'⟩,λ x H' y=>?_⟩
  obtain ⟨pp,y0,rfl,nw,ex⟩:=y
  have ey:=ex xs q
  refine hs i y0 H pp H' (λ o H'=>match o with | some v=>(ys ++ [v] = (List.range (i + 1)).filterMap (λ i=>(xs[i]?).bind (f i))/\Same H1 H') | none=>(ys = (List.range (i + 1)).filterMap (λ i=>(xs[i]?).bind (f i))/\Same H1 H')) ey s nw λ H' s'=>?_
  cases ef:f i y0 with
  | some v =>
   refine ⟨?_,s'⟩
   rw [e,List.range_succ,List.filterMap_append]
   simp [ey,ef]
  | none =>
   refine ⟨?_,s'⟩
   rw [e,List.range_succ,List.filterMap_append]
   simp [ey,ef]
 ·have e':i = xs.length:=by omega
  subst e'
  refine .inl ⟨⟨xs,q,Nat.le_refl _⟩,zy,λ p hp=>?_⟩
  subst e
  exact hd H p _ s (New.mk0 hp)
theorem b3W {K:Φρ} {a:Addr} {xs:List V} {ix:List (Option Nat)} {g:TG} {tt:TT} {te:TE} {σ:St} {H1:Hp} {Q:VK} (f:Nat->Option V) (hx:SqL K H1 a xs) (hz:xs.length <= 1000)
  (hs:∀ (i:Nat) x H (N:Option V->Hp->Prop),xs[i]? = some x->Same H1 H->(∀ H',Same H1 H'->N (f i) H')->g x (capt ix σ) H λ σ2 H2=>tt σ2 H2 λ b H3=>if b = true then te σ2 H3 λ v H4=>N (some v) H4 else N none H3)
  (hd:∀ H p H',Same H1 H->New H p (.lst ((List.range xs.length).filterMap f)) H'->Q (.ref p) H'):a4O ix g tt te σ H1 Q (Itl K a):=by
 refine a4G (K:=K) (a:=a) (xs:=xs) (λ i ys H=>ys = (List.range i).filterMap f/\Same H1 H) ⟨rfl,Same.refl _⟩ (λ i ys H hi ⟨e,s⟩=>⟨s.seq hx,?_⟩) (λ i x ys H hi ⟨e,s⟩=>?_) λ ys H ⟨e,s⟩ p hp=>?_
 ·subst e
  refine Nat.le_trans (List.length_filterMap_le _ _) ?_
  rw [List.length_range]; exact Nat.le_trans hi (Nat.le_of_lt (a0V hz))
 ·refine hs i x H (λ o H'=>match o with | some v=>(ys ++ [v] = (List.range (i + 1)).filterMap f/\Same H1 H') | none=>(ys = (List.range (i + 1)).filterMap f/\Same H1 H')) hi s λ H' s'=>?_
  cases ef:f i with
  | some v =>
   refine ⟨?_,s'⟩
   rw [e,List.range_succ,List.filterMap_append]
   simp [ef]
  | none =>
   refine ⟨?_,s'⟩
   rw [e,List.range_succ,List.filterMap_append]
   simp [ef]
 ·subst e
  exact hd H p _ s (New.mk0 hp)
end L2
namespace Bg
open PySem L2 Lw
abbrev Row:=Option Int × List Int
def b0N (ns:List Int):Bool:=(List.range (ns.length - 1)).all λ i=>decide (ns.getD i 0 < ns.getD (i + 1) 0)
def setF (n:Int) (ns:List Int):Bool:=(ns.all λ v=>decide (0 <= v/\v < n)) && b0N ns
def a4P (n:Int):Option Int->Bool
 | none=>false
 | some i=>decide (0 <= i/\i < n)
def upOk (k:Nat) (u:Option Int):Bool:=if k = 0 then u.isNone else a4P k u
def a1L (rs:List Row) (k:Nat):Row:=rs.getD k (none,[])
def b7P (n:Int) (rs:List Row) (k:Nat):Bool:=upOk k (a1L rs k).1 && setF n (a1L rs k).2
def has (v:Int) (r:Row):Bool:=decide (v ∈ r.2)
def c5V (rs:List Row) (u:Option Int) (v:Int):Bool:=match u with
 | none=>false
 | some i=>has v (a1L rs i.toNat)
def b5T (rs:List Row) (v:Int) (k:Nat):Bool:=has v (a1L rs k) && !c5V rs (a1L rs k).1 v
def b2Q (rs:List Row) (v:Int):List Nat:=(List.range rs.length).filter (b5T rs v)
inductive Flt where
 | ok | row (k:Nat) | place (v:Nat) | tie (a b:Int) | apart (v j k:Nat)
 deriving DecidableEq
def upV:Option Int->V
 | none=>.non
 | some i=>.int i
def RowV (K:Φρ) (H:Hp) (v:V) (r:Row):Prop:=∃ p b,v = .ref p/\SqT K H p [upV r.1,.ref b]/\SqL K H b (r.2.map V.int)/\r.2.length <= 1000
def b7Q (K:Φρ) (H:Hp) (a:Addr) (rs:List Row):Prop:=∃ xs,SqL K H a xs/\Paired (RowV K H) xs rs/\rs.length <= 1000
def TieV (K:Φρ) (H:Hp) (v:V) (t:Int × Int):Prop:=∃ p,v = .ref p/\SqT K H p [.int t.1,.int t.2]
def TiesAt (K:Φρ) (H:Hp) (a:Addr) (ts:List ζζ):Prop:=∃ xs,SqL K H a xs/\Paired (TieV K H) xs ts/\ts.length <= 1000
def GraphV (K:Φρ) (H:Hp) (v:V) (n:Int) (ts:List ζζ):Prop:=∃ p a,v = .ref p/\SqT K H p [.int n,.ref a]/\TiesAt K H a ts
theorem TiesAt.same {K:Φρ} {H H':Hp} {a:Addr} {ts:List ζζ} (e:Same H H') (h:TiesAt K H a ts):TiesAt K H' a ts:=by
 obtain ⟨xs,h1,h2,h3⟩:=h
 exact ⟨xs,e.seq h1,Paired.mapP h2 λ _ _ ⟨p,q1,q2⟩=>⟨p,q1,e.tupq q2⟩,h3⟩
theorem GraphV.same {K:Φρ} {H H':Hp} {v:V} {n:Int} {ts:List ζζ} (e:Same H H') (h:GraphV K H v n ts):GraphV K H' v n ts:=by
 obtain ⟨p,a,h1,h2,h3⟩:=h
 exact ⟨p,a,h1,e.tupq h2,h3.same e⟩
theorem paired_get {α β:Type} {F:α->β->Prop}:∀ {xs:List α} {ys:List β} {i:Nat} {x:α},Paired F xs ys->xs[i]? = some x->∃ y,ys[i]? = some y/\F x y
 | _,_,_,_,.nil,h=>by simp at h
 | _,_,0,_,.cons h r,e=>by
  simp at e; subst e
  exact ⟨_,rfl,h⟩
 | _,_,i + 1,_,.cons h r,e=>by
  obtain ⟨d,e1,q⟩:=paired_get (i:=i) r (by simpa using e)
  exact ⟨d,by simpa using e1,q⟩
theorem a2H {α β:Type} {F:α->β->Prop}:∀ {xs:List α} {ys:List β} {i:Nat} {y:β},Paired F xs ys->ys[i]? = some y->∃ x,xs[i]? = some x/\F x y
 | _,_,_,_,.nil,h=>by simp at h
 | _,_,0,_,.cons h r,e=>by
  simp at e; subst e
  exact ⟨_,rfl,h⟩
 | _,_,i + 1,_,.cons h r,e=>by
  obtain ⟨d,e1,q⟩:=a2H (i:=i) r (by simpa using e)
  exact ⟨d,by simpa using e1,q⟩
theorem b0O {rs:List Row} {i:Nat} {r:Row} (h:rs[i]? = some r):a1L rs i = r:=by
 unfold a1L; rw [τα,h]; rfl
theorem a4Q {α β:Type} {f g:α->Option β}:∀ {l:List α},(∀ x ∈ l,f x = g x)->l.filterMap f = l.filterMap g
 | [],_=>rfl
 | x :: r,h=>by
  have ih:=a4Q (f:=f) (g:=g) (l:=r) λ y hy=>h y (List.mem_cons_of_mem _ hy)
  rw [List.filterMap_cons,List.filterMap_cons,h x List.mem_cons_self,ih]
theorem b7R (ns:List Int) (v:Int):(ns.map PyData.int).any (λ e=>PyData.eqv e (.int v)) = decide (v ∈ ns):=by
 induction ns with
 | nil=>rfl
 | cons a r ih =>
  rw [List.map_cons,List.any_cons,ih,PyData.eqv]
  by_cases h:a = v
  ·subst h; simp
  ·have h':¬ v = a:=λ z=>h z.symm
   simp [h,h']
theorem b5U (ns:List Int):PyData.depthAll (ns.map PyData.int) = 0:=by
 induction ns with
 | nil=>rfl
 | cons a r ih=>rw [List.map_cons,PyData.depthAll,ih]; rfl
theorem c1X (ns:List Int):PyData.canLayAll0 (ns.map PyData.int) = true:=by
 induction ns with
 | nil=>rfl
 | cons a r ih=>rw [List.map_cons,PyData.canLayAll0,ih]; rfl
theorem a3F (ns:List Int):SeqAt.shaped (.list (ns.map PyData.int)) = true:=by
 unfold SeqAt.shaped
 rw [PyData.canLay0,c1X,PyData.depth,b5U]
 decide
theorem c1Y (ns ms:List Int):PyData.eqv (.list (ns.map PyData.int)) (.list (ms.map PyData.int)) = decide (ns = ms):=by
 rw [PyData.eqv]
 exact PySem.W.ked_eqvAll ns ms
theorem b0P {K:Φρ} {H:Hp} {b:Addr} {ns:List Int} {v:Int} {Q:VK} (hS:SqL K H b (ns.map V.int)) (q:Q (.bl (decide (v ∈ ns))) H):rInD K false (.int v) (.ref b) H Q :=
 ⟨_,_,.int v,.lst hS (IsDs.ints ns),rfl,a3F ns,by rw [b7R]; exact q⟩
theorem b0Q {K:Φρ} {H:Hp} {b:Addr} {ns:List Int} {v:Int} {Q:VK} (hS:SqL K H b (ns.map V.int)) (q:Q (.bl (!decide (v ∈ ns))) H):rInD K true (.int v) (.ref b) H Q :=
 ⟨_,_,.int v,.lst hS (IsDs.ints ns),rfl,a3F ns,by rw [b7R]; exact q⟩
end Bg
namespace L2
open PySem PySem.Spec PyProof.Rows
def d1H:V->V->V->Hp->(Hp->Prop)->Prop:=λ o i v H Q=>∃ p xs k j,o = .ref p/\i = .int k/\H p = some (.lst xs)/\ixN xs.length k = some j/\∀ H',Chg H p (.lst (xs.set j v)) H'->Q H'
theorem a4R {X:Cx}:PSet X d1H:=λ pins s σ H o i v ov iv u Q I ro ri rv ⟨p,xs,k,j,e1,e2,h1,h2,q⟩=>c1S pins s σ H o i v ov iv u Q I ro ri rv ⟨p,xs,k,j,e1,e2,h1,h2,q _ Chg.mk0⟩
theorem b2R {n j:Nat} (h:j < n):ixN n (j:Int) = some j:=by
 unfold ixN
 rw [if_pos (by omega),if_pos (by omega)]; simp
theorem Same.chg {H H':Hp} {l:Addr} {o:HO} {H0:Hp} (s:Same H0 H) (h0:H0 l = none) (c:Chg H l o H'):Same H0 H':=λ b u e=>(c.rest b (a1C e h0)).trans (s b u e)
end L2
namespace Bg
open PySem L2 Lw
theorem b7S (a b:Int) (r:List Int):b0N (a :: b :: r) = (decide (a < b) && b0N (b :: r)):=by
 unfold b0N
 have e:(a :: b :: r).length - 1 = (b :: r).length - 1 + 1:=by simp
 rw [e,List.range_succ_eq_map,List.all_cons,List.all_map]
 rfl
theorem b3X:∀ ls:List Int,b0N ls = true ↔ ls.Pairwise (· < ·)
 | []=>by simp [b0N]
 | [a]=>by simp [b0N]
 | a :: b :: r=>by
  rw [b7S,Bool.and_eq_true,b3X (b :: r),decide_eq_true_iff,List.pairwise_cons (a:=a)]
  constructor
  ·rintro ⟨h1,h2⟩
   refine ⟨λ c hc=>?_,h2⟩
   rcases List.mem_cons.mp hc with rfl | hc
   ·exact h1
   ·exact Int.lt_trans h1 ((List.pairwise_cons.mp h2).1 c hc)
  ·rintro ⟨h1,h2⟩
   exact ⟨h1 b List.mem_cons_self,h2⟩
theorem b7T (n:Int) (ls:List Int):setF n ls = true ↔ (∀ v ∈ ls,0 <= v/\v < n)/\ls.Pairwise (· < ·):=by
 unfold setF
 rw [Bool.and_eq_true,b3X,List.all_eq_true]
 constructor
 ·rintro ⟨h1,h2⟩
  exact ⟨λ v hv=>of_decide_eq_true (h1 v hv),h2⟩
 ·rintro ⟨h1,h2⟩
  exact ⟨λ v hv=>decide_eq_true (h1 v hv),h2⟩
def TieL (H:Hp) (v:V) (t:Int × Int):Prop:=∃ p,v = .ref p/\H p = some (.tup [.int t.1,.int t.2])
theorem TieL.v {K:Φρ} {H:Hp} {v:V} {t:Int × Int} (h:TieL H v t):TieV K H v t:=by
 obtain ⟨p,e,q⟩:=h
 exact ⟨p,e,SqT.of q⟩
theorem TieL.same {H H':Hp} {v:V} {t:Int × Int} (s:Same H H') (h:TieL H v t):TieL H' v t:=by
 obtain ⟨p,e,q⟩:=h
 exact ⟨p,e,s _ _ q⟩
theorem TieL.chg {H H':Hp} {l:Addr} {xs ys:List V} {v:V} {t:Int × Int} (hl:H l = some (.lst xs)) (c:Chg H l (.lst ys) H') (h:TieL H v t):TieL H' v t:=by
 obtain ⟨p,e,q⟩:=h
 exact ⟨p,e,(c.rest p (c8G q hl (by intro z; cases z))).trans q⟩
theorem a0R {α β:Type} {F:α->β->Prop}:∀ {xs:List α} {ys:List β} {x:α} {y:β},Paired F xs ys->F x y->Paired F (xs ++ [x]) (ys ++ [y])
 | _,_,_,_,.nil,h=>.cons h .nil
 | _,_,_,_,.cons h r,q=>.cons h (a0R r q)
def tieD (t:Int × Int):PyData:=.tuple [.int t.1,.int t.2]
theorem TieV.isD {K:Φρ} {H:Hp} {v:V} {t:Int × Int} (h:TieV K H v t):IsD K H v (tieD t):=by
 obtain ⟨p,rfl,q1⟩:=h
 exact .tup q1 (.cons (.int _) (.cons (.int _) .nil))
theorem b7U {K:Φρ} {H:Hp} {α:Type} {F:V->α->Prop} {f:α->PyData} (hf:∀ v x,F v x->IsD K H v (f x)):∀ {xs:List V} {ys:List α},Paired F xs ys->IsDs K H xs (ys.map f)
 | _,_,.nil=>.nil
 | _,_,.cons h r=>.cons (hf _ _ h) (b7U hf r)
def b5V (ts:List ζζ):PyData:=.list (ts.map tieD)
theorem TiesAt.isD {K:Φρ} {H:Hp} {a:Addr} {ts:List ζζ} (h:TiesAt K H a ts):IsD K H (.ref a) (b5V ts):=by
 obtain ⟨xs,h1,h2,_⟩:=h
 exact .lst h1 (b7U (λ v x q=>q.isD) h2)
def webD (n:Int) (ts:List ζζ):PyData:=.tuple [.int n,b5V ts]
theorem GraphV.isD {K:Φρ} {H:Hp} {v:V} {n:Int} {ts:List ζζ} (h:GraphV K H v n ts):IsD K H v (webD n ts):=by
 obtain ⟨p,a,rfl,q1,q2⟩:=h
 exact .tup q1 (.cons (.int _) (.cons q2.isD .nil))
theorem b2S {α:Type} {f:α->PyData} (h:∀ x,(f x).canLay0 = true):∀ l:List α,PyData.canLayAll0 (l.map f) = true
 | []=>rfl
 | x :: r=>by rw [List.map_cons,PyData.canLayAll0,h x,b2S h r]; rfl
theorem a3N {α:Type} {f:α->PyData} {k:Nat} (h:∀ x,(f x).depth <= k):∀ l:List α,PyData.depthAll (l.map f) <= k
 | []=>Nat.zero_le _
 | x :: r=>by
  rw [List.map_cons,PyData.depthAll]
  exact Nat.max_le.mpr ⟨h x,a3N h r⟩
theorem c5W (t:Int × Int):(tieD t).canLay0 = true:=rfl
theorem b0R (t:Int × Int):(tieD t).depth <= 1:=by
 unfold tieD
 simp [PyData.depth,PyData.depthAll]
theorem b2T (ts:List ζζ):SeqAt.shaped (b5V ts) = true:=by
 unfold SeqAt.shaped b5V
 rw [PyData.canLay0,b2S c5W,PyData.depth,Bool.true_and]
 exact decide_eq_true (by have:=a3N b0R ts; omega)
theorem a5J (n:Int) (ts:List ζζ):SeqAt.shaped (webD n ts) = true:=by
 have h:=b2T ts
 unfold SeqAt.shaped at h ⊢
 rw [Bool.and_eq_true] at h
 have h2:(b5V ts).depth <= 2:=by
  unfold b5V
  rw [PyData.depth]
  have:=a3N b0R ts; omega
 unfold webD
 rw [PyData.canLay0,PyData.canLayAll0,PyData.canLayAll0,h.1,PyData.depth,PyData.depthAll,PyData.depthAll,PyData.depthAll,PyData.depth]
 simp only [PyData.canLay0,PyData.canLayAll0,Bool.and_true,Bool.true_and]
 refine decide_eq_true ?_
 omega
theorem c1Z {d:PyData} (h:SeqAt.shaped d = true):PyData.eqv d d = true:=SeqAt.eqv_refl d (SeqAt.canLay_of_shaped h)
end Bg
set_option maxHeartbeats 4100000
namespace L2
open PySem PySem.Spec PyProof.Rows
section
variable {X:Cx} {K:Φρ} {a b:Expr} {rest:List Expr} {pos:Pos} {ta tb:TE}
def tOrL (K:Φρ) (ta tb:TE):TE:=λ σ H Q=>ta σ H λ x H1=>∃ k,TruV K x H1 k/\if k = true then Q x H1 else tb σ H1 Q
theorem c9D (e:X.K = K) (ha:PE X a ta) (hb:PE X (.BoolOp .Or (b :: rest) pos) tb):PE X (.BoolOp .Or (a :: b :: rest) pos) (tOrL K ta tb):=by
 subst e
 intro pins s σ H Q I h
 refine BoolOp_or (thn (ha pins s σ H _ I h) λ v s1 ⟨x,H1,I1,r1,q1⟩=>?_)
 obtain ⟨k,tk,q1⟩:=q1
 refine thn (b6Z pins s1 σ H1 x v (λ c H2=>c = k/\H2 = H1) I1 r1 ⟨k,tk,rfl,rfl⟩) λ c s2 ⟨H2,I2,q2⟩=>?_
 obtain ⟨rfl,rfl⟩:=q2
 cases c with
 | true=>exact ⟨x,H2,I2,r1,q1⟩
 | false=>exact hb pins s2 σ H2 Q I2 q1
def c9E (K:Φρ):List V->Hp->VK->Prop:=λ xs H Q=>∃ p ys,xs = [.ref p]/\SqL K H p ys/\Q (.bl (!ys.isEmpty)) H
theorem a7N (x:Value):Meets (Builtin.«bool.__new__» ⟨[.type "bool", x],[]⟩) (λ _ R s=>∃ (c:Bool) (tk:Nat),(∀ (prog:Program) (w:World) (A':Around) (E':Value->Shared->Prop) (Q':Bool->Shared->Prop),Q' c { s with toks:=tk }->wpAny (model prog w) A' (truthy x) Q' E' s)/\R (.ok (.ret (.bool c))) { s with toks:=tk }) :=
 Meets.of_wp λ prog w A R s hs=>by
  obtain ⟨c,tk,ht,hr⟩:=hs
  have f1:=F.conv_sub_bool
  obtain ⟨hp,g,d,tk0,os⟩:=s
  repeat (any_goals (first | assumption | (with_reducible refine ht _ _ _ _ _ ?_) | wp_step))
  all_goals first | exact ⟨_,rfl,hr⟩ | exact hr | skip
theorem a8B (e:X.K = K):CallR X (.type "bool") (c9E K):=by
 subst e
 intro pins s σ H xs us Q I r h
 obtain ⟨p,ys,rfl,hL,q⟩:=h
 obtain ⟨u,rfl,rx⟩:=a4B r
 cases rx
 obtain ⟨its,r',pl,hz⟩:=I.list hL
 have hlen:=r'.length
 have hl:=a7Z
 refine call_bool_1 (a7N (.ref p)) ⟨!its.toArray.isEmpty,s.toks + 1 + 1,λ prog w A' E' Q' q'=>wpAny_truthy_list pl.isList (by simp only [List.size_toArray]; omega) q',?_⟩
 refine (show wants (λ obj s₁=>s₁.TypeIs obj "bool" /\ EP X pins σ Q obj s₁) _ _ _ from ⟨rfl,.bl (!its.toArray.isEmpty),H,I.tok _,rfl,?_⟩)
 rw [a5H r']
 exact q
end
end L2
set_option maxHeartbeats 4100000
namespace L2
open PySem PySem.Spec PyProof.Rows
section
variable {K:Φρ} {a:Addr} {xs:List V} {ix:List (Option Nat)} {g:TG} {tt:TT} {te:TE} {σ:St} {H1:Hp} {Q:VK}
end
section
variable {X:Cx} {K:Φρ}
end
end L2
namespace Srt
open PySem PySem.W PyProof.Rows
def Ok (n:Nat) (key:Nat->Int) {α:Type}:KasT α->(α->Prop)->Prop
 | .ret a,Q=>Q a
 | .ask i j k,Q=>i < n/\j < n/\Ok n key (k (decide (key i < key j))) Q
section
variable {n:Nat} {key:Nat->Int} {α β:Type}
theorem Ok.mono {Q Q':α->Prop} (h:∀ a,Q a->Q' a):∀ {t:KasT α},Ok n key t Q->Ok n key t Q'
 | .ret _,x=>h _ x
 | .ask _ _ _,⟨a,b,x⟩=>⟨a,b,Ok.mono h x⟩
theorem Ok.bind {f:α->KasT β} {Q:β->Prop}:∀ {t:KasT α},Ok n key t (λ a=>Ok n key (f a) Q)->Ok n key (t.bind f) Q
 | .ret _,x=>x
 | .ask _ _ _,⟨a,b,x⟩=>⟨a,b,Ok.bind x⟩
theorem Ok.wp {cmp:Nat->Nat->(Bool->Shared->Prop)->Shared->Prop} {s:Shared} {Q:α->Prop} {R:α->Shared->Prop} (hc:∀ i j (C:Bool->Shared->Prop),i < n->j < n->C (decide (key i < key j)) s->cmp i j C s) (hq:∀ a,Q a->R a s) :
  ∀ {t:KasT α},Ok n key t Q->t.kasWp cmp R s
 | .ret _,x=>hq _ x
 | .ask i j k,⟨a,b,x⟩=>hc i j _ a b (Ok.wp hc hq x)
structure Pm (n:Nat) (p:Array Nat):Prop where
 perm:p.Perm (List.range n).toArray
theorem Pm.size {p:Array Nat} (h:Pm n p):p.size = n:=by
 have:=h.perm.size_eq
 simpa using this
theorem Pm.lt {p:Array Nat} (h:Pm n p) {i:Nat} (hi:i < n):p.getD i 0 < n:=by
 have hs:=h.size
 have hi':i < p.size:=by omega
 have hm:p[i] ∈ (List.range n):=by
  have:=(Array.perm_iff_toList_perm.mp h.perm).mem_iff (a:=p[i])
  simpa using this
 have:p.getD i 0 = p[i]:=by simp [Array.getD,hi']
 rw [this]; exact List.mem_range.mp hm
theorem Pm.of {p q:Array Nat} (h:Pm n p) (e:q.Perm p):Pm n q:=⟨e.trans h.perm⟩
def KK (key:Nat->Int) (p:Array Nat) (i:Nat):Int:=key (p.getD i 0)
theorem a8C (p:Array Nat) (i:Nat):p.getD i 0 = (p[i]?).getD 0:=by simp [Array.getD_eq_getD_getElem?]
theorem b0S {p:Array Nat} {i j:Nat} (hj:j <= p.size) (k:Nat):KK key (kas_rev p i j) k = if i <= k/\k < j then KK key p (i + j - 1 - k) else KK key p k:=by
 unfold KK kas_rev
 rw [a8C,getElem?_mirror_all hj]
 split <;> rw [a8C]
theorem c4K {p:Array Nat} {k d:Nat} (hk:k < p.size) (hd:d <= k) (i:Nat):KK key (bubble p k d) i = if i = k - d then KK key p k else if k - d < i/\i <= k then KK key p (i - 1) else KK key p i:=by
 unfold KK
 rw [a8C,a8C p k,a8C p (i - 1),a8C p i,getElem?_bubble hk d hd]
 split
 ·rfl
 ·split <;> rfl
def Srtd (key:Nat->Int) (p:Array Nat) (m:Nat):Prop:=∀ i j,i <= j->j < m->KK key p i <= KK key p j
def Down (key:Nat->Int) (p:Array Nat) (m:Nat):Prop:=∀ i j,i <= j->j < m->KK key p j <= KK key p i
theorem Pm.rev {p:Array Nat} (h:Pm n p) (i j:Nat):Pm n (kas_rev p i j):=h.of (mirror_perm _ _ _ _)
theorem b7V {p:Array Nat} (hp:Pm n p):∀ (f m:Nat),1 <= m->m + f <= n->Srtd key p m->Ok n key (kas_asc p f m) (λ r=>m <= r/\r <= m + f/\Srtd key p r/\(r = m + f\/KK key p r < KK key p (r - 1)))
 | 0,m,_,_,hs=>⟨Nat.le_refl _,Nat.le_refl _,hs,.inl rfl⟩
 | f + 1,m,h1,hm,hs=>by
  refine ⟨hp.lt (by omega),hp.lt (by omega),?_⟩
  by_cases c:key (p.getD m 0) < key (p.getD (m - 1) 0)
  ·rw [decide_eq_true c]; dsimp only; rw [if_pos rfl]
   exact ⟨Nat.le_refl _,by omega,hs,.inr c⟩
  ·rw [decide_eq_false c]; dsimp only; rw [if_neg Bool.false_ne_true]
   refine Ok.mono (λ r ⟨a,b,d,e⟩=>⟨by omega,by omega,d,?_⟩) (b7V hp f (m + 1) (by omega) (by omega) ?_)
   ·intro i j hij hj
    by_cases hjm:j < m
    ·exact hs i j hij hjm
    ·have:j = m:=by omega
     subst this
     by_cases hi:i = j
     ·subst hi; exact Int.le_refl _
     ·have q:=hs i (j - 1) (by omega) (by omega)
      have c':KK key p (j - 1) <= KK key p j:=by unfold KK; omega
      omega
   ·rcases e with e | e
    ·exact .inl (by omega)
    ·exact .inr e
theorem b3Y {p:Array Nat} (hp:Pm n p) {m:Nat} (h1:1 <= m) (hm:m <= n) (hd:Down key p m):Ok n key (kas_tail3 m n p) (λ r=>Pm n r.2/\1 <= r.1/\r.1 <= n/\Srtd key r.2 r.1):=by
 refine Ok.bind (Ok.mono (λ r ⟨a,b,c,_⟩=>?_) (b7V (hp.rev 0 m) (n - m) m h1 (by omega) ?_))
 ·intro i j hij hj
  have hs:=hp.size
  rw [b0S (by omega),b0S (by omega),if_pos (by omega),if_pos (by omega)]
  exact hd _ _ (by omega) (by omega)
 ·exact ⟨hp.rev 0 m,by show 1 <= r; omega,by show r <= n; omega,c⟩
theorem a6W {p:Array Nat} {m q:Nat} (hm:m <= p.size) (he:∀ i,m - (q + 1) <= i->i < m->KK key p i = KK key p (m - 1)) (k:Nat):KK key (kas_rev p (m - (q + 1)) m) k = KK key p k:=by
 rw [b0S hm]
 by_cases c:m - (q + 1) <= k/\k < m
 ·rw [if_pos c,he k c.1 c.2,he _ (by omega) (by omega)]
 ·rw [if_neg c]
theorem a8Z:∀ (f:Nat) {p:Array Nat} (m q:Nat),Pm n p->1 <= m->m + f <= n->Down key p m->q + 1 <= m->(∀ i,m - (q + 1) <= i->i < m->KK key p i = KK key p (m - 1)) ->
  Ok n key (kas_desc f p m q) (λ r=>Pm n r.1/\1 <= r.2.1/\r.2.1 <= n/\Down key r.1 r.2.1/\r.2.2 + 1 <= r.2.1/\∀ i,r.2.1 - (r.2.2 + 1) <= i->i < r.2.1->KK key r.1 i = KK key r.1 (r.2.1 - 1))
 | 0,p,m,q,hp,h1,hm,hd,hq,he=>⟨hp,h1,by show m <= n; omega,hd,hq,he⟩
 | f + 1,p,m,q,hp,h1,hm,hd,hq,he=>by
  refine ⟨hp.lt (by omega),hp.lt (by omega),?_⟩
  have hs:=hp.size
  have one:∀ (p':Array Nat),(∀ k,KK key p' k = KK key p k)->KK key p m <= KK key p (m - 1)->Down key p' (m + 1):=λ p' hk c i j hij hj=>by
   rw [hk,hk]
   by_cases hjm:j < m
   ·exact hd i j hij hjm
   ·have:j = m:=by omega
    subst this
    by_cases hi:i = j
    ·subst hi; exact Int.le_refl _
    ·have:=hd i (j - 1) (by omega) (by omega); omega
  by_cases c:key (p.getD m 0) < key (p.getD (m - 1) 0)
  ·rw [decide_eq_true c]; dsimp only; rw [if_pos rfl]
   have c1:KK key p m <= KK key p (m - 1):=by unfold KK; omega
   by_cases hq0:q > 0
   ·rw [if_pos hq0]
    exact a8Z f (m + 1) 0 (hp.rev _ _) (by omega) (by omega) (one _ (a6W (by omega) he) c1) (by omega) λ i a b=>by congr 1; omega
   ·rw [if_neg hq0]
    exact a8Z f (m + 1) 0 hp (by omega) (by omega) (one _ (λ _=>rfl) c1) (by omega) λ i a b=>by congr 1; omega
  ·rw [decide_eq_false c]; dsimp only; rw [if_neg Bool.false_ne_true]
   refine ⟨hp.lt (by omega),hp.lt (by omega),?_⟩
   by_cases d:key (p.getD (m - 1) 0) < key (p.getD m 0)
   ·rw [decide_eq_true d]; dsimp only; rw [if_pos rfl]
    exact ⟨hp,h1,by show m <= n; omega,hd,hq,he⟩
   ·rw [decide_eq_false d]; dsimp only; rw [if_neg Bool.false_ne_true]
    have e:KK key p m = KK key p (m - 1):=by unfold KK; omega
    refine a8Z f (m + 1) (q + 1) hp (by omega) (by omega) (one _ (λ _=>rfl) (by omega)) (by omega) λ i a b=>?_
    rw [show m + 1 - 1 = m by omega]
    by_cases hi:i = m
    ·subst hi; rfl
    ·rw [e]; exact he i (by omega) (by omega)
theorem a6X {p:Array Nat} (hp:Pm n p) {m:Nat} (hm:m + 1 <= n) (hd:Down key p (m + 1)):Ok n key (kas_descPart m n p) (λ r=>Pm n r.2/\1 <= r.1/\r.1 <= n/\Srtd key r.2 r.1):=by
 refine Ok.bind (Ok.mono (λ r ⟨a,b,c,d,e,g⟩=>?_) (a8Z (n - (m + 1)) (m + 1) 0 hp (by omega) (by omega) hd (by omega) λ i x y=>by congr 1; omega))
 have hs:=a.size
 by_cases q:r.2.2 > 0
 ·rw [if_pos q]
  exact b3Y (a.rev _ _) b c λ i j x y=>by rw [a6W (by omega) g,a6W (by omega) g]; exact d i j x y
 ·rw [if_neg q]
  exact b3Y a b c d
theorem c2A {p:Array Nat} (hp:Pm n p) (h1:1 <= n):Ok n key (kas_count n p) (λ r=>Pm n r.2/\1 <= r.1/\r.1 <= n/\Srtd key r.2 r.1):=by
 refine Ok.bind (Ok.mono (λ m ⟨a,b,c,d⟩=>?_) (b7V hp (n - 1) 1 (Nat.le_refl _) (by omega) λ i j x y=>by have:i = j:=(by omega); subst this; exact Int.le_refl _))
 by_cases e:m = n
 ·rw [if_pos (by simpa using e)]
  exact ⟨hp,a,by omega,c⟩
 ·rw [if_neg (by simpa using e)]
  have lt:KK key p m < KK key p (m - 1):=by
   rcases d with d | d
   ·omega
   ·exact d
  have hs:=hp.size
  by_cases g:m > 1
  ·rw [if_pos g]
   refine ⟨hp.lt (by omega),hp.lt (by omega),?_⟩
   by_cases z:key (p.getD 0 0) < key (p.getD (m - 1) 0)
   ·rw [decide_eq_true z]; dsimp only; rw [if_pos rfl]
    exact ⟨hp,a,by show m <= n; omega,c⟩
   ·rw [decide_eq_false z]; dsimp only; rw [if_neg Bool.false_ne_true]
    refine a6X (hp.rev _ _) (by omega) ?_
    have z':KK key p (m - 1) <= KK key p 0:=by unfold KK; omega
    have all:∀ i,i < m->KK key p i = KK key p 0:=λ i hi=>by
     have q1:=c 0 i (by omega) hi
     have q2:=c i (m - 1) (by omega) (by omega)
     omega
    intro i j hij hj
    rw [b0S (by omega),b0S (by omega)]
    by_cases hjm:j < m
    ·rw [if_pos (by omega),if_pos (by omega)]
     have u1:=all (0 + m - 1 - j) (by omega)
     have u2:=all (0 + m - 1 - i) (by omega)
     omega
    ·have:j = m:=by omega
     subst this
     rw [if_neg (by omega)]
     by_cases hi:i < j
     ·rw [if_pos (by omega)]
      have u1:=all (j - 1) (by omega)
      have u2:=all (0 + j - 1 - i) (by omega)
      omega
     ·rw [if_neg (by omega)]
      have:i = j:=by omega
      subst this; exact Int.le_refl _
  ·rw [if_neg g]
   have m1:m = 1:=by omega
   subst m1
   refine a6X hp (by omega) λ i j hij hj=>?_
   by_cases hi:i = j
   ·subst hi; exact Int.le_refl _
   ·have i0:i = 0:=by omega
    have j1:j = 1:=by omega
    subst i0; subst j1
    exact Int.le_of_lt lt
theorem a9A {p:Array Nat} (hp:Pm n p) {k:Nat} (hk:k < n) (hs:Srtd key p k):∀ (f l r:Nat),l <= r->r <= k->r - l <= f->(∀ i,i < l->KK key p i <= KK key p k)->(∀ i,r <= i->i < k->KK key p k < KK key p i) ->
  Ok n key (kas_place p k f l r) (λ l=>l <= k/\(∀ i,i < l->KK key p i <= KK key p k)/\∀ i,l <= i->i < k->KK key p k < KK key p i)
 | 0,l,r,h1,h2,h3,lo,hi=>⟨by omega,lo,λ i a b=>hi i (by omega) b⟩
 | f + 1,l,r,h1,h2,h3,lo,hi=>by
  unfold kas_place
  by_cases c:l ≥ r
  ·rw [if_pos c]
   exact ⟨by omega,lo,λ i a b=>hi i (by omega) b⟩
  ·rw [if_neg c]
   refine ⟨hp.lt hk,hp.lt (by omega),?_⟩
   by_cases d:key (p.getD k 0) < key (p.getD ((l + r) / 2) 0)
   ·rw [decide_eq_true d]; dsimp only; rw [if_pos rfl]
    refine a9A hp hk hs f l ((l + r) / 2) (by omega) (by omega) (by omega) lo λ i a b=>?_
    have:=hs ((l + r) / 2) i a b
    have d':KK key p k < KK key p ((l + r) / 2):=d
    omega
   ·rw [decide_eq_false d]; dsimp only; rw [if_neg Bool.false_ne_true]
    refine a9A hp hk hs f ((l + r) / 2 + 1) r (by omega) h2 (by omega) (λ i a=>?_) hi
    have:=hs i ((l + r) / 2) (by omega) (by omega)
    have d':KK key p ((l + r) / 2) <= KK key p k:=by unfold KK; omega
    omega
theorem c4L:∀ (f:Nat) {p:Array Nat} (k:Nat),Pm n p->k + f = n->Srtd key p k->Ok n key (kas_bin f p k) (λ p=>Pm n p/\Srtd key p n)
 | 0,p,k,hp,hk,hs=>⟨hp,by have:k = n:=(by omega); rw [<- this]; exact hs⟩
 | f + 1,p,k,hp,hk,hs=>by
  refine Ok.bind (Ok.mono (λ l ⟨a,lo,hi⟩=>?_) (a9A hp (by omega) hs k 0 k (by omega) (Nat.le_refl _) (by omega) (λ i h=>by omega) λ i h1 h2=>by omega))
  have hz:=hp.size
  refine c4L f (k + 1) (hp.of (bubble_perm _ _ _)) (by omega) λ i j hij hj=>?_
  rw [c4K (by omega) (by omega),c4K (by omega) (by omega)]
  rw [show k - (k - l) = l by omega]
  by_cases i1:i = l
  ·rw [if_pos i1]
   by_cases j1:j = l
   ·rw [if_pos j1]; exact Int.le_refl _
   ·rw [if_neg j1,if_pos (by omega)]
    exact Int.le_of_lt (hi (j - 1) (by omega) (by omega))
  ·rw [if_neg i1]
   by_cases i2:l < i/\i <= k
   ·rw [if_pos i2,if_neg (by omega),if_pos (by omega)]
    exact hs (i - 1) (j - 1) (by omega) (by omega)
   ·rw [if_neg i2]
    by_cases j1:j = l
    ·rw [if_pos j1]; exact lo i (by omega)
    ·rw [if_neg j1]
     by_cases j2:l < j/\j <= k
     ·rw [if_pos j2]; exact hs i (j - 1) (by omega) (by omega)
     ·rw [if_neg j2]; exact hs i j hij (by omega)
theorem c5X (h1:1 <= n):Ok n key (kas_sort n) (λ p=>Pm n p/\Srtd key p n):=by
 refine Ok.bind (Ok.mono (λ r ⟨a,b,c,d⟩=>?_) (c2A ⟨Array.Perm.refl _⟩ h1))
 by_cases e:r.1 < n
 ·rw [if_pos e]
  refine c4L _ _ a (by omega) ?_
  rw [show max r.1 1 = r.1 by omega]
  exact d
 ·rw [if_neg e]
  exact ⟨a,by have:r.1 = n:=(by omega); rw [<- this]; exact d⟩
end
end Srt
set_option maxHeartbeats 4100000
namespace Srt
open PySem PyProof.Rows PySem.Calls PySem.W
section
variable {prog:Program} {wo:World} {A:Around} {E:Value->Shared->Prop} {s:Shared}
def Asks (prog:Program) (wo:World) (A:Around) (κ:SortKind) (zs:List Value) (key:Nat->Int) (s:Shared):Prop :=
 (∀ (E:Value->Shared->Prop) (R:SortKind->Shared->Prop),R κ s->wpAny (model prog wo) A (keyKind' zs.toArray) R E s) /\
 ∀ (i j:Nat) (C:Bool->Shared->Prop),i < zs.length->j < zs.length->C (decide (key i < key j)) s->kas_ask prog wo A κ zs i j C s
abbrev b5W (zs:List Value) (p:Array Nat):Array Value:=List.toArray (p.toList.map λ i=>zs.getD i Value.none)
theorem c9F (zs:List Value):b5W zs (List.range zs.length).toArray = zs.toArray:=by
 unfold b5W
 congr 1
 apply List.ext_getElem?
 intro i
 by_cases h:i < zs.length
 ·simp [h]
 ·simp [h]
theorem b0T {a:Addr} {zs:List Value} {n:Nat} {κ:SortKind} {key:Nat->Int} {P:PySem.Fin->Shared->Prop} (oa:s.heap.get? a = some (seqObj "list" zs.toArray n)) (h64:zs.length < 64)
  (hk:2 <= zs.length->∀ h',(∀ b o,b ≠ a->s.heap.get? b = some o->h'.get? b = some o)->Asks prog wo A κ zs key { s with heap:=h' })
  (h:∀ p,Pm zs.length p->Srtd key p zs.length->P (.done (.ret .none)) { s with heap:=sortedHeap s.heap a zs (b5W zs p) }) :
  wpAny (model prog wo) A (Builtin.«list.sort» ⟨[.ref a],[]⟩) P E s:=by
 rw [list_sort_plain]
 have la:a < s.heap.objs.size:=Heap.lt_size oa
 refine wpAny_bind (listItems_at oa rfl ?_)
 refine wpAny_bind (listUpdate_at oa rfl ?_ (by rw [List.size_toArray,sizeLine_eq]; omega) (Nat.zero_le _))
 obtain ⟨ep,oa1⟩:∃ ep,(s.heap.update a (Obj.mapSeq λ _=>#[])).get? a = some (seqObj "list" #[] ep):=⟨_,get?_update_seq oa (λ _=>#[])⟩
 refine wpAny_bind (seqEpoch_at oa1 rfl ?_)
 refine wpAny_bind (wpAny_newTuple ?_ (by show zs.length <= _; rw [sizeLine_eq]; omega))
 refine wpAny_bind (wpAny_newList (wpAny_holding ?_) (Nat.zero_le _))
 have oa6:(((s.heap.update a (Obj.mapSeq λ _=>#[])).push (seqObj "tuple" zs.toArray 0)).push (seqObj "list" #[] 0)).get? a = some (seqObj "list" #[] ep):=by
  rw [Heap.get?_push_ne _ _ _ (by rw [size_push',Heap.size_update]; exact Nat.ne_of_lt (Nat.lt_succ_of_lt la)),Heap.get?_push_ne _ _ _ (by rw [Heap.size_update]; exact Nat.ne_of_lt la)]
  exact oa1
 show wpAny (model prog wo) A _ P E { s with heap:=((s.heap.update a (Obj.mapSeq λ _=>#[])).push (seqObj "tuple" zs.toArray 0)).push (seqObj "list" #[] 0) }
 dsimp only
 have lz:zs.toArray.size = zs.length:=by simp
 by_cases g2:zs.toArray.size < 2
 ·rw [if_pos g2,if_pos g2]
  refine wpAny_bind (wpAny_pure ?_); rw [StateT.run_pure]; refine wpAny_bind (wpAny_pure ?_); dsimp only
  refine wpAny_bind (seqEpoch_at oa6 rfl ?_)
  refine wpAny_bind (listUpdate_at oa6 rfl ?_ (Nat.zero_le _) (by rw [Array.size_map]; show (pairsOf zs).size <= _; rw [pairsOf_size,sizeLine_eq]; omega))
  simp only [if_false,Bool.false_eq_true,bne_self_eq_false]
  have q:=h (List.range zs.length).toArray ⟨Array.Perm.refl _⟩ (λ i j hij hj=>by have:i = j:=(by omega); subst this; exact Int.le_refl _)
  rw [c9F] at q
  refine wpAny_pure ?_
  have e:(arrOf (SortSt.mk' general' (zs.toArray.zip zs.toArray) #[] 7 none)).map (·.2) = zs.toArray:=by
   show (zs.toArray.zip zs.toArray).map (·.2) = zs.toArray
   rw [Array.map_snd_zip]
   exact Nat.le_refl _
  rw [e]
  exact q
 ·rw [if_neg g2,if_neg g2]
  have h2':2 <= zs.length:=by omega
  obtain ⟨ak,ac⟩:=hk h2' (((s.heap.update a (Obj.mapSeq λ _=>#[])).push (seqObj "tuple" zs.toArray 0)).push (seqObj "list" #[] 0)) λ b o hb e=>Heap.get?_push_of_some _ (Heap.get?_push_of_some _ (by rw [Heap.get?_update_ne _ _ _ _ hb]; exact e))
  refine wpAny_bind (ak _ _ ?_)
  have ask:(kas_sort zs.length).kasWp (kas_ask prog wo A κ zs) (λ p s'=>s' = { s with heap:=((s.heap.update a (Obj.mapSeq λ _=>#[])).push (seqObj "tuple" zs.toArray 0)).push (seqObj "list" #[] 0) }/\Pm zs.length p/\Srtd key p zs.length)
    { s with heap:=((s.heap.update a (Obj.mapSeq λ _=>#[])).push (seqObj "tuple" zs.toArray 0)).push (seqObj "list" #[] 0) } :=
   Ok.wp (n:=zs.length) (key:=key) ac (λ p hp=>⟨rfl,hp⟩) (c5X (by omega))
  rw [kas_ask_eq] at ask
  have est:SortSt.mk' κ (zs.toArray.zip zs.toArray) #[] 7 none = kas_st κ (pairsOf zs) (List.toArray (List.range zs.length)):=by
   have e:=kas_range (pairsOf zs)
   rw [pairsOf_size] at e
   show SortSt.mk' κ (pairsOf zs) #[] 7 none = SortSt.mk' κ ((List.toArray (List.range zs.length)).map (kas_item (pairsOf zs))) #[] 7 none
   rw [e]
  have rn:=kas_runs (E:=E) (Q:=λ _ st' s'=>∃ p:Array Nat,p.size = zs.length/\arrOf st' = p.map (kas_item (pairsOf zs))/\failedOf st' = none/\(s' = { s with heap:=((s.heap.update a (Obj.mapSeq λ _=>#[])).push (seqObj "tuple" zs.toArray 0)).push (seqObj "list" #[] 0) }/\Pm zs.length p/\Srtd key p zs.length))
   h2' h64 (λ p' st' s' a1 a2 a3 a4=>⟨p',a1,a2,a3,a4⟩) ask
  rw [<- est] at rn
  refine wpAny_bind (wpAny_mono rn ?_ λ _ _ e=>e)
  rintro ⟨⟨⟩,st'⟩ s' ⟨p,hp,ra,hf,rfl,pm,sr⟩
  dsimp only
  have hout:(arrOf st').map (·.2) = b5W zs p:=by
   apply Array.toList_inj.mp
   rw [ra,Array.map_map,Array.toList_map]
   exact List.map_congr_left λ i _=>by show (kas_item (pairsOf zs) i).2 = _; rw [kas_item_eq]
  have hso:(b5W zs p).size = zs.length:=by rw [List.size_toArray,List.length_map,Array.length_toList,hp]
  rw [hout]
  refine wpAny_bind (seqEpoch_at oa6 rfl ?_)
  refine wpAny_bind (listUpdate_at oa6 rfl ?_ (Nat.zero_le _) (Nat.le_trans (Nat.le_of_eq hso) (by rw [sizeLine_eq]; omega)))
  rw [hf]
  simp only [if_false,Bool.false_eq_true,bne_self_eq_false]
  exact wpAny_pure (h p pm sr)
end
end Srt
set_option maxHeartbeats 4100000
namespace Srt
open PySem PyProof.Rows PySem.Calls PySem.W
theorem b0U {α:Type} {p q:α->Bool} (h:∀ x,p x = true->q x = true) (l:List α):l.countP p <= l.countP q:=by
 induction l with
 | nil=>exact Nat.le_refl _
 | cons a r ih =>
  rw [List.countP_cons,List.countP_cons]
  by_cases c:p a = true
  ·rw [if_pos c,if_pos (h a c)]; omega
  ·rw [if_neg c]; omega
theorem b0V {α:Type} {p q:α->Bool} (h:∀ x,p x = true->q x = true) {x:α}:∀ {l:List α},x ∈ l->p x = false->q x = true->l.countP p < l.countP q
 | a :: r,hx,h1,h2=>by
  rw [List.countP_cons,List.countP_cons]
  have le:=b0U h r
  rcases List.mem_cons.mp hx with rfl | hx
  ·rw [if_neg (by rw [h1]; exact Bool.false_ne_true),if_pos h2]; omega
  ·have ih:=b0V h hx h1 h2
   by_cases c:p a = true
   ·rw [if_pos c,if_pos (h a c)]; omega
   ·rw [if_neg c]; omega
def rank (ls:List (List Int)) (i:Nat):Int:=(ls.countP λ z=>decide (z < ls.getD i []):Nat)
theorem d1I {x y z:List Int} (h:z < y) (h2:¬ x < y):z < x:=by
 by_cases c:z < x
 ·exact c
 ·exact absurd (List.lt_of_le_of_lt (List.not_lt.mp c) h) h2
theorem b7W {ls:List (List Int)} {i j:Nat} (hi:i < ls.length):decide (rank ls i < rank ls j) = decide (ls.getD i [] < ls.getD j []):=by
 have hm:ls.getD i [] ∈ ls:=by
  rw [τα,List.getElem?_eq_getElem hi]; exact List.getElem_mem hi
 unfold rank
 by_cases c:ls.getD i [] < ls.getD j []
 ·rw [decide_eq_true c]
  refine decide_eq_true (Int.ofNat_lt.mpr (b0V (λ z hz=>?_) hm ?_ ?_))
  ·exact decide_eq_true (List.lt_trans (of_decide_eq_true hz) c)
  ·exact decide_eq_false (List.lt_irrefl _)
  ·exact decide_eq_true c
 ·rw [decide_eq_false c]
  refine decide_eq_false λ z=>?_
  have:=b0U (p:=λ z=>decide (z < ls.getD j [])) (q:=λ z=>decide (z < ls.getD i [])) (λ z hz=>decide_eq_true (d1I (of_decide_eq_true hz) c)) ls
  omega
section
variable {prog:Program} {w:World} {A:Around} {E:Value->Shared->Prop} {s:Shared} {Q:Bool->Shared->Prop}
theorem b3Z:∀ {xs ys:List Value} {ns ms:List Int} (i:Nat),IntsAre xs ns->IntsAre ys ms->Q (decide (ns < ms)) s->KatLex prog w A true (decide (xs.length < ys.length)) Q (xs.zip ys) i s
 | _,_,_,_,i,.nil,.nil,h=>by
  refine kat_nil ?_
  exact h
 | _,_,_,_,i,.nil,.cons (vs:=ys) (ns:=ms) m u y,h=>by
  refine kat_nil ?_
  have e:decide (([]:List Int) < m :: ms) = true:=decide_eq_true (List.Lex.nil)
  rw [e] at h
  have e2:decide (([]:List Value).length < (Value.int m u :: ys).length) = true:=by simp
  rw [e2]; exact h
 | _,_,_,_,i,.cons (vs:=xs) (ns:=ns) n t x,.nil,h=>by
  refine kat_nil ?_
  have e:decide (n :: ns < ([]:List Int)) = false:=decide_eq_false (List.not_lt_nil _)
  rw [e] at h
  have e2:decide ((Value.int n t :: xs).length < ([]:List Value).length) = false:=by simp
  rw [e2]; exact h
 | _,_,_,_,i,.cons (vs:=xs) (ns:=ns) n t x,.cons (vs:=ys) (ns:=ms) m u y,h=>by
  have ef:decide ((Value.int n t :: xs).length < (Value.int m u :: ys).length) = decide (xs.length < ys.length):=by
   simp only [List.length_cons,Nat.add_lt_add_iff_right]
  rw [ef]
  refine kat_cons (wpAny_eqBool_int ?_)
  by_cases c:n = m
  ·subst c
   rw [beq_self_eq_true]
   refine kat_yes (b3Z (i + 1) x y ?_)
   have e:decide (n :: ns < n :: ms) = decide (ns < ms):=by
    have:(n :: ns < n :: ms) ↔ ns < ms:=by rw [List.cons_lt_cons_iff]; simp
    simp only [this]
   rw [e] at h; exact h
  ·rw [beq_eq_false_iff_ne.mpr c]
   refine kat_no ?_
   have e:decide (n :: ns < m :: ms) = decide (n < m):=by
    have:(n :: ns < m :: ms) ↔ n < m:=by rw [List.cons_lt_cons_iff]; simp [c]
    simp only [this]
   rw [e] at h
   cases z:(true && i == 0) with
   | true=>exact oneLt_int h
   | false=>exact kat_one _ _ (lt_int h)
structure TupI (h:Heap) (v:Value) (ns:List Int):Prop where
 at':∃ a o xs n,v = .ref a/\h.get? a = some o/\o.cls = .type "tuple" /\ o.data = .seq xs n/\IntsAre xs.toList ns
 ne:ns ≠ []
inductive TupsI (h:Heap):List Value->List (List Int)->Prop
 | nil:TupsI h [] []
 | cons {v ns vs ls}:TupI h v ns->TupsI h vs ls->TupsI h (v :: vs) (ns :: ls)
theorem TupsI.keep {h h':Heap} (k:∀ b o,h.get? b = some o->h'.get? b = some o):∀ {vs ls},TupsI h vs ls->TupsI h' vs ls
 | _,_,.nil=>.nil
 | _,_,.cons ⟨⟨a,o,xs,n,e,ho,r⟩,ne⟩ t=>.cons ⟨⟨a,o,xs,n,e,k _ _ ho,r⟩,ne⟩ (TupsI.keep k t)
theorem TupsI.len {h:Heap}:∀ {vs ls},TupsI h vs ls->vs.length = ls.length
 | _,_,.nil=>rfl
 | _,_,.cons _ t=>by rw [List.length_cons,List.length_cons,t.len]
theorem TupsI.get {h:Heap}:∀ {vs ls},TupsI h vs ls->∀ {i},i < vs.length->TupI h (vs.getD i .none) (ls.getD i [])
 | _,_,.cons a t,0,_=>a
 | _,_,.cons a t,i + 1,hi=>by
  have:=t.get (i:=i) (by simpa using hi)
  simpa using this
theorem TupsI.kat {h:Heap}:∀ {vs ls},TupsI h vs ls->∃ fs,KatTups h vs fs/\fs.length = vs.length/\∀ v ∈ fs,∃ n t,v = Value.int n t
 | _,_,.nil=>⟨[],KatTups.nil,rfl,λ v hv=>absurd hv List.not_mem_nil⟩
 | _,_,.cons (ns:=ns) ⟨⟨a,o,xs,n,e,ho,hc,hd,hi⟩,ne⟩ t=>by
  obtain ⟨fs,k,l,q⟩:=t.kat
  subst e
  obtain ⟨xl⟩:=xs
  have hi:IntsAre xl ns:=hi
  cases hi with
  | nil=>exact absurd rfl ne
  | cons m u r =>
   refine ⟨.int m u :: fs,KatTups.cons ho hc hd rfl k,by rw [List.length_cons,List.length_cons,l],λ v hv=>?_⟩
   rcases List.mem_cons.mp hv with rfl | hv
   ·exact ⟨m,u,rfl⟩
   ·exact q v hv
theorem b7X {vs:List Value} {ls:List (List Int)} (h:TupsI s.heap vs ls) (h2:2 <= vs.length):Asks prog w A (tuples' true) vs (rank ls) s:=by
 refine ⟨λ E Q q=>?_,λ i j C hi hj q=>?_⟩
 ·obtain ⟨fs,k,l,ty⟩:=h.kat
  refine kat_kind (T:=.type "int") k (by omega) (λ v hv=>?_) rfl q
  obtain ⟨n,t,rfl⟩:=ty v hv
  exact Looks.of_pure rfl
 ·obtain ⟨⟨a,o,xs,n,e1,ho,hc,hd,hx⟩,_⟩:=h.get hi
  obtain ⟨⟨a',o',ys,n',e2,ho',hc',hd',hy⟩,_⟩:=h.get hj
  unfold kas_ask
  rw [e1,e2]
  refine kat_lt ho hd ho' hd' ?_
  rw [b7W (by rw [<- h.len]; exact hi)] at q
  exact b3Z 0 hx hy q
end
end Srt
set_option maxHeartbeats 4100000
namespace L2
open PySem PySem.Spec PyProof.Rows Bg Srt
def TupV (K:Φρ) (H:Hp) (v:V) (ns:List Int):Prop:=∃ p,v = .ref p/\SqT K H p (ns.map V.int)
theorem a3O:∀ {ns:List Int} {us:List Value},Vals (ns.map V.int) us->IntsAre us ns
 | [],_,.nil=>.nil
 | n :: ns,_,.cons r t=>by
  obtain ⟨k,rfl⟩:=r
  exact .cons n k (a3O t)
section
variable {X:Cx} {K:Φρ}
theorem b7Y {pins:List (Addr × Obj)} {σ:St} {H:Hp} {s:Shared} (I:Inv X pins σ H s):∀ {vs:List V} {us:List Value} {ls:List (List Int)},Vals vs us->Paired (TupV X.K H) vs ls->(∀ ns ∈ ls,ns ≠ [])->TupsI s.heap us ls
 | _,_,_,.nil,p,_=>by
  cases p
  exact .nil
 | _,_,_,.cons r t,p,ne=>by
  cases p with
  | cons a b =>
   obtain ⟨pt,rfl,hT⟩:=a
   obtain ⟨its,ri,⟨o,ho,hc,n,hd⟩,_⟩:=I.tuple hT
   cases r
   exact .cons ⟨⟨pt,o,its.toArray,n,rfl,ho,hc,hd,by simpa using a3O ri⟩,ne _ List.mem_cons_self⟩ (b7Y I t b λ ns h=>ne ns (List.mem_cons_of_mem _ h))
theorem b0W:∀ {vs:List V} {us:List Value},Vals vs us->∀ i,i < vs.length->RelV (vs.getD i .non) (us.getD i .none)
 | _,_,.cons r t,0,_=>r
 | _,_,.cons r t,i + 1,hi=>by
  have:=b0W t i (by simpa using hi)
  simpa using this
theorem b4A {vs:List V} {us:List Value} (r:Vals vs us):∀ (q:List Nat),(∀ i ∈ q,i < vs.length)->Vals (q.map λ i=>vs.getD i .non) (q.map λ i=>us.getD i .none)
 | [],_=>.nil
 | i :: q,h=>.cons (b0W r i (h i List.mem_cons_self)) (b4A r q λ j hj=>h j (List.mem_cons_of_mem _ hj))
end
end L2
set_option maxHeartbeats 4100000
namespace Srt
open PySem PySem.W PySem.Calls PySem.Spec PyProof.Rows PySem.MeetsSeq
end Srt
namespace L2
open PySem PySem.Spec PyProof.Rows Srt
section
variable {X:Cx} {K:Φρ}
end
end L2
set_option maxHeartbeats 4100000
namespace L2
open PySem PySem.Spec PyProof.Rows
section
variable {X:Cx} {K:Φρ}
def d1J (K:Φρ):List V->Hp->VK->Prop:=λ xs H Q=>∃ p ns,xs = [.ref p]/\SqL K H p (List.map V.int ns)/\0 < ns.length/\∀ M,M ∈ ns->(∀ a ∈ ns,a <= M)->Q (.int M) H
theorem b7Z (e:X.K = K) (cm:X.calm = true):CallR X (.builtin "max") (d1J K):=by
 subst e
 intro pins s σ H xs us Q I r h
 obtain ⟨p,ns,rfl,hL,hne,q⟩:=h
 obtain ⟨u,rfl,rx⟩:=a4B r
 cases rx
 obtain ⟨its,r',pl,hz⟩:=I.list hL
 have hi:=a3O r'
 have hlen:=hi.length
 obtain ⟨zs,ez⟩:=hi.allInts.items
 have hsz:0 < zs.size:=by
  have:=congrArg Array.size ez
  rw [List.size_toArray] at this
  have e2:(intItems zs).size = zs.size:=by simp [intItems]
  omega
 have en:zs.toList.map (·.1) = ns:=by
  rw [<- nums_intItems,<- ez]
  exact hi.numsOf
 refine max_intList (xs:=zs) (I.ok.hd cm) (by rw [<- ez]; exact pl.isList) hsz λ v h' tk hv hk=>?_
 obtain ⟨t,rfl⟩:=intItems_at hv
 obtain ⟨h1,h2⟩:=argBest_gt (numAt zs) (zs.size - 1)
 refine ⟨.int _,H,I.kept hk,⟨t,rfl⟩,q _ ?_ λ a ha=>?_⟩
 ·rw [numAt_eq,<- en]; exact getD_mem (by rw [List.length_map,Array.length_toList]; omega)
 ·rw [<- en] at ha
  obtain ⟨j,hj,rfl⟩:=mem_getD ha
  rw [List.length_map,Array.length_toList] at hj
  rw [<- numAt_eq]; exact h2 j (by omega)
end
end L2
namespace L2
open PySem PySem.Spec PyProof.Rows
section
variable {X:Cx} {K:Φρ}
end
end L2
set_option maxHeartbeats 4100000
namespace L2
open PySem PySem.Spec PyProof.Rows
theorem b8A (a b:Value):argsOk "max" ⟨[a],[("default", b)]⟩:=by unfold argsOk; kernel_rfl
section
variable {prog:Program} {w:World} {A:Around} {R:Result->Shared->Prop} {I:Addr} {fp wr:List Addr} {n:Nat} {P:Nat->Value->Prop} {St:Nat->Heap->Prop} {kw:List (Str × Value)}
theorem b8B (W:Walks prog w A.in1 I fp wr n P St) (bt:Nat->Nat->Bool) (hcmp:CmpOf prog w A.in1 .Gt P bt) (S:Addr) (hSf:S ∉ fp) :
  ∀ (k j:Nat) (s:Shared) (vb:Value) (c:Nat),n - (j + 1) = k->j + 1 <= n->St (j + 1) s.heap->P (argBest bt j) vb->s.heap.get? S = some { cls:=.type "list", dict:=none,data:=.seq #[vb,vb] c,slots:=#[] } ->
  (∀ v h' tk,P (argBest bt (n - 1)) v->(∀ b o,b ∉ wr->b ≠ S->s.heap.get? b = some o->h'.get? b = some o)->R (.ok (.ret v)) { s with heap:=h',toks:=tk }) ->
  codeAny (model prog w) A (.builtin "max.loop" ⟨[.ref I,.none,.ref S],kw⟩) R s:=by
 have hSw:S ∉ wr:=λ h=>hSf (W.sub _ h)
 have hname:(toString "max" ++ toString ".loop" : String) = "max.loop" := by decide
 intro k
 induction k with
 | zero =>
  intro j s vb c hk hj hst hPb hS hR
  have hin:j + 1 = n:=by omega
  refine codeAny_builtin PySem.F.entry_max_loop ?_
  rw [Around.under_plainId PySem.F.plain_max_loop _]
  refine wpAny_bind (wpAny_seqItems hS rfl ?_)
  show wpAny _ A.in1 (tryCatch (pyNext (.ref I)) _ >>= _) _ _ s
  refine wpAny_bind (wpAny_tryCatch (W.done s _ _ (hin ▸ hst) λ h' tk hk'=>?_))
  have hS':=hk' S _ hSw hS
  show wpAny _ A.in1 (updateSeq S (λ _=>#[]) >>= _) _ _ _
  refine wpAny_bind ?_
  refine wpAny_updateSeq hS' rfl (wpAny_bind (wpAny_letGo (wpAny_pure ?_)))
  exact hR vb _ tk (by rw [<- hin]; exact hPb) λ b o hbw hbS e=>(Heap.get?_update_other _ _ (Ne.symm hbS)).trans (hk' b o hbw e)
 | succ k ih =>
  intro j s vb c hk hj hst hPb hS hR
  have hlt:j + 1 < n:=by omega
  refine codeAny_builtin PySem.F.entry_max_loop ?_
  rw [Around.under_plainId PySem.F.plain_max_loop _]
  refine wpAny_bind (wpAny_seqItems hS rfl ?_)
  show wpAny _ A.in1 (tryCatch (pyNext (.ref I)) _ >>= _) _ _ s
  refine wpAny_bind (wpAny_tryCatch (W.item (j + 1) s _ _ hlt hst λ v h' tk hP hst' hk'=>?_))
  have hS':=hk' S _ hSw hS
  show wpAny _ A.in1 (tryCatch (holding [v,v] (richCompare .Gt v vb >>= _)) _ >>= _) _ _ _
  refine wpAny_bind (wpAny_tryCatch (wpAny_holding (wpAny_bind (hcmp (j + 1) (argBest bt j) v vb _ _ _ hP hPb ?_))))
  refine wpAny_bind (wpAny_holding (wpAny_truthy_bool ?_))
  refine wpAny_bind (wpAny_letGo (wpAny_pure ?_))
  cases hb:bt (j + 1) (argBest bt j) with
  | true =>
   simp only [if_true]
   refine wpAny_bind ?_
   refine wpAny_updateSeq hS' rfl (wpAny_bind (wpAny_letGo ?_))
   rw [hname]
   refine wpAny_pure ⟨plainId_quiet PySem.F.plain_max_loop _,ih (j + 1) _ v _ (by omega) hlt (W.frame _ _ _ hst' λ b hbf o e=>?_) (by simp only [argBest,hb,if_true]; exact hP) (Heap.get?_update_self _ hS' rfl) λ v' h'' tk'' hP' hk''=>?_⟩
   ·exact (Heap.get?_update_other _ _ (λ h:S = b=>hSf (by rw [h]; exact hbf))).trans e
   ·exact hR v' h'' tk'' hP' λ b o hbw hbS e=>hk'' b o hbw hbS ((Heap.get?_update_other _ _ (Ne.symm hbS)).trans (hk' b o hbw e))
  | false =>
   simp only [Bool.false_eq_true,if_false]
   refine wpAny_bind (wpAny_letGo ?_)
   rw [hname]
   refine wpAny_pure ⟨plainId_quiet PySem.F.plain_max_loop _,ih (j + 1) _ vb c (by omega) hlt hst' (by simp only [argBest,hb,Bool.false_eq_true,if_false]; exact hPb) hS' λ v' h'' tk'' hP' hk''=>?_⟩
   exact hR v' h'' tk'' hP' λ b o hbw hbS e=>hk'' b o hbw hbS (hk' b o hbw e)
theorem b5X (W:Walks prog w A.in1 I fp wr n P St) (bt:Nat->Nat->Bool) (hcmp:CmpOf prog w A.in1 .Gt P bt) (S:Addr) (hSf:S ∉ fp) (hn:0 < n) {s:Shared} {c:Nat} (hst:St 0 s.heap)
  (hS:s.heap.get? S = some { cls:=.type "list", dict:=none,data:=.seq #[] c,slots:=#[] })
  (hR:∀ v h' tk,P (argBest bt (n - 1)) v->(∀ b o,b ∉ wr->b ≠ S->s.heap.get? b = some o->h'.get? b = some o)->R (.ok (.ret v)) { s with heap:=h',toks:=tk }) :
  codeAny (model prog w) A (.builtin "max.loop" ⟨[.ref I,.none,.ref S],kw⟩) R s:=by
 have hSw:S ∉ wr:=λ h=>hSf (W.sub _ h)
 have hname:(toString "max" ++ toString ".loop" : String) = "max.loop" := by decide
 refine codeAny_builtin PySem.F.entry_max_loop ?_
 rw [Around.under_plainId PySem.F.plain_max_loop _]
 refine wpAny_bind (wpAny_seqItems hS rfl ?_)
 show wpAny _ A.in1 (tryCatch (pyNext (.ref I)) _ >>= _) _ _ s
 refine wpAny_bind (wpAny_tryCatch (W.item 0 s _ _ hn hst λ v h' tk hP hst' hk'=>?_))
 have hS':=hk' S _ hSw hS
 show wpAny _ A.in1 (updateSeq S (λ _=>#[v,v]) >>= _) _ _ _
 refine wpAny_bind ?_
 refine wpAny_updateSeq hS' rfl ?_
 rw [hname]
 refine wpAny_pure ⟨plainId_quiet PySem.F.plain_max_loop _,b8B W bt hcmp S hSf _ 0 _ v _ rfl hn (W.frame _ _ _ hst' λ b hbf o e=>?_) hP (Heap.get?_update_self _ hS' rfl) λ v' h'' tk'' hP' hk''=>?_⟩
 ·exact (Heap.get?_update_other _ _ (λ h:S = b=>hSf (by rw [h]; exact hbf))).trans e
 ·exact hR v' h'' tk'' hP' λ b o hbw hbS e=>hk'' b o hbw hbS ((Heap.get?_update_other _ _ (Ne.symm hbS)).trans (hk' b o hbw e))
theorem b8C (W:Walks prog w A.in1 I fp wr n P St) (n0:n = 0) (S:Addr) (hSf:S ∉ fp) {s:Shared} {c:Nat} {nm:Str} {d:Value} (hst:St 0 s.heap)
  (hS:s.heap.get? S = some { cls:=.type "list", dict:=none,data:=.seq #[] c,slots:=#[] })
  (hR:∀ h' tk,(∀ b o,b ∉ wr->b ≠ S->s.heap.get? b = some o->h'.get? b = some o)->R (.ok (.ret d)) { s with heap:=h',toks:=tk }) :
  codeAny (model prog w) A (.builtin "max.loop" ⟨[.ref I,.none,.ref S],[(nm,d)]⟩) R s:=by
 subst n0
 have hSw:S ∉ wr:=λ h=>hSf (W.sub _ h)
 refine codeAny_builtin PySem.F.entry_max_loop ?_
 rw [Around.under_plainId PySem.F.plain_max_loop _]
 refine wpAny_bind (wpAny_seqItems hS rfl ?_)
 show wpAny _ A.in1 (tryCatch (pyNext (.ref I)) _ >>= _) _ _ s
 refine wpAny_bind (wpAny_tryCatch (W.done s _ _ hst λ h' tk hk'=>?_))
 have fin:=hR h' tk λ b o hbw hbS e=>hk' b o hbw e
 repeat (first | exact fin | wp_step)
end
section
variable {prog:Program} {w:World} {A:Around} {E:Value->Shared->Prop} {s:Shared} {xs:Array (Int × Tok)} {l:Addr}
theorem b8D {d:Value} {Q:Value->Shared->Prop} (hh:A.handled = none) (hl:s.heap.IsList l (intItems xs))
  (h:∀ v h' tk,(0 < xs.size->(intItems xs)[argBest (λ i j=>decide (numAt xs i > numAt xs j)) (xs.size - 1)]? = some v)->(xs.size = 0->v = d)->(∀ b o,s.heap.get? b = some o->h'.get? b = some o)->Q v { s with heap:=h',toks:=tk }) :
  wpAny (model prog w) A (call (.builtin "max") [.ref l] [("default", d)]) Q E s:=by
 have hname:(toString "max" ++ toString ".loop" : String) = "max.loop" := by decide
 refine wpAny_call (codeAny_call_builtin PySem.F.plain_max PySem.F.entry_max ?_)
 simp only [checkBuiltinCall,PySem.F.kind_max]
 have ha:=b8A (.ref l) d
 have go:wpAny (model prog w) A.in1 (Builtin.«max» ⟨[.ref l],[("default", d)]⟩) (λ fin s'=>match fin with
   | .done f=>(match (Except.ok f:Result) with | .ok (.ret v)=>Q v s' | .ok _=>False | .error e=>E e s')
   | .again c'=>c'.quiet = true/\codeAny (model prog w) A c' (λ r s'=>match r with | .ok (.ret v)=>Q v s' | .ok _=>False | .error e=>E e s') s') E s:=by
  show wpAny _ A.in1 (Builtin.Builtins.bindParams "max" ["key", "default"] 0 ⟨[],[("default", d)]⟩ >>= _) _ _ s
  refine wpAny_bind (wpAny_of_eq (show Builtin.Builtins.bindParams "max" ["key", "default"] 0 ⟨[],[("default", d)]⟩ = pure [none,some d] from by kernel_rfl) ?_)
  refine wpAny_bind (wpAny_pure ?_)
  refine wpAny_bind (iter_intList hl λ s₂ e st hfp hlI=>?_)
  subst e
  refine wpAny_bind (wpAny_newObj_type ?_)
  have W:=Walks.list (prog:=prog) (w:=w) (A:=A.in1) hh s.heap.objs.size l hlI (intItems xs)
  have hSf:(s.heap.push { cls:=.type "list_iterator", data:=.fields #[.ref l,.int 0 0] }).objs.size ∉ [s.heap.objs.size,l]:=λ hm=>Nat.lt_irrefl _ (hfp _ hm)
  have esz:(intItems xs).size = xs.size:=by simp [intItems]
  rw [hname]
  refine wpAny_pure ⟨plainId_quiet PySem.F.plain_max_loop _,?_⟩
  have keep2:∀ {h':Heap},(∀ b o,b ∉ [s.heap.objs.size]->b ≠ (s.heap.push { cls:=.type "list_iterator", data:=.fields #[.ref l,.int 0 0] }).objs.size ->
    ((s.heap.push { cls:=.type "list_iterator", data:=.fields #[.ref l,.int 0 0] }).push { cls:=.type "list", data:=.seq #[] }).get? b = some o->h'.get? b = some o)->∀ b o,s.heap.get? b = some o->h'.get? b = some o:=λ {h'} hk =>
   old_kept (h':=h') λ b o hb e=>hk b o hb (Nat.ne_of_lt (Heap.lt_size e)) (Heap.get?_push_of_some _ e)
  by_cases hz:0 < xs.size
  ·refine b5X W _ (CmpOf.ints_gt (numAt xs) (λ _ _=>intItems_at)) _ hSf (by rw [esz]; exact hz) (W.frame _ _ _ st λ b _ o e=>Heap.get?_push_of_some _ e) (Heap.get?_push_size _ rfl) λ v h' tk hP hk=>?_
   exact h v h' tk (λ _=>by rw [esz] at hP; exact hP) (λ z=>by omega) (keep2 hk)
  ·have z0:xs.size = 0:=by omega
   refine b8C W (by rw [esz]; exact z0) _ hSf (W.frame _ _ _ st λ b _ o e=>Heap.get?_push_of_some _ e) (Heap.get?_push_size _ rfl) λ h' tk hk=>?_
   exact h d h' tk (λ c=>absurd c hz) (λ _=>rfl) (keep2 hk)
 cases hsig:Manifest.signature? "max" with
 | none=>exact wpAny_pure go
 | some sig =>
  simp only [argsOk,hsig] at ha
  have h2:Bind.checkArgs "max" sig ⟨[.ref l],[("default", d)]⟩ = pure ():=ha
  show wpAny _ A.in1 (Bind.checkArgs "max" sig ⟨[.ref l],[("default", d)]⟩) _ _ s
  rw [h2]; exact wpAny_pure go
end
section
variable {X:Cx} {K:Φρ}
def d1K (K:Φρ) (ta tk:TA):TE:=λ σ H Q=>ta σ H λ vs H1=>tk σ H1 λ ws H2=>∃ p ns d,vs = [.ref p]/\ws = [.int d]/\SqL K H2 p (List.map V.int ns)/\(ns = []->Q (.int d) H2)/\∀ M,M ∈ ns->(∀ a ∈ ns,a <= M)->Q (.int M) H2
theorem c5Y {e ed:Expr} {ta tk:TA} {p pos kpos:Pos} (eK:X.K = K) (cm:X.calm = true) (hm:X.mg "max" = none) (ha:PA X [e] ta) (hk:PK X [⟨some "default", ed,kpos⟩] tk) (hg:Gl X "max" := by rfl)
  (he:backTo pos (starEach [e] X.env) = (false,eval e X.env) :: backTo pos (starEach [] X.env):=by rfl) (hplain:(backTo pos (starEach [e] X.env)).any (·.1) = false:=by rfl) :
  PE X (.Call (.Name "max" p) [e] [⟨some "default", ed,kpos⟩] pos) (d1K K ta tk):=by
 subst eK
 intro pins s σ H Q I h
 refine wpAny_Call_Name_kw (a4C I hg hm (show bootBuiltins "max" = some (.builtin "max") by decide +kernel) ?_)
 refine PyProof.Rows.callWith_kw (id:="max") (thn (ha pos pins s σ H _ I h) λ us s1 ⟨vs,H1,I1,r,q⟩=>?_) he hplain
 refine thn (hk pos pins s1 σ H1 _ I1 q) λ ws s2 ⟨zs,H2,I2,rz,q2⟩=>?_
 obtain ⟨pl,ns,d,rfl,rfl,hL,q0,q1⟩:=q2
 obtain ⟨u,rfl,rx⟩:=a4B r
 cases rx
 obtain ⟨u2,rfl,ry⟩:=a4B rz
 obtain ⟨td',rfl⟩:=(show ∃ t,u2 = Value.int d t from ry)
 obtain ⟨its,r',pl',hz⟩:=I2.list hL
 have hi:=a3O r'
 obtain ⟨zs,ez⟩:=hi.allInts.items
 have esz:zs.size = ns.length:=by
  have:=congrArg Array.size ez
  rw [List.size_toArray] at this
  have e2:(intItems zs).size = zs.size:=by simp [intItems]
  have:=hi.length
  omega
 have en:zs.toList.map (·.1) = ns:=by
  rw [<- nums_intItems,<- ez]
  exact hi.numsOf
 refine b8D (xs:=zs) (I2.ok.hd cm) (by rw [<- ez]; exact pl'.isList) λ v h' tk hv hv0 hk=>?_
 by_cases c:0 < zs.size
 ·obtain ⟨t,rfl⟩:=intItems_at (hv c)
  obtain ⟨h1,h2⟩:=argBest_gt (numAt zs) (zs.size - 1)
  refine ⟨.int _,H2,I2.kept hk,⟨t,rfl⟩,q1 _ ?_ λ a ha=>?_⟩
  ·rw [numAt_eq,<- en]; exact getD_mem (by rw [List.length_map,Array.length_toList]; omega)
  ·rw [<- en] at ha
   obtain ⟨j,hj,rfl⟩:=mem_getD ha
   rw [List.length_map,Array.length_toList] at hj
   rw [<- numAt_eq]; exact h2 j (by omega)
 ·have z0:zs.size = 0:=by omega
  rw [hv0 z0]
  refine ⟨.int d,H2,I2.kept hk,⟨_,rfl⟩,q0 ?_⟩
  exact List.eq_nil_of_length_eq_zero (by omega)
end
end L2
set_option maxHeartbeats 4100000
namespace L2
open PySem PySem.Spec PyProof.Rows
theorem b8E (a b:Value):argsOk "min" ⟨[a],[("default", b)]⟩:=by unfold argsOk; kernel_rfl
section
variable {prog:Program} {w:World} {A:Around} {R:Result->Shared->Prop} {I:Addr} {fp wr:List Addr} {n:Nat} {P:Nat->Value->Prop} {St:Nat->Heap->Prop} {kw:List (Str × Value)}
theorem b8F (W:Walks prog w A.in1 I fp wr n P St) (bt:Nat->Nat->Bool) (hcmp:CmpOf prog w A.in1 .Lt P bt) (S:Addr) (hSf:S ∉ fp) :
  ∀ (k j:Nat) (s:Shared) (vb:Value) (c:Nat),n - (j + 1) = k->j + 1 <= n->St (j + 1) s.heap->P (argBest bt j) vb->s.heap.get? S = some { cls:=.type "list", dict:=none,data:=.seq #[vb,vb] c,slots:=#[] } ->
  (∀ v h' tk,P (argBest bt (n - 1)) v->(∀ b o,b ∉ wr->b ≠ S->s.heap.get? b = some o->h'.get? b = some o)->R (.ok (.ret v)) { s with heap:=h',toks:=tk }) ->
  codeAny (model prog w) A (.builtin "min.loop" ⟨[.ref I,.none,.ref S],kw⟩) R s:=by
 have hSw:S ∉ wr:=λ h=>hSf (W.sub _ h)
 have hname:(toString "min" ++ toString ".loop" : String) = "min.loop" := by decide
 intro k
 induction k with
 | zero =>
  intro j s vb c hk hj hst hPb hS hR
  have hin:j + 1 = n:=by omega
  refine codeAny_builtin PySem.F.entry_min_loop ?_
  rw [Around.under_plainId PySem.F.plain_min_loop _]
  refine wpAny_bind (wpAny_seqItems hS rfl ?_)
  show wpAny _ A.in1 (tryCatch (pyNext (.ref I)) _ >>= _) _ _ s
  refine wpAny_bind (wpAny_tryCatch (W.done s _ _ (hin ▸ hst) λ h' tk hk'=>?_))
  have hS':=hk' S _ hSw hS
  show wpAny _ A.in1 (updateSeq S (λ _=>#[]) >>= _) _ _ _
  refine wpAny_bind ?_
  refine wpAny_updateSeq hS' rfl (wpAny_bind (wpAny_letGo (wpAny_pure ?_)))
  exact hR vb _ tk (by rw [<- hin]; exact hPb) λ b o hbw hbS e=>(Heap.get?_update_other _ _ (Ne.symm hbS)).trans (hk' b o hbw e)
 | succ k ih =>
  intro j s vb c hk hj hst hPb hS hR
  have hlt:j + 1 < n:=by omega
  refine codeAny_builtin PySem.F.entry_min_loop ?_
  rw [Around.under_plainId PySem.F.plain_min_loop _]
  refine wpAny_bind (wpAny_seqItems hS rfl ?_)
  show wpAny _ A.in1 (tryCatch (pyNext (.ref I)) _ >>= _) _ _ s
  refine wpAny_bind (wpAny_tryCatch (W.item (j + 1) s _ _ hlt hst λ v h' tk hP hst' hk'=>?_))
  have hS':=hk' S _ hSw hS
  show wpAny _ A.in1 (tryCatch (holding [v,v] (richCompare .Lt v vb >>= _)) _ >>= _) _ _ _
  refine wpAny_bind (wpAny_tryCatch (wpAny_holding (wpAny_bind (hcmp (j + 1) (argBest bt j) v vb _ _ _ hP hPb ?_))))
  refine wpAny_bind (wpAny_holding (wpAny_truthy_bool ?_))
  refine wpAny_bind (wpAny_letGo (wpAny_pure ?_))
  cases hb:bt (j + 1) (argBest bt j) with
  | true =>
   simp only [if_true]
   refine wpAny_bind ?_
   refine wpAny_updateSeq hS' rfl (wpAny_bind (wpAny_letGo ?_))
   rw [hname]
   refine wpAny_pure ⟨plainId_quiet PySem.F.plain_min_loop _,ih (j + 1) _ v _ (by omega) hlt (W.frame _ _ _ hst' λ b hbf o e=>?_) (by simp only [argBest,hb,if_true]; exact hP) (Heap.get?_update_self _ hS' rfl) λ v' h'' tk'' hP' hk''=>?_⟩
   ·exact (Heap.get?_update_other _ _ (λ h:S = b=>hSf (by rw [h]; exact hbf))).trans e
   ·exact hR v' h'' tk'' hP' λ b o hbw hbS e=>hk'' b o hbw hbS ((Heap.get?_update_other _ _ (Ne.symm hbS)).trans (hk' b o hbw e))
  | false =>
   simp only [Bool.false_eq_true,if_false]
   refine wpAny_bind (wpAny_letGo ?_)
   rw [hname]
   refine wpAny_pure ⟨plainId_quiet PySem.F.plain_min_loop _,ih (j + 1) _ vb c (by omega) hlt hst' (by simp only [argBest,hb,Bool.false_eq_true,if_false]; exact hPb) hS' λ v' h'' tk'' hP' hk''=>?_⟩
   exact hR v' h'' tk'' hP' λ b o hbw hbS e=>hk'' b o hbw hbS (hk' b o hbw e)
theorem b5Y (W:Walks prog w A.in1 I fp wr n P St) (bt:Nat->Nat->Bool) (hcmp:CmpOf prog w A.in1 .Lt P bt) (S:Addr) (hSf:S ∉ fp) (hn:0 < n) {s:Shared} {c:Nat} (hst:St 0 s.heap)
  (hS:s.heap.get? S = some { cls:=.type "list", dict:=none,data:=.seq #[] c,slots:=#[] })
  (hR:∀ v h' tk,P (argBest bt (n - 1)) v->(∀ b o,b ∉ wr->b ≠ S->s.heap.get? b = some o->h'.get? b = some o)->R (.ok (.ret v)) { s with heap:=h',toks:=tk }) :
  codeAny (model prog w) A (.builtin "min.loop" ⟨[.ref I,.none,.ref S],kw⟩) R s:=by
 have hSw:S ∉ wr:=λ h=>hSf (W.sub _ h)
 have hname:(toString "min" ++ toString ".loop" : String) = "min.loop" := by decide
 refine codeAny_builtin PySem.F.entry_min_loop ?_
 rw [Around.under_plainId PySem.F.plain_min_loop _]
 refine wpAny_bind (wpAny_seqItems hS rfl ?_)
 show wpAny _ A.in1 (tryCatch (pyNext (.ref I)) _ >>= _) _ _ s
 refine wpAny_bind (wpAny_tryCatch (W.item 0 s _ _ hn hst λ v h' tk hP hst' hk'=>?_))
 have hS':=hk' S _ hSw hS
 show wpAny _ A.in1 (updateSeq S (λ _=>#[v,v]) >>= _) _ _ _
 refine wpAny_bind ?_
 refine wpAny_updateSeq hS' rfl ?_
 rw [hname]
 refine wpAny_pure ⟨plainId_quiet PySem.F.plain_min_loop _,b8F W bt hcmp S hSf _ 0 _ v _ rfl hn (W.frame _ _ _ hst' λ b hbf o e=>?_) hP (Heap.get?_update_self _ hS' rfl) λ v' h'' tk'' hP' hk''=>?_⟩
 ·exact (Heap.get?_update_other _ _ (λ h:S = b=>hSf (by rw [h]; exact hbf))).trans e
 ·exact hR v' h'' tk'' hP' λ b o hbw hbS e=>hk'' b o hbw hbS ((Heap.get?_update_other _ _ (Ne.symm hbS)).trans (hk' b o hbw e))
theorem b8G (W:Walks prog w A.in1 I fp wr n P St) (n0:n = 0) (S:Addr) (hSf:S ∉ fp) {s:Shared} {c:Nat} {nm:Str} {d:Value} (hst:St 0 s.heap)
  (hS:s.heap.get? S = some { cls:=.type "list", dict:=none,data:=.seq #[] c,slots:=#[] })
  (hR:∀ h' tk,(∀ b o,b ∉ wr->b ≠ S->s.heap.get? b = some o->h'.get? b = some o)->R (.ok (.ret d)) { s with heap:=h',toks:=tk }) :
  codeAny (model prog w) A (.builtin "min.loop" ⟨[.ref I,.none,.ref S],[(nm,d)]⟩) R s:=by
 subst n0
 have hSw:S ∉ wr:=λ h=>hSf (W.sub _ h)
 refine codeAny_builtin PySem.F.entry_min_loop ?_
 rw [Around.under_plainId PySem.F.plain_min_loop _]
 refine wpAny_bind (wpAny_seqItems hS rfl ?_)
 show wpAny _ A.in1 (tryCatch (pyNext (.ref I)) _ >>= _) _ _ s
 refine wpAny_bind (wpAny_tryCatch (W.done s _ _ hst λ h' tk hk'=>?_))
 have fin:=hR h' tk λ b o hbw hbS e=>hk' b o hbw e
 repeat (first | exact fin | wp_step)
end
section
variable {prog:Program} {w:World} {A:Around} {E:Value->Shared->Prop} {s:Shared} {xs:Array (Int × Tok)} {l:Addr}
theorem b8H {d:Value} {Q:Value->Shared->Prop} (hh:A.handled = none) (hl:s.heap.IsList l (intItems xs))
  (h:∀ v h' tk,(0 < xs.size->(intItems xs)[argBest (λ i j=>decide (numAt xs i < numAt xs j)) (xs.size - 1)]? = some v)->(xs.size = 0->v = d)->(∀ b o,s.heap.get? b = some o->h'.get? b = some o)->Q v { s with heap:=h',toks:=tk }) :
  wpAny (model prog w) A (call (.builtin "min") [.ref l] [("default", d)]) Q E s:=by
 have hname:(toString "min" ++ toString ".loop" : String) = "min.loop" := by decide
 refine wpAny_call (codeAny_call_builtin PySem.F.plain_min PySem.F.entry_min ?_)
 simp only [checkBuiltinCall,PySem.F.kind_min]
 have ha:=b8E (.ref l) d
 have go:wpAny (model prog w) A.in1 (Builtin.«min» ⟨[.ref l],[("default", d)]⟩) (λ fin s'=>match fin with
   | .done f=>(match (Except.ok f:Result) with | .ok (.ret v)=>Q v s' | .ok _=>False | .error e=>E e s')
   | .again c'=>c'.quiet = true/\codeAny (model prog w) A c' (λ r s'=>match r with | .ok (.ret v)=>Q v s' | .ok _=>False | .error e=>E e s') s') E s:=by
  show wpAny _ A.in1 (Builtin.Builtins.bindParams "min" ["key", "default"] 0 ⟨[],[("default", d)]⟩ >>= _) _ _ s
  refine wpAny_bind (wpAny_of_eq (show Builtin.Builtins.bindParams "min" ["key", "default"] 0 ⟨[],[("default", d)]⟩ = pure [none,some d] from by kernel_rfl) ?_)
  refine wpAny_bind (wpAny_pure ?_)
  refine wpAny_bind (iter_intList hl λ s₂ e st hfp hlI=>?_)
  subst e
  refine wpAny_bind (wpAny_newObj_type ?_)
  have W:=Walks.list (prog:=prog) (w:=w) (A:=A.in1) hh s.heap.objs.size l hlI (intItems xs)
  have hSf:(s.heap.push { cls:=.type "list_iterator", data:=.fields #[.ref l,.int 0 0] }).objs.size ∉ [s.heap.objs.size,l]:=λ hm=>Nat.lt_irrefl _ (hfp _ hm)
  have esz:(intItems xs).size = xs.size:=by simp [intItems]
  rw [hname]
  refine wpAny_pure ⟨plainId_quiet PySem.F.plain_min_loop _,?_⟩
  have keep2:∀ {h':Heap},(∀ b o,b ∉ [s.heap.objs.size]->b ≠ (s.heap.push { cls:=.type "list_iterator", data:=.fields #[.ref l,.int 0 0] }).objs.size ->
    ((s.heap.push { cls:=.type "list_iterator", data:=.fields #[.ref l,.int 0 0] }).push { cls:=.type "list", data:=.seq #[] }).get? b = some o->h'.get? b = some o)->∀ b o,s.heap.get? b = some o->h'.get? b = some o:=λ {h'} hk =>
   old_kept (h':=h') λ b o hb e=>hk b o hb (Nat.ne_of_lt (Heap.lt_size e)) (Heap.get?_push_of_some _ e)
  by_cases hz:0 < xs.size
  ·refine b5Y W _ (CmpOf.ints_lt (numAt xs) (λ _ _=>intItems_at)) _ hSf (by rw [esz]; exact hz) (W.frame _ _ _ st λ b _ o e=>Heap.get?_push_of_some _ e) (Heap.get?_push_size _ rfl) λ v h' tk hP hk=>?_
   exact h v h' tk (λ _=>by rw [esz] at hP; exact hP) (λ z=>by omega) (keep2 hk)
  ·have z0:xs.size = 0:=by omega
   refine b8G W (by rw [esz]; exact z0) _ hSf (W.frame _ _ _ st λ b _ o e=>Heap.get?_push_of_some _ e) (Heap.get?_push_size _ rfl) λ h' tk hk=>?_
   exact h d h' tk (λ c=>absurd c hz) (λ _=>rfl) (keep2 hk)
 cases hsig:Manifest.signature? "min" with
 | none=>exact wpAny_pure go
 | some sig =>
  simp only [argsOk,hsig] at ha
  have h2:Bind.checkArgs "min" sig ⟨[.ref l],[("default", d)]⟩ = pure ():=ha
  show wpAny _ A.in1 (Bind.checkArgs "min" sig ⟨[.ref l],[("default", d)]⟩) _ _ s
  rw [h2]; exact wpAny_pure go
end
section
variable {X:Cx} {K:Φρ}
def d1L (K:Φρ) (ta tk:TA):TE:=λ σ H Q=>ta σ H λ vs H1=>tk σ H1 λ ws H2=>∃ p ns d,vs = [.ref p]/\ws = [.int d]/\SqL K H2 p (List.map V.int ns)/\(ns = []->Q (.int d) H2)/\∀ M,M ∈ ns->(∀ a ∈ ns,M <= a)->Q (.int M) H2
theorem c5Z {e ed:Expr} {ta tk:TA} {p pos kpos:Pos} (eK:X.K = K) (cm:X.calm = true) (hm:X.mg "min" = none) (ha:PA X [e] ta) (hk:PK X [⟨some "default", ed,kpos⟩] tk) (hg:Gl X "min" := by rfl)
  (he:backTo pos (starEach [e] X.env) = (false,eval e X.env) :: backTo pos (starEach [] X.env):=by rfl) (hplain:(backTo pos (starEach [e] X.env)).any (·.1) = false:=by rfl) :
  PE X (.Call (.Name "min" p) [e] [⟨some "default", ed,kpos⟩] pos) (d1L K ta tk):=by
 subst eK
 intro pins s σ H Q I h
 refine wpAny_Call_Name_kw (a4C I hg hm (show bootBuiltins "min" = some (.builtin "min") by decide +kernel) ?_)
 refine PyProof.Rows.callWith_kw (id:="min") (thn (ha pos pins s σ H _ I h) λ us s1 ⟨vs,H1,I1,r,q⟩=>?_) he hplain
 refine thn (hk pos pins s1 σ H1 _ I1 q) λ ws s2 ⟨zs,H2,I2,rz,q2⟩=>?_
 obtain ⟨pl,ns,d,rfl,rfl,hL,q0,q1⟩:=q2
 obtain ⟨u,rfl,rx⟩:=a4B r
 cases rx
 obtain ⟨u2,rfl,ry⟩:=a4B rz
 obtain ⟨td',rfl⟩:=(show ∃ t,u2 = Value.int d t from ry)
 obtain ⟨its,r',pl',hz⟩:=I2.list hL
 have hi:=a3O r'
 obtain ⟨zs,ez⟩:=hi.allInts.items
 have esz:zs.size = ns.length:=by
  have:=congrArg Array.size ez
  rw [List.size_toArray] at this
  have e2:(intItems zs).size = zs.size:=by simp [intItems]
  have:=hi.length
  omega
 have en:zs.toList.map (·.1) = ns:=by
  rw [<- nums_intItems,<- ez]
  exact hi.numsOf
 refine b8H (xs:=zs) (I2.ok.hd cm) (by rw [<- ez]; exact pl'.isList) λ v h' tk hv hv0 hk=>?_
 by_cases c:0 < zs.size
 ·obtain ⟨t,rfl⟩:=intItems_at (hv c)
  obtain ⟨h1,h2⟩:=argBest_lt (numAt zs) (zs.size - 1)
  refine ⟨.int _,H2,I2.kept hk,⟨t,rfl⟩,q1 _ ?_ λ a ha=>?_⟩
  ·rw [numAt_eq,<- en]; exact getD_mem (by rw [List.length_map,Array.length_toList]; omega)
  ·rw [<- en] at ha
   obtain ⟨j,hj,rfl⟩:=mem_getD ha
   rw [List.length_map,Array.length_toList] at hj
   rw [<- numAt_eq]; exact h2 j (by omega)
 ·have z0:zs.size = 0:=by omega
  rw [hv0 z0]
  refine ⟨.int d,H2,I2.kept hk,⟨_,rfl⟩,q0 ?_⟩
  exact List.eq_nil_of_length_eq_zero (by omega)
end
end L2
namespace L2
open PySem PySem.Spec PySem.Calls PyProof.Rows
section
variable {X:Cx}
def d1M:V->List V->Hp->VK->Prop:=λ x vs H Q=>∃ (l:Addr) (ns:List Int) (v:Int) (j:Nat),x = .ref l/\vs = [.int v]/\H l = some (.lst (List.map V.int ns))/\ns[j]? = some v/\(∀ m:Nat,m < j->ns[m]? ≠ some v)/\ns.length <= 1000/\Q (.int (j:Int)) H
def isV (v:Int):Value->Bool
 | .int a _=>a == v
 | _=>false
theorem b0X:MtM X "list.index" d1M:=by
 intro pins s σ H x vs w us Q I rx rv h
 obtain ⟨l,ns,v,j,rfl,rfl,hH,hj,hno,hz,q⟩:=h
 cases rx
 obtain ⟨u,rfl,ru⟩:=a4B rv
 obtain ⟨t,rfl⟩:=(show ∃ t,u = Value.int v t from ru)
 obtain ⟨z,its,n,r,hl,e⟩:=I.lstM hH
 have hi:=a3O r
 have len:=hi.length
 have at_:∀ m (hm:m < its.length),∃ k tk,its[m] = Value.int k tk/\ns[m]? = some k:=λ m hm=>by
  have hm2:m < ns.length:=by omega
  obtain ⟨tk,e⟩:=hi.get m ns[m] (List.getElem?_eq_getElem hm2)
  rw [List.getElem?_eq_getElem hm] at e
  injection e with e
  exact ⟨ns[m],tk,e,List.getElem?_eq_getElem hm2⟩
 have jl:j < its.length:=by have:=(List.getElem?_eq_some_iff.mp hj).1; omega
 refine call_meets F.slot_list_index ⟨_,e,rfl⟩ F.entry_list_index (F.args_list_index_2 _ _) (MeetsSeq.list_index l its.toArray n (.int v t) (isV v) (λ y hy=>?_) j (by simpa using jl) (by omega) ?_ λ m hm hmj=>?_) ⟨e,?_⟩
 ·obtain ⟨m,hm,em⟩:=List.getElem_of_mem (show y ∈ its by simpa using hy)
  obtain ⟨k,tk,e1,_⟩:=at_ m hm
  rw [<- em,e1]
  exact MeetsSeq.EqGives.int k v tk t
 ·obtain ⟨k,tk,e1,e2⟩:=at_ j jl
  rw [hj] at e2
  injection e2 with e2
  simp only [List.getElem_toArray]
  rw [e1,<- e2]
  exact beq_self_eq_true v
 ·have hm':m < its.length:=by simpa using hm
  obtain ⟨k,tk,e1,e2⟩:=at_ m hm'
  simp only [List.getElem_toArray]
  rw [e1]
  show (k == v) = false
  have:k ≠ v:=λ z=>hno m hmj (by rw [e2,z])
  simpa using this
 ·exact ⟨.int j,H,I.tok _,⟨_,rfl⟩,q⟩
end
end L2
namespace L2
open PySem PySem.Spec PyProof.Rows
section
variable {X:Cx}
def d1N:V->List V->Hp->VK->Prop:=λ x vs H Q=>∃ m:Nat,x = .int (m:Int)/\vs = []/\Q (.int ((Builtin.Int.intBits (m:Int):Nat):Int)) H
theorem c6A:MtR X "int.bit_length" d1N:=by
 intro pins s σ H x xs v us Q I rx rs h
 obtain ⟨m,rfl,rfl,q⟩:=h
 obtain ⟨t,rfl⟩:=(show ∃ t,v = Value.int (m:Int) t from rx)
 cases rs
 exact call_int_bit_length ⟨.int _,H,I.tok _,⟨_,rfl⟩,q⟩
end
theorem b8I (a b:Nat):Builtin.bitAnd (a:Int) (b:Int) = ((a &&& b:Nat):Int):=by
 unfold Builtin.bitAnd
 simp
theorem b8J (a b:Nat):Builtin.bitOr (a:Int) (b:Int) = ((a ||| b:Nat):Int):=by
 unfold Builtin.bitOr Builtin.bitAnd Builtin.bitNot
 rw [decide_eq_false (show ¬ (0:Int) <= -(a:Int) - 1 by omega),decide_eq_false (show ¬ (0:Int) <= -(b:Int) - 1 by omega)]
 dsimp only
 rw [show (-(-(a:Int) - 1) - 1).toNat = a by omega,show (-(-(b:Int) - 1) - 1).toNat = b by omega]
 omega
theorem b8K {m k:Nat} (h:m < 2 ^ k):Builtin.Int.intBits (m:Int) <= k:=by
 unfold Builtin.Int.intBits
 split
 ·exact Nat.zero_le _
 ·rename_i c
  have hm:m ≠ 0:=λ z=>c (by rw [z]; rfl)
  rw [Int.natAbs_natCast]
  exact (Nat.log2_lt hm).mpr h
theorem b8L {m v:Nat} (h:m.testBit v = true):v < Builtin.Int.intBits (m:Int):=by
 unfold Builtin.Int.intBits
 have hm:m ≠ 0:=λ z=>by rw [z] at h; simp at h
 have hc:¬ (((m:Int) == 0) = true):=by simpa using hm
 rw [if_neg hc,Int.natAbs_natCast]
 have:=Nat.ge_two_pow_of_testBit h
 exact Nat.lt_succ_of_le ((Nat.le_log2 hm).mpr this)
def a2D (m:Nat):List Nat:=(List.range 10).filter (m.testBit ·)
theorem b2U {m:Nat} (h:m < 2 ^ 10):(List.range (Builtin.Int.intBits (m:Int))).filter (m.testBit ·) = a2D m:=by
 unfold a2D
 have hk:=b8K h
 obtain ⟨d,ed⟩:∃ d,10 = Builtin.Int.intBits (m:Int) + d:=⟨10 - Builtin.Int.intBits (m:Int),by omega⟩
 rw [ed,List.range_add,List.filter_append]
 have:((List.range d).map (λ x=>Builtin.Int.intBits (m:Int) + x)).filter (m.testBit ·) = []:=by
  rw [List.filter_eq_nil_iff]
  intro x hx hb
  obtain ⟨y,_,rfl⟩:=List.mem_map.mp hx
  have:=b8L hb
  omega
 rw [this,List.append_nil]
theorem a9B (m v:Nat):(m &&& 2 ^ v = 0) ↔ m.testBit v = false:=by
 constructor
 ·intro h
  have:(m &&& 2 ^ v).testBit v = false:=by rw [h]; simp
  rw [Nat.testBit_and,Nat.testBit_two_pow_self,Bool.and_true] at this
  exact this
 ·intro h
  refine Nat.eq_of_testBit_eq λ i=>?_
  rw [Nat.testBit_and,Nat.zero_testBit,Nat.testBit_two_pow]
  by_cases c:v = i
  ·subst c; rw [h]; rfl
  ·rw [decide_eq_false c,Bool.and_false]
theorem c6B {m v:Nat} (h:m.testBit v = true):∀ u,(m - 2 ^ v).testBit u = (m.testBit u && !decide (u = v)):=by
 induction v generalizing m with
 | zero =>
  intro u
  have h1:m % 2 = 1:=by rw [Nat.testBit_zero] at h; exact of_decide_eq_true h
  cases u with
  | zero =>
   rw [Nat.testBit_zero,Nat.testBit_zero]
   have:(m - 2 ^ 0) % 2 = 0:=by omega
   rw [this]; simp
  | succ u =>
   rw [Nat.testBit_succ,Nat.testBit_succ]
   have:(m - 2 ^ 0) / 2 = m / 2:=by omega
   rw [this]; simp
 | succ v ih =>
  intro u
  rw [Nat.testBit_succ] at h
  have le:2 ^ v <= m / 2:=Nat.ge_two_pow_of_testBit h
  have e2:2 ^ (v + 1) = 2 * 2 ^ v:=by rw [Nat.pow_succ,Nat.mul_comm]
  cases u with
  | zero =>
   rw [Nat.testBit_zero,Nat.testBit_zero]
   have:(m - 2 ^ (v + 1)) % 2 = m % 2:=by omega
   rw [this]; simp
  | succ u =>
   rw [Nat.testBit_succ,Nat.testBit_succ]
   have:(m - 2 ^ (v + 1)) / 2 = m / 2 - 2 ^ v:=by omega
   rw [this,ih h u]
   simp
structure BagsM (n:Nat) (ms:List Nat) (R:Nat->Nat->Bool):Prop where
 len:ms.length = n
 n10:n <= 10
 lt:∀ m ∈ ms,m < 2 ^ 10
 bit:∀ v < n,∀ u,(ms.getD v 0).testBit u = R v u
 far:∀ v u,R v u = true->v < n/\u < n
theorem BagsM.get {n:Nat} {ms:List Nat} {R:Nat->Nat->Bool} (b:BagsM n ms R) {v:Nat} (h:v < n):ms[v]? = some (ms.getD v 0):=by
 have:v < ms.length:=by rw [b.len]; exact h
 rw [τα,List.getElem?_eq_getElem this]; rfl
theorem BagsM.mlt {n:Nat} {ms:List Nat} {R:Nat->Nat->Bool} (b:BagsM n ms R) {v:Nat} (h:v < n):ms.getD v 0 < 2 ^ 10:=b.lt _ (List.mem_of_getElem? (b.get h))
theorem a5K {m k:Nat} (h:∀ u,m.testBit u = true->u < k):m < 2 ^ k:=Nat.lt_pow_two_of_testBit m λ i hi=>by
 cases e:m.testBit i with
 | false=>rfl
 | true=>have:=h i e; omega
def a6G (v:Nat) (R:Nat->Nat->Bool):Nat->Nat->Bool:=λ x u=>if x = v then false else if R x v = true then (R x u || R v u) && !decide (u = v) else R x u
def a6Y (v:Nat) (ms:List Nat):List Nat:=(ms.map λ m=>if m &&& 2 ^ v = 0 then m else (m ||| ms.getD v 0) - 2 ^ v).set v 0
theorem b8M {n:Nat} {ms:List Nat} {R:Nat->Nat->Bool} {v:Nat} (b:BagsM n ms R) (hv:v < n):BagsM n (a6Y v ms) (a6G v R):=by
 have far:∀ x u,a6G v R x u = true->x < n/\u < n:=λ x u h=>by
  unfold a6G at h
  split at h
  ·cases h
  ·split at h
   ·rename_i c
    rw [Bool.and_eq_true,Bool.or_eq_true] at h
    rcases h.1 with z | z
    ·exact b.far _ _ z
    ·exact ⟨(b.far _ _ c).1,(b.far _ _ z).2⟩
   ·exact b.far _ _ h
 have bit:∀ x < n,∀ u,((a6Y v ms).getD x 0).testBit u = a6G v R x u:=λ x hx u=>by
  unfold a6Y a6G
  by_cases c:x = v
  ·subst c
   rw [if_pos rfl,τα,List.getElem?_set_self (by rw [List.length_map,b.len]; exact hx)]
   simp
  ·rw [if_neg c,τα,List.getElem?_set_ne (Ne.symm c),List.getElem?_map,b.get hx]
   simp only [Option.map_some,Option.getD_some]
   have ab:=a9B (ms.getD x 0) v
   rw [b.bit x hx] at ab
   by_cases d:R x v = true
   ·rw [if_pos d,if_neg (λ z=>by rw [ab.mp z] at d; cases d)]
    have ht:(ms.getD x 0 ||| ms.getD v 0).testBit v = true:=by rw [Nat.testBit_or,b.bit x hx,d]; rfl
    rw [c6B ht,Nat.testBit_or,b.bit x hx,b.bit v hv]
   ·rw [if_neg d,if_pos (ab.mpr (by simpa using d)),b.bit x hx]
 refine ⟨by unfold a6Y; rw [List.length_set,List.length_map]; exact b.len,b.n10,λ m hm=>?_,bit,far⟩
 obtain ⟨j,hj,ej⟩:=List.getElem_of_mem hm
 have jn:j < n:=by
  unfold a6Y at hj
  rw [List.length_set,List.length_map,b.len] at hj
  exact hj
 have e:(a6Y v ms).getD j 0 = m:=by rw [τα,List.getElem?_eq_getElem hj,ej]; rfl
 refine a5K λ u hu=>?_
 rw [<- e,bit j jn] at hu
 have:=far j u hu
 have:=b.n10
 omega
theorem a4H {n:Nat} {ms:List Nat} {R:Nat->Nat->Bool} {v:Nat} (b:BagsM n ms R) (hv:v < n):a2D (ms.getD v 0) = (List.range n).filter (R v ·):=by
 unfold a2D
 have hn:=b.n10
 obtain ⟨d,ed⟩:∃ d,10 = n + d:=⟨10 - n,by omega⟩
 rw [ed,List.range_add,List.filter_append]
 have e1:((List.range d).map (λ x=>n + x)).filter ((ms.getD v 0).testBit ·) = []:=by
  rw [List.filter_eq_nil_iff]
  intro x hx hb
  obtain ⟨y,_,rfl⟩:=List.mem_map.mp hx
  rw [b.bit v hv] at hb
  have:=(b.far _ _ hb).2
  omega
 rw [e1,List.append_nil]
 exact List.filter_congr λ u _=>b.bit v hv u
def a2X (n:Nat) (ts:List ζζ):Nat->Nat->Bool:=λ v u=>decide (v < n/\u < n) && (decide (u = v) || decide (((v:Int),(u:Int)) ∈ ts) || decide (((u:Int),(v:Int)) ∈ ts))
end L2
namespace L2
open PySem PySem.Spec PyProof.Rows
end L2
set_option maxHeartbeats 1000000
namespace Sm
open PySem
def b8N (xs:Array Nat) (j k:Nat):Prop:=k <= xs.size/\∀ i (h:i < xs.size),xs[i] < j ↔ i < k
theorem c2B {xs:Array Nat} (h:xs.toList.Pairwise (· < ·)) {i k:Nat} (hi:i < xs.size) (hk:k < xs.size) (ik:i < k):xs[i] < xs[k]:=by
 have:=List.pairwise_iff_getElem.mp h i k (by simpa using hi) (by simpa using hk) ik
 simpa using this
theorem d1O {xs:Array Nat} {j:Nat} (h:xs.toList.Pairwise (· < ·)):∀ (fuel lo hi:Nat),hi - lo <= fuel->lo <= hi->hi <= xs.size ->
  (∀ i (z:i < xs.size),i < lo->xs[i] < j)->(∀ i (z:i < xs.size),hi <= i->j <= xs[i])->b8N xs j (SetTable.below.go xs j fuel lo hi):=by
 intro fuel
 induction fuel with
 | zero =>
  intro lo hi a b c d e
  unfold SetTable.below.go
  have:lo = hi:=by omega
  subst this
  exact ⟨c,λ i z=>⟨λ q=>by
   rcases Nat.lt_or_ge i lo with g | g
   ·exact g
   ·have:=e i z g
    omega,λ q=>d i z q⟩⟩
 | succ f ih =>
  intro lo hi a b c d e
  unfold SetTable.below.go
  by_cases q:lo < hi
  ·rw [if_pos q]
   dsimp only
   have m1:lo <= (lo + hi) / 2:=by omega
   have m2:(lo + hi) / 2 < hi:=by omega
   have m3:(lo + hi) / 2 < xs.size:=by omega
   have ge:xs.getD ((lo + hi) / 2) j = xs[(lo + hi) / 2]:=by simp [Array.getD,m3]
   rw [ge]
   by_cases r:xs[(lo + hi) / 2] < j
   ·rw [if_pos r]
    refine ih _ _ (by omega) (by omega) c (λ i z hi'=>?_) e
    rcases Nat.lt_or_ge i ((lo + hi) / 2) with g | g
    ·have:=c2B h z m3 g
     omega
    ·have:i = (lo + hi) / 2:=by omega
     subst this
     exact r
   ·rw [if_neg r]
    refine ih _ _ (by omega) (by omega) (by omega) d (λ i z hi'=>?_)
    rcases Nat.lt_or_ge ((lo + hi) / 2) i with g | g
    ·have:=c2B h m3 z g
     omega
    ·have:i = (lo + hi) / 2:=by omega
     subst this
     omega
  ·rw [if_neg q]
   have:lo = hi:=by omega
   subst this
   exact ⟨c,λ i z=>⟨λ q=>by
    rcases Nat.lt_or_ge i lo with g | g
    ·exact g
    ·have:=e i z g
     omega,λ q=>d i z q⟩⟩
theorem a4S {xs:Array Nat} (h:xs.toList.Pairwise (· < ·)) (j:Nat):b8N xs j (SetTable.below xs j) :=
 d1O h _ _ _ (by omega) (Nat.zero_le _) (Nat.le_refl _) (λ i z q=>absurd q (Nat.not_lt_zero _)) (λ i z q=>absurd z (by omega))
theorem b4B {xs:Array Nat} (h:xs.toList.Pairwise (· < ·)) {k:Nat} (hk:k < xs.size):SetTable.below xs (xs[k]) = k:=by
 obtain ⟨a,b⟩:=a4S h xs[k]
 rcases Nat.lt_trichotomy (SetTable.below xs xs[k]) k with g | g | g
 ·have c:=(b (SetTable.below xs xs[k]) (by omega)).mp (c2B h (by omega) hk g)
  omega
 ·exact g
 ·have c:=(b k hk).mpr g
  omega
theorem a8D {xs:Array Nat} (h:xs.toList.Pairwise (· < ·)):SetTable.below xs 0 = 0:=by
 obtain ⟨a,b⟩:=a4S h 0
 rcases Nat.eq_zero_or_pos (SetTable.below xs 0) with g | g
 ·exact g
 ·have:=(b 0 (by omega)).mpr g
  omega
theorem a8E {xs:Array Nat} (h:xs.toList.Pairwise (· < ·)) {k:Nat} (hk:k < xs.size):SetTable.below xs (xs[k] + 1) = k + 1:=by
 obtain ⟨a,b⟩:=a4S h (xs[k] + 1)
 have c:=(b k hk).mp (by omega)
 rcases Nat.lt_or_ge (k + 1) (SetTable.below xs (xs[k] + 1)) with g | g
 ·have e:=(b (k + 1) (by omega)).mpr g
  have:=c2B h hk (show k + 1 < xs.size by omega) (Nat.lt_succ_self _)
  omega
 ·omega
theorem a9C (j:Nat):SetTable.has #[] j = false:=by
 unfold SetTable.has
 simp
theorem a3B {t:SetTable} (dm:t.dummies = #[]) {j:Nat} (h:j ∉ t.place.toList):t.slot j = .empty:=by
 unfold SetTable.slot
 have e:(t.place[SetTable.below t.place j]? == some j) = false:=by
  rw [beq_eq_false_iff_ne]
  intro c
  exact h (by simpa using Array.mem_of_getElem? c)
 dsimp only
 rw [e,dm,a9C]
 rfl
theorem b0Y {t:SetTable} (up:t.place.toList.Pairwise (· < ·)) {j:Nat} (h:j ∈ t.place.toList):∃ i,t.slot j = .live i:=by
 obtain ⟨k,hk,e⟩:=List.getElem_of_mem h
 have hk':k < t.place.size:=by simpa using hk
 have e':t.place[k] = j:=by simpa using e
 unfold SetTable.slot
 have q:SetTable.below t.place j = k:=by rw [<- e']; exact b4B up hk'
 dsimp only
 rw [q]
 have:(t.place[k]? == some j) = true:=by simp [hk',e']
 rw [this]
 exact ⟨k,rfl⟩
def adv (mask:Nat) (p:SetTable.Probe):SetTable.Probe :=
 if 0 < p.more then { p with more:=p.more - 1,j:=p.j + 1 } else
 { p with j:=(SetTable.leap mask p.i p.perturb).1,more:=SetTable.runEnd mask (SetTable.leap mask p.i p.perturb).1 - (SetTable.leap mask p.i p.perturb).1,i:=(SetTable.leap mask p.i p.perturb).1,perturb:=(SetTable.leap mask p.i p.perturb).2 }
theorem c4M (t:SetTable) (p:SetTable.Probe):t.advance p = adv t.mask p:=by
 unfold SetTable.advance adv
 rfl
def nth (mask:Nat) (p:SetTable.Probe):Nat->SetTable.Probe
 | 0=>p
 | k + 1=>nth mask (adv mask p) k
theorem b0Z (m:Nat) (p:SetTable.Probe):(adv m p).dummy = p.dummy:=by
 unfold adv
 split <;> rfl
theorem c2C {t:SetTable} (dm:t.dummies = #[]) (up:t.place.toList.Pairwise (· < ·)) (h:Int):∀ (k fuel:Nat) (p:SetTable.Probe),k < fuel->p.dummy = none->(nth t.mask p k).j ∉ t.place.toList ->
  ∃ j,j ∉ t.place.toList/\SetTable.probe.go t (λ _=>h + 1) h fuel p = some (.empty j none):=by
 intro k
 induction k with
 | zero =>
  intro fuel p hf hd hn
  obtain ⟨f,rfl⟩:∃ f,fuel = f + 1:=⟨fuel - 1,by omega⟩
  unfold SetTable.probe.go
  have hn':p.j ∉ t.place.toList:=hn
  refine ⟨p.j,hn',?_⟩
  rw [a3B dm hn',hd]
 | succ k ih =>
  intro fuel p hf hd hn
  obtain ⟨f,rfl⟩:∃ f,fuel = f + 1:=⟨fuel - 1,by omega⟩
  unfold SetTable.probe.go
  by_cases c:p.j ∈ t.place.toList
  ·obtain ⟨i,e⟩:=b0Y up c
   rw [e]
   dsimp only
   have:(h + 1 == h) = false:=by rw [beq_eq_false_iff_ne]; omega
   rw [this]
   rw [c4M]
   exact ih f (adv t.mask p) (by omega) (by rw [b0Z]; exact hd) hn
  ·rw [a3B dm c,hd]
   exact ⟨p.j,c,rfl⟩
def b8O (v:Nat):SetTable.Probe:={ j:=v % 8,more:=0,i:=v % 8,perturb:=v,dummy:=none }
theorem d1P:∀ v,v < 16->∀ j,j < 8->∃ k,k < 16/\(nth 7 (b8O v) k).j = j:=by decide +kernel
theorem b2V {v:Nat} (h:v < 16):SetTable.bits (v:Int) = v:=by
 unfold SetTable.bits
 omega
theorem c6C {t:SetTable} (dm:t.dummies = #[]) (up:t.place.toList.Pairwise (· < ·)) {v k:Nat} (hk:k < 10 * SetTable.turns t.mask) (hn:(nth t.mask (t.probeStart (v:Int)) k).j ∉ t.place.toList) :
  ∃ j,j ∉ t.place.toList/\t.freeSlot (v:Int) = some (j,false):=by
 obtain ⟨j,hj,e⟩:=c2C dm up (v:Int) k (10 * SetTable.turns t.mask) (t.probeStart (v:Int)) hk rfl hn
 refine ⟨j,hj,?_⟩
 unfold SetTable.freeSlot SetTable.probe
 rw [e]
 rfl
theorem b1A:∀ (l m:List Nat),l.Nodup->(∀ x ∈ l,x ∈ m)->l.length <= m.length
 | [],_,_,_=>Nat.zero_le _
 | a :: r,m,nd,h=>by
  have am:a ∈ m:=h a List.mem_cons_self
  obtain ⟨n1,n2⟩:=List.nodup_cons.mp nd
  have q:=b1A r (m.erase a) n2 λ x hx=>(List.mem_erase_of_ne (λ e=>n1 (by rw [<- e]; exact hx))).mpr (h x (List.mem_cons_of_mem _ hx))
  rw [List.length_erase_of_mem am] at q
  have:=List.length_pos_of_mem am
  rw [List.length_cons]
  omega
theorem c9G {l:List Nat} (h:l.length <= 4):∃ j,j < 8/\j ∉ l:=by
 apply Classical.byContradiction
 intro c
 have q:∀ j,j < 8->j ∈ l:=λ j hj=>Classical.byContradiction λ d=>c ⟨j,hj,d⟩
 have:=b1A (List.range 8) l List.nodup_range (λ j hj=>q j (List.mem_range.mp hj))
 rw [List.length_range] at this
 omega
theorem c2D {t:SetTable} (dm:t.dummies = #[]) {v:Nat} (hv:v < 16) (hm:15 <= t.mask) (hn:v ∉ t.place.toList):t.freeSlot (v:Int) = some (v,false):=by
 unfold SetTable.freeSlot SetTable.probe
 have e:(t.probeStart (v:Int)).j = v:=by
  unfold SetTable.probeStart
  dsimp only
  rw [b2V hv]
  exact Nat.mod_eq_of_lt (by omega)
 obtain ⟨f,hf⟩:∃ f,10 * SetTable.turns t.mask = f + 1:=⟨10 * SetTable.turns t.mask - 1,by unfold SetTable.turns; omega⟩
 rw [hf]
 unfold SetTable.probe.go
 rw [e,a3B dm hn]
 rfl
def Es (es:Array (Int × Value)) (L:List Nat):Prop:=Paired (λ e v=>e.1 = ((v:Nat):Int)/\∃ tk,e.2 = Value.int ((v:Nat):Int) tk) es.toList L
structure Tb (B:Bool) (t:SetTable) (L:List Nat):Prop where
 dm:t.dummies = #[]
 pl:t.plain = true
 led:t.led = !B
 up:t.place.toList.Pairwise (· < ·)
 sz:t.place.size = L.length
 nd:L.Nodup
 lt:∀ v ∈ L,v < 16
 sh:(t.mask = 7/\L.length <= 4)\/(15 <= t.mask/\t.place.toList = L/\L.length * 5 < t.mask * 3)
theorem c4N {xs:Array Nat} (up:xs.toList.Pairwise (· < ·)) {j:Nat} (h:j ∉ xs.toList):(SetTable.insertAt xs (SetTable.below xs j) j).toList.Pairwise (· < ·):=by
 obtain ⟨a,b⟩:=a4S up j
 rw [SetTable.toList_insertAt]
 have z:∀ i (hi:i < xs.toList.length),xs.toList[i] < j ↔ i < SetTable.below xs j:=λ i hi=>by
  have:=b i (by simpa using hi)
  simpa using this
 rw [List.pairwise_append]
 refine ⟨up.sublist (List.take_sublist _ _),?_,?_⟩
 ·rw [List.pairwise_cons]
  refine ⟨λ y hy=>?_,up.sublist (List.drop_sublist _ _)⟩
  obtain ⟨i,hi,e⟩:=List.getElem_of_mem hy
  rw [List.getElem_drop] at e
  have hl:SetTable.below xs j + i < xs.toList.length:=by rw [List.length_drop] at hi; omega
  have q:=z _ hl
  rw [e] at q
  have ne:y ≠ j:=λ c=>h (by rw [<- c,<- e]; exact List.getElem_mem hl)
  rcases Nat.lt_or_ge y j with g | g
  ·have:=q.mp g
   omega
  ·omega
 ·intro x hx y hy
  obtain ⟨i,hi,e⟩:=List.getElem_of_mem hx
  rw [List.getElem_take] at e
  have hl:i < xs.toList.length:=by rw [List.length_take] at hi; omega
  have hb:i < SetTable.below xs j:=by rw [List.length_take] at hi; omega
  have x1:x < j:=by rw [<- e]; exact (z i hl).mpr hb
  rcases List.mem_cons.mp hy with rfl | hy
  ·exact x1
  ·obtain ⟨k,hk,e2⟩:=List.getElem_of_mem hy
   rw [List.getElem_drop] at e2
   have hl2:SetTable.below xs j + k < xs.toList.length:=by rw [List.length_drop] at hk; omega
   have q:=z _ hl2
   rw [e2] at q
   rcases Nat.lt_or_ge y j with g | g
   ·have:=q.mp g
    omega
   ·omega
theorem Es.len {es:Array (Int × Value)} {L:List Nat} (h:Es es L):es.size = L.length:=by
 have:=Paired.length h
 simpa using this
theorem a2I {α β:Type} {R:α->β->Prop}:∀ {xs:List α} {ys:List β} (n:Nat),Paired R xs ys->Paired R (xs.take n) (ys.take n)
 | _,_,0,_=>.nil
 | _,_,_ + 1,.nil=>.nil
 | _,_,n + 1,.cons r t=>.cons r (a2I n t)
theorem a2J {α β:Type} {R:α->β->Prop}:∀ {xs:List α} {ys:List β} (n:Nat),Paired R xs ys->Paired R (xs.drop n) (ys.drop n)
 | _,_,0,r=>r
 | _,_,_ + 1,.nil=>.nil
 | _,_,n + 1,.cons _ t=>a2J n t
theorem a2B {α β:Type} {R:α->β->Prop}:∀ {xs xs':List α} {ys ys':List β},Paired R xs ys->Paired R xs' ys'->Paired R (xs ++ xs') (ys ++ ys')
 | _,_,_,_,.nil,s=>s
 | _,_,_,_,.cons r t,s=>.cons r (a2B t s)
theorem paired_get {α β:Type} {R:α->β->Prop}:∀ {xs:List α} {ys:List β},Paired R xs ys->∀ (i:Nat) (h:i < ys.length),∃ x,xs[i]? = some x/\R x ys[i]
 | _,_,.nil,i,h=>by simp at h
 | _,_,.cons r t,0,h=>⟨_,rfl,r⟩
 | _,_,.cons r t,i + 1,h=>by
  obtain ⟨x,e,q⟩:=paired_get t i (by simpa using h)
  exact ⟨x,by simpa using e,by simpa using q⟩
theorem c9H {B:Bool} {t:SetTable} {L:List Nat} {es:Array (Int × Value)} {v:Nat} {x:Value} (T:Tb B t L) (hE:Es es L) (hv:v < 16) (hn:v ∉ L) (hx:∃ tk,x = Value.int ((v:Nat):Int) tk) :
  ∃ t1 es1 p,layNew t es ((v:Nat):Int) x = (es1,t1,false,false)/\Es es1 (L.take p ++ v :: L.drop p)/\t1.dummies = #[]/\t1.plain = true/\(t1.led = !B)/\t1.mask = t.mask/\t1.finger = t.finger/\t1.moves = t.moves /\
   t1.place.toList.Pairwise (· < ·)/\t1.place.size = L.length + 1/\(15 <= t.mask->t1.place.toList = L.take p ++ v :: L.drop p):=by
 have main:∃ j,j ∉ t.place.toList/\t.freeSlot ((v:Nat):Int) = some (j,false)/\(15 <= t.mask->j = v):=by
  rcases T.sh with ⟨m7,l4⟩ | ⟨m15,pe,fl⟩
  ·have lp:t.place.toList.length <= 4:=by rw [Array.length_toList,T.sz]; exact l4
   obtain ⟨j,hj,nj⟩:=c9G lp
   obtain ⟨k,hk,e⟩:=d1P v hv j hj
   have st:t.probeStart ((v:Nat):Int) = b8O v:=by
    unfold SetTable.probeStart b8O
    rw [b2V hv,m7]
    unfold SetTable.runEnd
    have:¬ v % (7 + 1) + 9 <= 7:=by omega
    simp only [if_neg this]
    simp
   obtain ⟨j',hj',e'⟩:=c6C (v:=v) (k:=k) T.dm T.up (by unfold SetTable.turns; omega) (by rw [st,m7,e]; exact nj)
   exact ⟨j',hj',e',λ c=>by omega⟩
  ·have nv:v ∉ t.place.toList:=by rw [pe]; exact hn
   exact ⟨v,nv,c2D T.dm hv m15 nv,λ _=>rfl⟩
 obtain ⟨j,nj,ef,ej⟩:=main
 have sz1:(SetTable.insertAt t.place (SetTable.below t.place j) j).size = L.length + 1:=by
  have:=congrArg List.length (SetTable.toList_insertAt t.place (SetTable.below t.place j) j)
  rw [Array.length_toList] at this
  rw [this,List.length_append,List.length_cons,List.length_take,List.length_drop,Array.length_toList,T.sz]
  omega
 have es1:(SetTable.insertAt es (SetTable.below t.place j) (((v:Nat):Int),x)).size = L.length + 1:=by
  have:=congrArg List.length (SetTable.toList_insertAt es (SetTable.below t.place j) (((v:Nat):Int),x))
  rw [Array.length_toList] at this
  rw [this,List.length_append,List.length_cons,List.length_take,List.length_drop,Array.length_toList,hE.len]
  omega
 have mk:L.length + 1 <= t.mask:=by
  rcases T.sh with ⟨m7,l4⟩ | ⟨m15,pe,fl⟩ <;> omega
 refine ⟨{ t with place:=SetTable.insertAt t.place (SetTable.below t.place j) j },SetTable.insertAt es (SetTable.below t.place j) (((v:Nat):Int),x),SetTable.below t.place j,?_,?_,T.dm,T.pl,T.led,rfl,rfl,rfl,c4N T.up nj,sz1,?_⟩
 ·unfold layNew
  rw [ef]
  dsimp only
  unfold SetTable.put
  have hd:SetTable.has t.dummies j = false:=by rw [T.dm]; exact a9C j
  dsimp only
  rw [hd]
  have ft:SetTable.fits { t with place:=SetTable.insertAt t.place (SetTable.below t.place j) j } (SetTable.insertAt es (SetTable.below t.place j) (((v:Nat):Int),x)).size = true:=by
   unfold SetTable.fits SetTable.fill
   dsimp only
   rw [sz1,es1,T.dm]
   simp
   omega
  unfold SetTable.orStandIn
  simp only [if_false,Bool.false_eq_true]
  rw [if_pos ft,ft]
  rfl
 ·unfold Es
  rw [SetTable.toList_insertAt]
  exact a2B (a2I _ hE) (.cons ⟨rfl,hx⟩ (a2J _ hE))
 ·intro hm
  dsimp only
  have:=ej hm
  subst this
  rcases T.sh with ⟨m7,l4⟩ | ⟨m15,pe,fl⟩
  ·omega
  ·rw [SetTable.toList_insertAt,pe]
end Sm
set_option maxHeartbeats 1000000
namespace Sm
open PySem
def Owns (m:Nat) (owner:Array (Option Nat)) (L:List Nat):Prop:=owner.size = m + 1/\∀ j,j <= m->owner.getD j none = if j ∈ L then some (L.idxOf j) else none
theorem c2E {m:Nat} {owner:Array (Option Nat)} {L:List Nat} (O:Owns m owner L) {v f:Nat} (hv:v <= m) (hn:v ∉ L):SetTable.layClean.free m owner (f + 1) v v = some v:=by
 unfold SetTable.layClean.free
 obtain ⟨k,hk⟩:∃ k,SetTable.runEnd m v + 1 - v = k + 1:=⟨SetTable.runEnd m v - v,by unfold SetTable.runEnd; split <;> omega⟩
 rw [hk,List.range_succ_eq_map]
 have g:owner.getD (v + 0) (some 0) = none:=by
  have a:=O.2 v hv
  rw [if_neg hn] at a
  have hs:v < owner.size:=by rw [O.1]; omega
  simp [Array.getD,hs] at a ⊢
  exact a
 rw [List.find?_cons_of_pos (by rw [g]; rfl)]
 rfl
theorem c2F {m:Nat} (hm:15 <= m):∀ (R L:List Nat) (owner:Array (Option Nat)),Owns m owner L->(L ++ R).Nodup->(∀ v ∈ R,v < 16) ->
  ∃ owner',Owns m owner' (L ++ R)/\(R.map λ v=>((v:Nat):Int)).foldl (λ (acc:Option (Array (Option Nat) × Nat)) h=>do
   let (owner,k) <- acc
   let j <- SetTable.layClean.free m owner (SetTable.turns m) (SetTable.bits h % (m + 1)) (SetTable.bits h)
   pure (owner.setIfInBounds j (some k),k + 1)) (some (owner,L.length)) = some (owner',(L ++ R).length):=by
 intro R
 induction R with
 | nil=>intro L owner O _ _; exact ⟨owner,by simpa using O,by simp⟩
 | cons v R ih =>
  intro L owner O nd hlt
  have hv:v < 16:=hlt v List.mem_cons_self
  have hn:v ∉ L:=λ c=>by
   have:=List.nodup_append.mp nd
   exact this.2.2 v c v List.mem_cons_self rfl
  have O':Owns m (owner.setIfInBounds v (some L.length)) (L ++ [v]):=by
   refine ⟨by rw [Array.size_setIfInBounds]; exact O.1,λ j hj=>?_⟩
   have hs:v < owner.size:=by rw [O.1]; omega
   have hs':j < owner.size:=by rw [O.1]; omega
   have a:=O.2 j hj
   by_cases e:j = v
   ·subst e
    rw [if_pos (List.mem_append_right _ (List.mem_singleton.mpr rfl)),List.idxOf_append,if_neg hn]
    simp [Array.getD,hs]
   ·have e1:(owner.setIfInBounds v (some L.length)).getD j none = owner.getD j none:=by
     simp only [Array.getD,Array.size_setIfInBounds,hs']
     simp [Array.getElem_setIfInBounds,hs',Ne.symm e]
    rw [e1,a]
    by_cases c:j ∈ L
    ·rw [if_pos c,if_pos (List.mem_append_left _ c),List.idxOf_append,if_pos c]
    ·rw [if_neg c,if_neg]
     intro d
     rcases List.mem_append.mp d with d | d
     ·exact c d
     ·exact e (List.mem_singleton.mp d)
  obtain ⟨o2,O2,e2⟩:=ih (L ++ [v]) _ O' (by simpa using nd) (λ u hu=>hlt u (List.mem_cons_of_mem _ hu))
  refine ⟨o2,by simpa using O2,?_⟩
  rw [List.map_cons,List.foldl_cons]
  have st:(do
   let (owner,k) <- some (owner,L.length)
   let j <- SetTable.layClean.free m owner (SetTable.turns m) (SetTable.bits ((v:Nat):Int) % (m + 1)) (SetTable.bits ((v:Nat):Int))
   pure (owner.setIfInBounds j (some k),k + 1):Option (Array (Option Nat) × Nat)) = some (owner.setIfInBounds v (some L.length),(L ++ [v]).length):=by
   rw [b2V hv,Nat.mod_eq_of_lt (by omega)]
   have:SetTable.turns m = (m + 14) + 1:=rfl
   rw [this]
   show (SetTable.layClean.free m owner (m + 14 + 1) v v).bind _ = _
   rw [c2E O (by omega) hn]
   simp
  rw [st]
  have e3:(L ++ v :: R) = L ++ [v] ++ R:=by simp
  rw [e3]
  exact e2
def upTo (m:Nat) (L:List Nat):List Nat:=(List.range (m + 1)).filter λ j=>decide (j ∈ L)
theorem b2W (m:Nat) (L:List Nat):(upTo m L).Pairwise (· < ·):=List.Pairwise.filter _ List.pairwise_lt_range
theorem a6K {m:Nat} {L:List Nat} (h:∀ v ∈ L,v <= m) {j:Nat}:j ∈ upTo m L ↔ j ∈ L:=by
 unfold upTo
 rw [List.mem_filter,List.mem_range]
 constructor
 ·rintro ⟨_,b⟩; exact of_decide_eq_true b
 ·intro b; exact ⟨Nat.lt_succ_of_le (h j b),decide_eq_true b⟩
theorem a6Z {L:List Nat} (h:L.Pairwise (· < ·)):L.Nodup:=h.imp λ h=>Nat.ne_of_lt h
theorem a4T {m:Nat} {L:List Nat} (h:∀ v ∈ L,v <= m) (nd:L.Nodup):(upTo m L).Perm L :=
 (List.perm_ext_iff_of_nodup (a6Z (b2W m L)) nd).mpr λ j=>a6K h
theorem c6D {L:List Nat} (nd:L.Nodup):L.map (λ v=>L.idxOf v) = List.range L.length:=by
 apply List.ext_getElem
 ·simp
 ·intro i h1 h2
  rw [List.getElem_map,List.getElem_range]
  exact List.Nodup.idxOf_getElem nd i _
theorem c6E {α β:Type} (p:α->Bool) (f:α->β):∀ l:List α,l.filterMap (λ a=>if p a = true then some (f a) else none) = (l.filter p).map f
 | []=>rfl
 | a :: r=>by
  rw [List.filter_cons]
  cases e:p a with
  | true=>rw [List.filterMap_cons_some (b:=f a) (by rw [e]; rfl),c6E p f r]; simp
  | false=>rw [List.filterMap_cons_none (by rw [e]; rfl),c6E p f r]; simp
theorem a4Q {α β:Type} {f g:α->Option β}:∀ {l:List α},(∀ a ∈ l,f a = g a)->l.filterMap f = l.filterMap g
 | [],_=>rfl
 | a :: r,h=>by
  have e:=h a List.mem_cons_self
  have q:=a4Q (l:=r) λ b hb=>h b (List.mem_cons_of_mem _ hb)
  cases c:f a with
  | none=>rw [List.filterMap_cons_none c,List.filterMap_cons_none (by rw [<- e]; exact c),q]
  | some b=>rw [List.filterMap_cons_some c,List.filterMap_cons_some (by rw [<- e]; exact c),q]
theorem Es.hashes {es:Array (Int × Value)} {L:List Nat} (h:Es es L):(es.map (·.1)).toList = L.map λ v=>((v:Nat):Int):=by
 rw [Array.toList_map]
 unfold Es at h
 generalize es.toList = l at h
 induction h with
 | nil=>rfl
 | cons r _ ih=>rw [List.map_cons,List.map_cons,ih,r.1]
theorem Es.at {es:Array (Int × Value)} {L:List Nat} (h:Es es L) {v:Nat} (hv:v ∈ L):∃ e,es[L.idxOf v]? = some e/\e.1 = ((v:Nat):Int)/\∃ tk,e.2 = Value.int ((v:Nat):Int) tk:=by
 have hi:=List.idxOf_lt_length_of_mem hv
 obtain ⟨x,e,q⟩:=paired_get h (L.idxOf v) hi
 rw [List.getElem_idxOf hi] at q
 exact ⟨x,by simpa using e,q⟩
theorem c9I {es:Array (Int × Value)} {L:List Nat} (h:Es es L):∀ S:List Nat,(∀ v ∈ S,v ∈ L)->Paired (λ e v=>e.1 = ((v:Nat):Int)/\∃ tk,e.2 = Value.int ((v:Nat):Int) tk) ((S.map λ v=>L.idxOf v).filterMap λ i=>es[i]?) S
 | [],_=>.nil
 | v :: S,hs=>by
  obtain ⟨e,a,b⟩:=h.at (hs v List.mem_cons_self)
  rw [List.map_cons,List.filterMap_cons_some a]
  exact .cons b (c9I h S λ u hu=>hs u (List.mem_cons_of_mem _ hu))
theorem b2X {es:Array (Int × Value)} {L:List Nat} {m f mv:Nat} {led plain:Bool} (hm:15 <= m) (hE:Es es L) (nd:L.Nodup) (hlt:∀ v ∈ L,v < 16) :
  ∃ order:Array Nat,SetTable.laid m f mv led plain (es.map (·.1)) = some ({ mask:=m,place:=(upTo m L).toArray,dummies:=#[],finger:=f,led:=led,moves:=mv,plain:=plain },order) /\
   Es (order.filterMap (es[·]?)) (upTo m L)/\coversAll order es.size = true:=by
 have hle:∀ v ∈ L,v <= m:=λ v hv=>by have:=hlt v hv; omega
 have O0:Owns m (Array.replicate (m + 1) none) []:=⟨by simp,λ j hj=>by simp [Array.getD]⟩
 obtain ⟨ow,O,e⟩:=c2F hm L [] _ O0 (by simpa using nd) hlt
 rw [List.nil_append] at O e
 have ec:SetTable.layClean m (es.map (·.1)) = some ow:=by
  unfold SetTable.layClean
  rw [<- Array.foldl_toList,hE.hashes]
  have e':=e
  rw [List.length_nil] at e'
  show Option.map _ (List.foldl _ _ _) = _
  refine Eq.trans (congrArg (Option.map (·.1)) (Eq.trans ?_ e')) rfl
  rfl
 have lv:(List.range (m + 1)).filterMap (λ j=>(ow.getD j none).map (λ k=>(j,k))) = (upTo m L).map λ j=>(j,L.idxOf j):=by
  unfold upTo
  rw [<- c6E]
  apply a4Q
  intro j hj
  rw [O.2 j (by have:=List.mem_range.mp hj; omega)]
  by_cases c:j ∈ L
  ·simp [c]
  ·simp [c]
 refine ⟨((upTo m L).map λ j=>L.idxOf j).toArray,?_,?_,?_⟩
 ·unfold SetTable.laid
  rw [ec]
  show some _ = some _
  have:(List.range (m + 1)).filterMap (λ j=>(ow.getD j none).map (j,·)) = (upTo m L).map λ j=>(j,L.idxOf j):=lv
  rw [this,List.map_map,List.map_map]
  have i1:((λ (x:Nat × Nat)=>x.1) ∘ λ j=>(j,L.idxOf j)) = λ j=>j:=rfl
  have i2:((λ (x:Nat × Nat)=>x.2) ∘ λ j=>(j,L.idxOf j)) = λ j=>L.idxOf j:=rfl
  rw [i1,i2,List.map_id']
 ·unfold Es
  rw [Array.toList_filterMap]
  exact c9I hE (upTo m L) λ v hv=>(a6K hle).mp hv
 ·unfold coversAll
  rw [List.isPerm_iff,hE.len]
  have p:=(a4T hle nd).map λ v=>L.idxOf v
  rw [c6D nd] at p
  exact p
theorem b8P {m:Nat} {L:List Nat} (h:∀ v ∈ L,v < 16) (hm:15 <= m) (nd:L.Nodup):(upTo m L).length = L.length:=(a4T (λ v hv=>by have:=h v hv; omega) nd).length_eq
theorem a5X {n:Nat} (h:n < 2 ^ 40):n < SetTable.sizeAbove n:=by
 have go:∀ fuel size,n < size * 2 ^ fuel->n < SetTable.sizeAbove.go n fuel size:=by
  intro fuel
  induction fuel with
  | zero=>intro size h; unfold SetTable.sizeAbove.go; simpa using h
  | succ f ih =>
   intro size h
   unfold SetTable.sizeAbove.go
   split
   ·exact ih _ (by rw [Nat.pow_succ] at h; rw [Nat.mul_assoc,Nat.mul_comm 2]; exact h)
   ·omega
 exact go 64 8 (by omega)
theorem a5Y {n:Nat} (h:8 <= n):16 <= SetTable.sizeAbove n:=by
 have go:∀ fuel size,16 <= size->16 <= SetTable.sizeAbove.go n fuel size:=by
  intro fuel
  induction fuel with
  | zero=>intro size h; unfold SetTable.sizeAbove.go; exact h
  | succ f ih =>
   intro size h
   unfold SetTable.sizeAbove.go
   split
   ·exact ih _ (by omega)
   ·exact h
 unfold SetTable.sizeAbove
 unfold SetTable.sizeAbove.go
 rw [if_pos h]
 exact go 63 _ (by omega)
theorem Tb.fits {B:Bool} {t:SetTable} {L:List Nat} (T:Tb B t L):t.fits L.length = true:=by
 unfold SetTable.fits SetTable.fill
 have:=T.sz
 rw [T.dm]
 rcases T.sh with ⟨a,b⟩ | ⟨a,b,c⟩ <;> simp [this] <;> omega
theorem b2Y {B:Bool} {L:List Nat} {m f mv:Nat} (hm:15 <= m) (nd:L.Nodup) (hlt:∀ v ∈ L,v < 16) (hr:L.length * 5 < m * 3) :
  Tb B { mask:=m,place:=(upTo m L).toArray,dummies:=#[],finger:=f,led:=!B,moves:=mv,plain:=true } (upTo m L) where
 dm:=rfl
 pl:=rfl
 led:=rfl
 up:=by simpa using b2W m L
 sz:=by simp
 nd:=a6Z (b2W m L)
 lt:=λ v hv=>hlt v ((a6K (λ v hv=>by have:=hlt v hv; omega)).mp hv)
 sh:=.inr ⟨hm,by simp,by rw [b8P hlt hm nd]; exact hr⟩
theorem c2G {B:Bool} {t:SetTable} {es:Array (Int × Value)} {L:List Nat} {n:Nat} (hp:t.plain = true) (hl:t.led = !B) (hE:Es es L) (nd:L.Nodup) (hlt:∀ v ∈ L,v < 16) (hn:8 <= n) (h2:2 * L.length <= n) (hb:n < 2 ^ 40) :
  ∃ es' t' L',relayAll t es n = (es',t',false)/\Es es' L'/\Tb B t' L'/\L'.Perm L:=by
 have a1:=a5X hb
 have a2:=a5Y hn
 have hm:15 <= SetTable.sizeAbove n - 1:=by omega
 obtain ⟨order,e,hE',hc⟩:=b2X (f:=t.finger) (mv:=t.movedTo (SetTable.sizeAbove n - 1)) (led:=!B) (plain:=true) hm hE nd hlt
 have T:=b2Y (B:=B) (f:=t.finger) (mv:=t.movedTo (SetTable.sizeAbove n - 1)) hm nd hlt (by omega)
 refine ⟨_,_,_,?_,hE',T,a4T (λ v hv=>by have:=hlt v hv; omega) nd⟩
 unfold relayAll SetTable.relaid
 rw [hp,hl,e]
 dsimp only
 have z:=hE'.len
 rw [hc,z,T.fits]
 rfl
end Sm
set_option maxHeartbeats 1000000
namespace Sm
open PySem
abbrev setO (es:Array (Int × Value)) (ep:Nat) (t:SetTable):Obj:={ cls:=.type "set", dict:=none,data:=.set es ep t,slots:=#[] }
def SetAt (B:Bool) (h:Heap) (a:Addr) (L:List Nat):Prop:=∃ es ep t,h.get? a = some (setO es ep t)/\Es es L/\Tb B t L
def Dense (h:Heap) (a:Addr):Prop:=∃ es ep t,h.get? a = some (setO es ep t)/\(t.mask = 7\/5 <= es.size)
theorem Dense.keep {h h':Heap} {a:Addr} (S:Dense h a) (k:∀ o,h.get? a = some o->h'.get? a = some o):Dense h' a :=
 let ⟨es,ep,t,ho,r⟩:=S; ⟨es,ep,t,k _ ho,r⟩
theorem SetAt.keep {B:Bool} {h h':Heap} {a:Addr} {L:List Nat} (S:SetAt B h a L) (k:∀ o,h.get? a = some o->h'.get? a = some o):SetAt B h' a L :=
 let ⟨es,ep,t,ho,r⟩:=S; ⟨es,ep,t,k _ ho,r⟩
theorem Tb.len {B:Bool} {t:SetTable} {L:List Nat} (T:Tb B t L):L.length <= 16:=by
 have:=b1A L (List.range 16) T.nd λ x hx=>List.mem_range.mpr (T.lt x hx)
 simpa using this
theorem b8Q:∀ v:Nat,v < 16->hashInt ((v:Nat):Int) = ((v:Nat):Int):=by decide +kernel
theorem Es.elems {prog:Program} {w:World} {es:Array (Int × Value)} {L:List Nat} (h:Es es L) (lt:∀ v ∈ L,v < 16):ElemsOf (intKind prog w) es.toList:=by
 unfold Es at h
 generalize es.toList = l at h
 induction h with
 | nil=>intro e he; simp at he
 | @cons x y xs ys r _ ih =>
  intro e he
  rcases List.mem_cons.mp he with rfl | he
  ·obtain ⟨tk,e2⟩:=r.2
   refine ⟨⟨((y:Nat):Int),?_,?_⟩,?_⟩
   ·show Value.isInt _ _ = true
    rw [e2]; simp [Value.isInt]
   ·rw [r.1]; exact (b8Q y (lt y List.mem_cons_self)).symm
   ·rw [e2]; rfl
  ·exact ih (λ v hv=>lt v (List.mem_cons_of_mem _ hv)) e he
theorem Es.find {es:Array (Int × Value)} {L:List Nat} (h:Es es L) (v:Nat):(es.toList.findIdx? λ e=>Value.isInt ((v:Nat):Int) e.2).isSome = decide (v ∈ L):=by
 unfold Es at h
 generalize es.toList = l at h
 induction h with
 | nil=>simp
 | @cons x y xs ys r _ ih =>
  obtain ⟨tk,e2⟩:=r.2
  rw [List.findIdx?_cons,e2]
  by_cases c:v = y
  ·subst c; simp [Value.isInt]
  ·have:Value.isInt ((v:Nat):Int) (.int ((y:Nat):Int) tk) = false:=by simp [Value.isInt]; omega
   rw [this]
   simp only [Bool.false_eq_true,if_false,Option.isSome_map]
   rw [ih]
   simp [c]
section
variable {prog:Program} {w:World} {A:Around} {E:Value->Shared->Prop} {s:Shared} {B:Bool} {a:Addr} {L:List Nat}
theorem c6F {es:Array (Int × Value)} {ep:Nat} {t:SetTable} {v tk:Nat} {ad:Bool} {Q:ScanMet->Shared->Prop} (ho:s.heap.get? a = some (setO es ep t)) (hE:Es es L) (T:Tb B t L) (hv:v < 16)
  (h1:v ∈ L->∀ j,Q (.found j) s) (h2:v ∉ L->Q .absent s):wpAny (model prog w) A (setScan a (.int ((v:Nat):Int) tk) ((v:Nat):Int) ad es) Q E s:=by
 have hf:t.fits es.size = true:=by rw [hE.len]; exact T.fits
 have sc:=wpAny_setScan_of (prog:=prog) (w:=w) (A:=A) (E:=E) (s:=s) (knd:=intKind prog w) (k:=((v:Nat):Int)) (x:=.int ((v:Nat):Int) tk) (adding:=ad) (Q:=Q) (by simp [intKind,Value.isInt]) ho rfl hf (hE.elems T.lt) (by
  have q:=hE.find v
  have e:(λ e:Int × Value=>(intKind prog w).is ((v:Nat):Int) e.2) = λ e=>Value.isInt ((v:Nat):Int) e.2:=rfl
  rw [e]
  cases c:es.toList.findIdx? (λ e=>Value.isInt ((v:Nat):Int) e.2) with
  | none=>rw [c] at q; exact h2 (of_decide_eq_false q.symm)
  | some j=>rw [c] at q; exact h1 (of_decide_eq_true q.symm) _)
 have e:(intKind prog w).hash ((v:Nat):Int) = ((v:Nat):Int):=b8Q v hv
 rw [e] at sc
 exact sc
theorem a3P {h:Heap} {es es':Array (Int × Value)} {ep:Nat} {t t':SetTable} (ho:h.get? a = some (setO es ep t)):(h.update a (Obj.putSet es' t')).get? a = some (setO es' (ep + 1) t'):=by
 have:=Heap.get?_update_self (Obj.putSet es' t') ho (by rw [putSet_of es' t' rfl]; rfl)
 rw [putSet_of es' t' rfl] at this
 exact this
theorem c6G (prog:Program) (w:World) {es:Array (Int × Value)} {t:SetTable} {v tk:Nat} (hE:Es es L) (T:Tb B t L):byScan (.int ((v:Nat):Int) tk) es = true :=
 byScan_of (knd:=intKind prog w) rfl (by rw [hE.len]; have:=T.len; unfold scanBound; omega) (hE.elems T.lt)
theorem c4O {v tk:Nat} {Q:Bool->Shared->Prop} (S:SetAt B s.heap a L) (hv:v < 16)
  (h:∀ b h' L',Heap.SameBut a s.heap h'->SetAt B h' a L'->(∀ u,u ∈ L' ↔ u = v\/u ∈ L)->(Dense s.heap a->Dense h' a)->Q b { s with heap:=h' }) :
  wpAny (model prog w) A (setAddHashed a (.int ((v:Nat):Int) tk) ((v:Nat):Int)) Q E s:=by
 obtain ⟨es,ep,t,ho,hE,T⟩:=S
 have hf:t.fits es.size = true:=by rw [hE.len]; exact T.fits
 unfold setAddHashed setAddHashedIn
 refine wpAny_holding (wpAny_bind (wpAny_setState_of ho rfl hf ?_))
 dsimp only
 rw [c6G prog w hE T]
 simp only [↓reduceIte]
 unfold setAddByScan
 refine wpAny_bind ?_
 refine wpAny_bind (wpAny_rule ?_)
 refine wpAny_bind (c6F ho hE T hv (λ hm j=>?_) λ hm=>?_)
 ·dsimp only
  refine wpAny_pure (wpAny_pure ?_)
  have q:=h false s.heap L (Heap.SameBut.refl a s.heap) ⟨es,ep,t,ho,hE,T⟩ (λ u=>⟨.inr,λ c=>c.elim (λ e=>e ▸ hm) id⟩) id
  exact q
 ·dsimp only
  obtain ⟨t1,es1,p,e1,hE1,dm,pl,ld,mk,_,_,up,sz,own⟩:=c9H (x:=.int ((v:Nat):Int) tk) T hE hv hm ⟨tk,rfl⟩
  rw [e1]
  dsimp only
  refine wpAny_bind (wpAny_pure ?_)
  rw [pl]
  refine wpAny_bind (wpAny_pure ?_)
  simp only [↓reduceIte]
  have mem:∀ u,u ∈ L.take p ++ v :: L.drop p ↔ u = v\/u ∈ L:=λ u=>by
   rw [List.mem_append,List.mem_cons]
   have e:u ∈ L ↔ u ∈ L.take p\/u ∈ L.drop p:=by rw [<- List.mem_append,List.take_append_drop]
   rw [e]
   constructor
   ·rintro (c | c | c)
    ·exact .inr (.inl c)
    ·exact .inl c
    ·exact .inr (.inr c)
   ·rintro (c | c | c)
    ·exact .inr (.inl c)
    ·exact .inl c
    ·exact .inr (.inr c)
  have nd1:(L.take p ++ v :: L.drop p).Nodup:=by
   have pm:(L.take p ++ v :: L.drop p).Perm (v :: L):=by
    have:L.take p ++ L.drop p = L:=List.take_append_drop p L
    exact List.perm_middle.trans (by rw [this])
   exact pm.nodup_iff.mpr (List.nodup_cons.mpr ⟨hm,T.nd⟩)
  have lt1:∀ u ∈ L.take p ++ v :: L.drop p,u < 16:=λ u hu=>((mem u).mp hu).elim (λ e=>e ▸ hv) (T.lt u)
  have ln1:(L.take p ++ v :: L.drop p).length = L.length + 1:=by
   rw [List.length_append,List.length_cons,List.length_take,List.length_drop]; omega
  have fl:t1.fill = L.length + 1:=by unfold SetTable.fill; rw [dm,sz]; rfl
  have l16:=T.len
  have z1:es1.size = L.length + 1:=by rw [hE1.len,ln1]
  refine wpAny_bind (wpAny_storeSet_of ho rfl ?_ (by rw [z1,sizeLine_eq]; omega))
  have ho1:=a3P (es':=es1) (t':=t1) ho
  cases tf:t1.tooFull with
  | false =>
   simp only [Bool.not_false,Bool.and_false,Bool.false_eq_true,if_false]
   refine wpAny_pure (wpAny_pure ?_)
   refine h true _ _ (Heap.SameBut.update ..) ⟨es1,ep + 1,t1,ho1,hE1,⟨dm,pl,ld,up,by rw [ln1,sz],nd1,lt1,?_⟩⟩ mem (λ ⟨es0,ep0,t0,ho0,d⟩=>⟨es1,ep + 1,t1,ho1,by
    rw [ho] at ho0; cases ho0
    rw [mk,z1]; have:=hE.len; omega⟩)
   unfold SetTable.tooFull at tf
   have tf':=of_decide_eq_false tf
   rw [fl,mk] at tf'
   rw [ln1,mk]
   rcases T.sh with ⟨m7,l4⟩ | ⟨m15,pe,_⟩
   ·refine .inl ⟨m7,by omega⟩
   ·exact .inr ⟨m15,own m15,by omega⟩
  | true =>
   simp only [Bool.not_false,Bool.and_self,if_true]
   unfold SetTable.tooFull at tf
   have tf':=of_decide_eq_true tf
   rw [fl,mk] at tf'
   have five:5 <= L.length + 1:=by
    rcases T.sh with ⟨m7,l4⟩ | ⟨m15,pe,_⟩ <;> omega
   have gr:SetTable.grown es1.size = (L.length + 1) * 4:=by
    unfold SetTable.grown
    rw [z1,if_neg (by omega)]
   obtain ⟨es2,t2,L2,e2,hE2,T2,pm⟩:=c2G (t:=t1) (n:=SetTable.grown es1.size) pl ld hE1 nd1 lt1 (by rw [gr]; omega) (by rw [gr,ln1]; omega) (by rw [gr]; omega)
   rw [e2]
   dsimp only
   refine wpAny_bind (wpAny_pure ?_)
   refine wpAny_bind (wpAny_storeSet_of ho1 rfl ?_ (by rw [hE2.len,pm.length_eq,ln1,sizeLine_eq]; omega))
   refine wpAny_pure (wpAny_pure ?_)
   exact h true _ L2 ((Heap.SameBut.update ..).trans (Heap.SameBut.update ..)) ⟨es2,_,t2,a3P ho1,hE2,T2⟩ (λ u=>(pm.mem_iff).trans (mem u)) λ _=>⟨es2,_,t2,a3P ho1,.inr (by rw [hE2.len,pm.length_eq,ln1]; exact five)⟩
end
end Sm
set_option maxHeartbeats 2000000
namespace Sm
open PySem
abbrev byT (w:World):Bool:=w.params.followText "set-order"
theorem a8F {α:Type}:∀ (l:List α) (i:Nat) (h:i < l.length),(l[i] :: l.eraseIdx i).Perm l
 | _ :: r,0,_=>.refl _
 | x :: r,i + 1,h=>by
  have q:=a8F r i (by simpa using h)
  rw [List.getElem_cons_succ,List.eraseIdx_cons_succ]
  exact (List.Perm.swap x (r[i]'(by simpa using h)) (r.eraseIdx i)).trans (q.cons x)
theorem c6H {α:Type} (nx:Nat->Nat):∀ (fuel k:Nat) (left:List α) (out:Array α),left.length <= fuel->(pickOrder.go nx fuel k left out).toList.Perm (out.toList ++ left):=by
 intro fuel
 induction fuel with
 | zero =>
  intro k left out h
  have:left = []:=List.length_eq_zero_iff.mp (by omega)
  subst this
  unfold pickOrder.go
  simp
 | succ f ih =>
  intro k left out h
  unfold pickOrder.go
  by_cases c:left = []
  ·subst c; simp
  ·have pos:0 < left.length:=List.length_pos_iff.mpr c
   have lt:=Nat.mod_lt (nx k) pos
   rw [List.getElem?_eq_getElem lt]
   dsimp only
   refine (ih (k + 1) _ _ (by rw [List.length_eraseIdx]; split <;> omega)).trans ?_
   rw [Array.toList_push,List.append_assoc]
   exact List.Perm.append_left _ (a8F left _ lt)
theorem b1B {α:Type} (nx:Nat->Nat) (xs:Array α):(pickOrder nx xs).toList.Perm xs.toList:=by
 have:=c6H nx xs.size 0 xs.toList #[] (by simp)
 unfold pickOrder
 simpa using this
theorem b2Z (a:Addr):setWalk a = (do
 let (xs,c,tb) <- setState a
 if <- setsByText then
  let q <- ask
  return pickOrder (q.params.setOrder a c) xs
 if !tb.plain && xs.size > 1 then return (<- drawOrder xs.size xs.toList).toArray
 (do if !tb.led && xs.size > 1 then unsupported "set:maker-not-led" : Sem Unit)
 return xs):=rfl
theorem Es.perm {es:Array (Int × Value)} {L:List Nat} (h:Es es L) {es':List (Int × Value)} (p:es'.Perm es.toList):∃ L',Paired (λ e v=>e.1 = ((v:Nat):Int)/\∃ tk,e.2 = Value.int ((v:Nat):Int) tk) es' L'/\L'.Perm L:=by
 refine ⟨es'.map λ e=>e.1.toNat,?_,?_⟩
 ·have all:∀ e ∈ es.toList,∃ v:Nat,e.1 = ((v:Nat):Int)/\∃ tk,e.2 = Value.int ((v:Nat):Int) tk:=by
   unfold Es at h
   generalize es.toList = l at h
   clear p
   induction h with
   | nil=>intro e he; simp at he
   | cons r _ ih =>
    intro e he
    rcases List.mem_cons.mp he with rfl | he
    ·exact ⟨_,r⟩
    ·exact ih e he
  have all':∀ e ∈ es',∃ v:Nat,e.1 = ((v:Nat):Int)/\∃ tk,e.2 = Value.int ((v:Nat):Int) tk:=λ e he=>all e (p.mem_iff.mp he)
  clear p
  induction es' with
  | nil=>exact .nil
  | cons e r ih =>
   obtain ⟨v,e1,e2⟩:=all' e List.mem_cons_self
   rw [List.map_cons]
   refine .cons ?_ (ih λ x hx=>all' x (List.mem_cons_of_mem _ hx))
   rw [e1]
   exact ⟨rfl,e2⟩
 ·refine (p.map λ e=>e.1.toNat).trans ?_
  unfold Es at h
  generalize es.toList = l at h
  have:l.map (λ e=>e.1.toNat) = L:=by
   induction h with
   | nil=>rfl
   | cons r _ ih=>rw [List.map_cons,ih,r.1]; rfl
  rw [this]
section
variable {prog:Program} {w:World} {A:Around} {E:Value->Shared->Prop} {s:Shared} {a:Addr} {L:List Nat}
theorem a1T {es:Array (Int × Value)} {ep:Nat} {t:SetTable} {B:Bool} {Q:(Array (Int × Value) × Nat × SetTable)->Shared->Prop} (ho:s.heap.get? a = some (setO es ep t)) (hE:Es es L) (T:Tb B t L) (h:Q (es,ep,t) s) :
  wpAny (model prog w) A (setState a) Q E s:=wpAny_setState_of ho rfl (by rw [hE.len]; exact T.fits) h
theorem a2E {Q:Bool->Shared->Prop} (h:Q (byT w) s):wpAny (model prog w) A setsByText Q E s:=by
 unfold setsByText
 exact wpAny_bind (wpAny_askSetting (wpAny_pure h))
theorem c6I {es:Array (Int × Value)} {ep:Nat} {t:SetTable} {Q:Array (Int × Value)->Shared->Prop} (ho:s.heap.get? a = some (setO es ep t)) (hE:Es es L) (T:Tb (byT w) t L)
  (h:∀ es',es'.toList.Perm es.toList->Q es' s):wpAny (model prog w) A (setWalk a) Q E s:=by
 rw [b2Z]
 refine wpAny_bind (a1T ho hE T ?_)
 refine wpAny_bind (a2E ?_)
 have pl:=T.pl
 have ld:=T.led
 cases c:byT w with
 | true =>
  simp only [if_true]
  exact wpAny_bind (wpAny_askSetting (wpAny_pure (h _ (b1B _ _))))
 | false =>
  rw [c] at ld
  simp only [pl,ld,Bool.not_true,Bool.not_false,Bool.false_and,Bool.false_eq_true,if_false]
  first | exact wpAny_bind (wpAny_pure (wpAny_pure (h _ .rfl))) | exact wpAny_pure (h _ .rfl)
theorem b8R {es:Array (Int × Value)} {ep:Nat} {t:SetTable} {others:List Addr} {f:Option Addr} {Q:Array (Int × Value)->Shared->Prop} (ho:s.heap.get? a = some (setO es ep t)) (hE:Es es L) (T:Tb (byT w) t L)
  (h:∀ es',es'.toList.Perm es.toList->Q es' s):wpAny (model prog w) A (setWalkUnseen a others f) Q E s:=by
 unfold setWalkUnseen
 refine wpAny_bind (a1T ho hE T ?_)
 refine wpAny_bind (a2E ?_)
 have e:(byT w || (t.led && t.plain) || decide (es.size <= 1)) = true:=by rw [T.led,T.pl]; cases byT w <;> rfl
 dsimp only
 rw [if_pos e]
 exact c6I ho hE T h
def b5Z (es:Array (Int × Value)) (laid:Option (SetTable × Array Nat)):Sem (Array (Int × Value) × SetTable):=do
 let some (t,order):=laid
  | unsupported "internal:set-table-without-room"
 if (order.filterMap (es[·]?)).size != es.size then unsupported "internal:set-table-lost-an-element"
 pure (order.filterMap (es[·]?),t)
theorem b4C (a:Addr) (n:Nat):setRelay a n = (do
 let (es,_,t) <- setState a
 if SetTable.sizeAbove n > sizeLine then unsupported "set:memory"
 let (es,t) <- b5Z es (t.relaid (es.map (·.1)) n)
 storeSet a es t):=rfl
theorem b4D {es:Array (Int × Value)} {t:SetTable} {order:Array Nat} {S:List Nat} {Q:Array (Int × Value) × SetTable->Shared->Prop} (hE':Es (order.filterMap (es[·]?)) S) (hz:es.size = S.length) (h:Q (order.filterMap (es[·]?),t) s) :
  wpAny (model prog w) A (b5Z es (some (t,order))) Q E s:=by
 unfold b5Z
 dsimp only
 have e:((order.filterMap (es[·]?)).size != es.size) = false:=by rw [hE'.len,hz]; simp
 simp only [e,Bool.false_eq_true,if_false]
 first | exact wpAny_bind (wpAny_pure (wpAny_pure h)) | exact wpAny_pure h
theorem c2H {n:Nat} (h:n <= 64):SetTable.sizeAbove n <= 128:=by
 have:∀ n,n <= 64->SetTable.sizeAbove n <= 128:=by decide +kernel
 exact this n h
theorem c6J {more:Nat} {Q:Unit->Shared->Prop} {B:Bool} (S:SetAt B s.heap a L) (hm:more <= 16)
  (h:∀ h' es ep t L',Heap.SameBut a s.heap h'->h'.get? a = some (setO es ep t)->Es es L'->Tb B t L'->L'.Perm L->(L.length + more) * 5 < t.mask * 3->Q () { s with heap:=h' }):wpAny (model prog w) A (setRoomFor a more) Q E s:=by
 obtain ⟨es,ep,t,ho,hE,T⟩:=S
 unfold setRoomFor
 refine wpAny_bind (a1T ho hE T ?_)
 have fl:t.fill = L.length:=by unfold SetTable.fill; rw [T.dm,T.sz]; rfl
 have l16:=T.len
 unfold SetTable.roomFor
 dsimp only
 rw [fl,T.sz]
 by_cases c:(L.length + more) * 5 ≥ t.mask * 3
 ·rw [if_pos c]
  dsimp only
  rw [b4C]
  refine wpAny_bind (a1T ho hE T ?_)
  have five:5 <= L.length + more:=by
   rcases T.sh with ⟨m7,_⟩ | ⟨m15,_,_⟩ <;> omega
  have b1:=a5X (n:=(L.length + more) * 2) (by omega)
  have b2:=a5Y (n:=(L.length + more) * 2) (by omega)
  have b3:=c2H (n:=(L.length + more) * 2) (by omega)
  dsimp only
  rw [if_neg (by rw [sizeLine_eq]; omega)]
  have hm':15 <= SetTable.sizeAbove ((L.length + more) * 2) - 1:=by omega
  obtain ⟨order,e,hE',hc⟩:=b2X (f:=t.finger) (mv:=t.movedTo (SetTable.sizeAbove ((L.length + more) * 2) - 1)) (led:=t.led) (plain:=t.plain) hm' hE T.nd T.lt
  unfold SetTable.relaid
  rw [e]
  have lz:=b8P T.lt hm' T.nd
  refine wpAny_bind (b4D hE' (by rw [hE.len,lz]) ?_)
  refine wpAny_storeSet_of ho rfl ?_ (by rw [hE'.len,lz,sizeLine_eq]; omega)
  have T':=b2Y (B:=B) (f:=t.finger) (mv:=t.movedTo (SetTable.sizeAbove ((L.length + more) * 2) - 1)) hm' T.nd T.lt (by omega)
  rw [<- T.led,<- T.pl] at T'
  exact h _ _ _ _ _ (Heap.SameBut.update ..) (a3P ho) hE' T' (a4T (λ v hv=>by have:=T.lt v hv; omega) T.nd) (by show _ < (SetTable.sizeAbove ((L.length + more) * 2) - 1) * 3; omega)
 ·rw [if_neg c]
  refine wpAny_pure ?_
  exact h s.heap es ep t L (Heap.SameBut.refl a s.heap) ho hE T .rfl (by omega)
end
end Sm
set_option maxHeartbeats 2000000
namespace Sm
open PySem
theorem c2I (sA oA:Addr) (each:Sem Unit):setMerge sA oA each = (do
 if sA == oA then return
 let (eo,epoch,to) <- setState oA
 if eo.isEmpty then return
 setRoomFor sA eo.size
 let (_,_,ts) <- setState sA
 match ts.road to with
 | .slotForSlot =>
  storeSet sA eo { to with finger:=ts.finger,led:=ts.led && to.led,moves:=ts.moves,plain:=ts.plain && to.plain }
 | .clean =>
  let (es,t) <- b5Z eo (SetTable.laid ts.mask ts.finger ts.moves (ts.led && to.led) (ts.plain && to.plain) (eo.map (·.1)))
  storeSet sA es t
 | .oneByOne =>
  for (h,x) in <- setWalkUnseen oA [sA] (some sA) do
   let _ <- holding [x] (setAddHashed sA x h)
   each
   if (<- setState oA).2.1 != epoch then unsupported "set.changed-during-merge"):=rfl
section
variable {prog:Program} {w:World} {A:Around} {E:Value->Shared->Prop} {s:Shared} {sA oA:Addr} {L1 L2:List Nat}
theorem b4E {each:Sem Unit} {Q:Unit->Shared->Prop} (ne:sA ≠ oA) (S1:SetAt (byT w) s.heap sA L1) (S2:SetAt (byT w) s.heap oA L2) (D:Dense s.heap oA)
  (he:∀ (s':Shared) (Q':Unit->Shared->Prop),(∀ o,s.heap.get? oA = some o->s'.heap.get? oA = some o)->Q' () s'->wpAny (model prog w) A each Q' E s')
  (h:∀ h' L,Heap.SameBut sA s.heap h'->SetAt (byT w) h' sA L->(∀ u,u ∈ L ↔ u ∈ L1\/u ∈ L2)->Q () { s with heap:=h' }):wpAny (model prog w) A (setMerge sA oA each) Q E s:=by
 obtain ⟨eo,ep,to,ho,hE,T⟩:=S2
 rw [c2I]
 have nb:(sA == oA) = false:=beq_eq_false_iff_ne.mpr ne
 rw [nb]
 simp only [Bool.false_eq_true,if_false]
 refine wpAny_bind (a1T ho hE T ?_)
 dsimp only
 have hz:=hE.len
 have l16:=T.len
 by_cases c:eo.isEmpty = true
 ·rw [if_pos c]
  have l0:L2.length = 0:=by rw [<- hz]; simpa using c
  have:L2 = []:=List.length_eq_zero_iff.mp l0
  subst this
  exact wpAny_pure (h s.heap L1 (Heap.SameBut.refl _ _) S1 λ u=>by simp)
 rw [if_neg c]
 refine wpAny_bind (c6J S1 (by omega) λ h1 es1 ep1 t1 L1' sb1 ho1 hE1 T1 pm hr=>?_)
 have ho':h1.get? oA = some (setO eo ep to):=by rw [sb1.2 oA (Ne.symm ne)]; exact ho
 refine wpAny_bind (a1T (s:={ s with heap:=h1 }) ho1 hE1 T1 ?_)
 dsimp only
 have fl:t1.fill = L1'.length:=by unfold SetTable.fill; rw [T1.dm,T1.sz]; rfl
 unfold SetTable.road
 rw [fl,pm.length_eq]
 have ld:(t1.led && to.led) = !byT w:=by rw [T1.led,T.led]; simp
 have pl:(t1.plain && to.plain) = true:=by rw [T1.pl,T.pl]; rfl
 by_cases e0:L1.length = 0
 ·have n1:L1 = []:=List.length_eq_zero_iff.mp e0
  have nb:(L1.length != 0) = false:=by rw [e0]; rfl
  rw [nb]
  simp only [Bool.false_eq_true,if_false]
  have dmt:to.dummies.isEmpty = true:=by rw [T.dm]; rfl
  by_cases em:t1.mask = to.mask
  ·have:(t1.mask == to.mask && to.dummies.isEmpty) = true:=by rw [em,dmt]; simp
   rw [this]
   simp only [if_true]
   refine wpAny_storeSet_of (s:={ s with heap:=h1 }) ho1 rfl ?_ (by rw [hz,sizeLine_eq]; omega)
   refine h _ L2 (sb1.trans (Heap.SameBut.update ..)) ⟨eo,_,_,a3P ho1,hE,⟨T.dm,pl,ld,T.up,T.sz,T.nd,T.lt,T.sh⟩⟩ λ u=>by rw [n1]; simp
  ·have:(t1.mask == to.mask && to.dummies.isEmpty) = false:=by rw [beq_eq_false_iff_ne.mpr em]; rfl
   rw [this]
   simp only [Bool.false_eq_true,if_false]
   have m15:15 <= t1.mask:=by
    obtain ⟨es0,ep0,t0,ho0,d⟩:=D
    rw [ho] at ho0
    cases ho0
    rcases T1.sh with ⟨m7,_⟩ | ⟨m15,_⟩
    ·rw [m7] at hr
     rcases d with d | d
     ·exact absurd (m7.trans d.symm) em
     ·rw [hz] at hr; omega
    ·exact m15
   obtain ⟨order,e,hE',hc⟩:=b2X (f:=t1.finger) (mv:=t1.moves) (led:=t1.led && to.led) (plain:=t1.plain && to.plain) m15 hE T.nd T.lt
   rw [e]
   have lz:=b8P T.lt m15 T.nd
   refine wpAny_bind (b4D hE' (by rw [hz,lz]) ?_)
   refine wpAny_storeSet_of (s:={ s with heap:=h1 }) ho1 rfl ?_ (by rw [hE'.len,lz,sizeLine_eq]; omega)
   have T':=b2Y (B:=byT w) (f:=t1.finger) (mv:=t1.moves) m15 T.nd T.lt (by rw [hz] at hr; omega)
   rw [<- ld,<- pl] at T'
   refine h _ _ (sb1.trans (Heap.SameBut.update ..)) ⟨_,_,_,a3P ho1,hE',?_⟩ λ u=>?_
   ·rw [ld] at T' ⊢
    exact T'
   ·rw [n1,a6K (λ v hv=>by have:=T.lt v hv; omega)]; simp
 ·have nb:(L1.length != 0) = true:=by simp [e0]
  rw [nb]
  simp only [if_true]
  refine wpAny_bind (b8R (s:={ s with heap:=h1 }) ho' hE T λ es' pe=>?_)
  obtain ⟨R,hR,pR⟩:=hE.perm pe
  refine wpAny_bind ?_
  rw [<- Array.forIn_toList]
  refine wpAny_forIn_list _ (λ rest _ s'=>∃ h' L R,s' = { s with heap:=h' }/\Heap.SameBut sA s.heap h'/\SetAt (byT w) h' sA L/\Paired (λ (e:Int × Value) (v:Nat)=>e.1 = ((v:Nat):Int)/\∃ tk,e.2 = Value.int ((v:Nat):Int) tk) rest R /\
   (∀ v ∈ R,v < 16)/\∀ u,(u ∈ L\/u ∈ R) ↔ (u ∈ L1\/u ∈ L2)) _ ?_ ?_ _ _ ⟨h1,L1',R,rfl,sb1,⟨es1,ep1,t1,ho1,hE1,T1⟩,hR,λ v hv=>T.lt v (pR.mem_iff.mp hv),λ u=>by rw [pm.mem_iff,pR.mem_iff]⟩
  ·rintro ⟨hh,x⟩ rest b s' ⟨h',L,R',rfl,sb,S,hP,lt,mem⟩
   cases hP with
   | @cons _ v _ R'' r t =>
    obtain ⟨e1,tk,e2⟩:=r
    dsimp only at e1 e2
    subst e1; subst e2
    dsimp only
    refine wpAny_bind (wpAny_holding (c4O (s:={ s with heap:=h' }) S (lt v List.mem_cons_self) λ b2 h2 L' sb2 S' mem' _=>?_))
    have sb3:=sb.trans sb2
    have oo:h2.get? oA = some (setO eo ep to):=by rw [sb3.2 oA (Ne.symm ne)]; exact ho
    refine wpAny_bind (he _ _ (λ o q=>by rw [ho] at q; cases q; exact oo) ?_)
    refine wpAny_bind (a1T (s:={ s with heap:=h2 }) oo hE T ?_)
    simp only [bne_self_eq_false,Bool.false_eq_true,if_false]
    refine wpAny_pure ⟨h2,L',R'',rfl,sb3,S',t,λ u hu=>lt u (List.mem_cons_of_mem _ hu),λ u=>?_⟩
    rw [mem' u,<- mem u,List.mem_cons]
    constructor
    ·rintro ((q | q) | q)
     ·exact .inr (.inl q)
     ·exact .inl q
     ·exact .inr (.inr q)
    ·rintro (q | q | q)
     ·exact .inl (.inr q)
     ·exact .inl (.inl q)
     ·exact .inr q
  ·rintro b s' ⟨h',L,R',rfl,sb,S,hP,lt,mem⟩
   cases hP
   exact wpAny_pure (h h' L sb S λ u=>by rw [<- mem u]; simp)
end
end Sm
set_option maxHeartbeats 2000000
namespace Sm
open PySem PySem.Builtin.Frozenset
theorem b4F:isSubtype (.type "set") (.type "set") = pure true:=by rw [isSubtype_type]; kernel_rfl
theorem c2J:entryFor table "set.__or__" = some Builtin.«frozenset.__or__» := entryFor_alias (id':="frozenset.__or__") (by kernel_rfl) rfl (by decide +kernel) (by kernel_rfl)
theorem a8G:entryFor table "set.__iter__" = some Builtin.«frozenset.__iter__» := entryFor_alias (id':="frozenset.__iter__") (by kernel_rfl) rfl (by decide +kernel) (by kernel_rfl)
def b4G (id:String) (l:Addr) (r:Value):Sem Value:=do
 let result <- copyOf l
 if r != .ref l then
  let q <- addrOf result
  holding [result] (updateFrom id q r)
 return result
theorem d1Q (x y:Value):Builtin.«frozenset.__or__» ⟨[x,y],[]⟩ = (do
 let (self,other) <- slot1 "__or__" ⟨[x,y],[]⟩
 if !(<- isAnySet self <&&> isAnySet other) then
  rule s!"frozenset.{"__or__"}.declined"
  return <- ret .notImplemented
 ret (<- b4G s!"frozenset.{"__or__"}" (<- addrOf self) other)):=rfl
section
variable {prog:Program} {w:World} {A:Around} {E:Value->Shared->Prop} {s:Shared} {a b:Addr} {L1 L2:List Nat}
theorem b4H (B:Bool):Tb B (.fresh 0 0 (!B)) []:=⟨rfl,rfl,rfl,.nil,rfl,.nil,λ v h=>by simp at h,.inl ⟨rfl,by simp⟩⟩
theorem c9J {Q:Value->Shared->Prop} (h:Q (.ref s.heap.objs.size) { s with heap:=s.heap.push (setO #[] 0 (.fresh 0 0 (!byT w))) }):wpAny (model prog w) A (newSet (.type "set")) Q E s:=by
 unfold newSet
 refine wpAny_bind (a2E ?_)
 dsimp only
 simp only [newObj]
 exact wpAny_bind (wpAny_alloc (wpAny_pure h))
theorem SetAt.type {B:Bool} (S:SetAt B s.heap a L1):s.TypeIs (.ref a) "set" := let ⟨_,_,_,ho,_⟩:=S; ⟨_,ho,rfl⟩
theorem b8S {B:Bool} {Q:Bool->Shared->Prop} (S:SetAt B s.heap a L1) (h:Q true s):wpAny (model prog w) A (isAnySet (.ref a)) Q E s:=by
 unfold isAnySet orM
 refine wpAny_bind (wpAny_isInstance S.type b4F ?_)
 exact wpAny_pure h
theorem c6K {Q:Value->Shared->Prop} (S:SetAt (byT w) s.heap a L1) (D:Dense s.heap a)
  (h:∀ h' L,(∀ b o,s.heap.get? b = some o->h'.get? b = some o)->SetAt (byT w) h' s.heap.objs.size L->(∀ u,u ∈ L ↔ u ∈ L1)->Q (.ref s.heap.objs.size) { s with heap:=h' }):wpAny (model prog w) A (copyOf a) Q E s:=by
 unfold copyOf baseOf
 refine wpAny_bind (wpAny_bind (wpAny_isInstance S.type b4F (wpAny_pure ?_)))
 simp only [if_true]
 refine wpAny_bind (c9J ?_)
 show wpAny _ _ (do setMerge s.heap.objs.size a; pure (Value.ref s.heap.objs.size)) _ _ _
 have lt:a < s.heap.objs.size:=by
  obtain ⟨_,_,_,ho,_⟩:=S
  exact Heap.lt_size ho
 have k:∀ b o,s.heap.get? b = some o->(s.heap.push (setO #[] 0 (.fresh 0 0 (!byT w)))).get? b = some o:=λ b o e=>Heap.get?_push_of_some _ e
 refine wpAny_bind (b4E (s:={ s with heap:=s.heap.push (setO #[] 0 (.fresh 0 0 (!byT w))) }) (L1:=[]) (Nat.ne_of_gt lt) ⟨#[],0,_,Heap.get?_push_size _ rfl,.nil,b4H _⟩ (S.keep (k a)) (D.keep (k a)) (λ s' Q' _ q=>wpAny_pure q) λ h' L sb S' mem=>?_)
 refine wpAny_pure (h h' L (λ b o e=>?_) S' λ u=>by rw [mem u]; simp)
 have lb:=Heap.lt_size e
 rw [sb.2 b (Nat.ne_of_lt lb)]
 exact k b o e
theorem a9D {es:Array (Int × Value)} {ep:Nat} {t:SetTable} {B:Bool} {Q:Nat->Shared->Prop} (ho:s.heap.get? a = some (setO es ep t)) (hE:Es es L1) (T:Tb B t L1) (h:Q ep s):wpAny (model prog w) A (setEpoch a) Q E s :=
 wpAny_setEpoch_of ho rfl (by rw [hE.len]; exact T.fits) h
theorem c2K {id:String} {Q:Value->Shared->Prop} (ne:a ≠ b) (S1:SetAt (byT w) s.heap a L1) (D1:Dense s.heap a) (S2:SetAt (byT w) s.heap b L2) (D2:Dense s.heap b)
  (h:∀ h' L,(∀ b o,s.heap.get? b = some o->h'.get? b = some o)->SetAt (byT w) h' s.heap.objs.size L->(∀ u,u ∈ L ↔ u ∈ L1\/u ∈ L2)->Q (.ref s.heap.objs.size) { s with heap:=h' }) :
  wpAny (model prog w) A (b4G id a (.ref b)) Q E s:=by
 unfold b4G
 refine wpAny_bind (c6K S1 D1 λ h1 L k S mem=>?_)
 have nb:(Value.ref b != Value.ref a) = true:=by simp [Ne.symm ne]
 rw [nb]
 simp only [if_true]
 have S2':=S2.keep (k b)
 have D2':=D2.keep (k b)
 have lt:b < s.heap.objs.size:=by
  obtain ⟨_,_,_,ho,_⟩:=S2
  exact Heap.lt_size ho
 have S2c:=S2'
 obtain ⟨es,ep,t,ho,hE,T⟩:=S2c
 show wpAny _ _ (holding [Value.ref s.heap.objs.size] (updateFrom id s.heap.objs.size (.ref b)) >>= λ _=>pure (Value.ref s.heap.objs.size)) _ _ _
 refine wpAny_bind (wpAny_holding ?_)
 unfold updateFrom
 refine wpAny_bind (b8S (s:={ s with heap:=h1 }) S2' ?_)
 simp only [if_true]
 show wpAny _ _ (merge id s.heap.objs.size b) _ _ _
 unfold merge
 refine wpAny_bind (a9D (s:={ s with heap:=h1 }) ho hE T ?_)
 refine b4E (s:={ s with heap:=h1 }) (Nat.ne_of_gt lt) S S2' D2' (λ s' Q' ks q=>?_) λ h' L' sb S' mem'=>?_
 ·unfold unchanged
  refine wpAny_bind (a9D (s:=s') (ks _ ho) hE T ?_)
  simp only [bne_self_eq_false,Bool.false_eq_true,if_false]
  exact wpAny_pure q
 ·refine wpAny_pure (h h' L' (λ c o e=>?_) S' λ u=>by rw [mem' u,mem u])
  rw [sb.2 c (Nat.ne_of_lt (Heap.lt_size e))]
  exact k c o e
theorem d1R {Q:Value->Shared->Prop} (ne:a ≠ b) (S1:SetAt (byT w) s.heap a L1) (D1:Dense s.heap a) (S2:SetAt (byT w) s.heap b L2) (D2:Dense s.heap b)
  (h:∀ h' L,(∀ b o,s.heap.get? b = some o->h'.get? b = some o)->SetAt (byT w) h' s.heap.objs.size L->(∀ u,u ∈ L ↔ u ∈ L1\/u ∈ L2)->Q (.ref s.heap.objs.size) { s with heap:=h' }) :
  wpAny (model prog w) A (binaryOp .BitOr (.ref a) (.ref b)) Q E s:=by
 refine wpAny_binaryOp_same S1.type S2.type F.fills_set_or F.slot_set_or (wpAny_call_entry F.slot_set_or S1.type c2J ?_ (F.args_set_or_2 _ _))
 rw [d1Q]
 refine wpAny_bind (m:=slot1 "__or__" _) (wpAny_pure ?_)
 dsimp only
 unfold andM
 refine wpAny_bind (wpAny_bind (b8S S1 ?_))
 refine b8S S2 ?_
 simp only [Bool.not_true,Bool.false_eq_true,if_false]
 show wpAny _ _ (b4G _ a (.ref b) >>= λ v=>ret v) _ _ _
 refine wpAny_bind (c2K ne S1 D1 S2 D2 λ h' L k S mem=>?_)
 exact wpAny_pure ⟨_,rfl,by simp,h h' L k S mem⟩
end
end Sm
set_option maxHeartbeats 4000000
namespace Sm
open PySem
theorem slot_si_next:Slot "set_iterator" "__next__" "set_iterator.__next__" := .of (owner:="set_iterator") (n:="__next__") (by rw [typeLookup_type,builtinLookup_eq_fast]; kernel_rfl) (by decide +kernel) (by decide +kernel) (by decide +kernel) (by first | exact .inl (by decide +kernel) | exact .inr (by decide +kernel)) (by rw [isSubtype_type]; kernel_rfl)
theorem a2P:entryFor table "set_iterator.__next__" = some Builtin.«set_iterator.__next__» := entryFor_of_fast (by kernel_rfl)
theorem a2T (a:Value):argsOk "set_iterator.__next__" ⟨[a],[]⟩:=by unfold argsOk; kernel_rfl
theorem a2U:Slot "set_iterator" "__iter__" "set_iterator.__iter__" := .of (owner:="set_iterator") (n:="__iter__") (by rw [typeLookup_type,builtinLookup_eq_fast]; kernel_rfl) (by decide +kernel) (by decide +kernel) (by decide +kernel) (by first | exact .inl (by decide +kernel) | exact .inr (by decide +kernel)) (by rw [isSubtype_type]; kernel_rfl)
theorem a5Z (a:Value):argsOk "set_iterator.__iter__" ⟨[a],[]⟩:=by unfold argsOk; kernel_rfl
end Sm
set_option maxHeartbeats 4000000
namespace Sm
open PySem
theorem a4U:entryFor table "set_iterator.__iter__" = some Builtin.«dict_keyiterator.__iter__» := entryFor_alias (id':="dict_keyiterator.__iter__") (by kernel_rfl) rfl (by decide +kernel) (by kernel_rfl)
def a1F (w:World) (a:Addr) (ep:Nat) (es:Array (Int × Value)):Array (Int × Value):=if byT w = true then pickOrder (w.params.setOrder a ep) es else es
theorem a4I (w:World) (a:Addr) (ep:Nat) (es:Array (Int × Value)):(a1F w a ep es).toList.Perm es.toList:=by
 unfold a1F
 split
 ·exact b1B _ _
 ·exact .rfl
theorem a1Q (w:World) (a:Addr) (ep:Nat) (es:Array (Int × Value)):(a1F w a ep es).size = es.size:=by
 have:=(a4I w a ep es).length_eq
 simpa using this
theorem b8T (a:Addr) (slot given epochThen:Nat):setNext a slot given epochThen = (do
 let (xs,c,tb) <- setState a
 if <- setsByText then
  if c != epochThen then
   unsupported "set_iterator.__next__:elements-changed"
  let zs <- setWalk a
  return (zs[given]?).map λ z=>(z.2,slot)
 if !tb.plain && xs.size > 1 then
  unsupported "set_iterator.__next__:the-table-is-plain-no-more"
 (do if !tb.led && !xs.isEmpty then unsupported "set:maker-not-led" : Sem Unit)
 return match xs[SetTable.below tb.place slot]?,tb.place[SetTable.below tb.place slot]? with
  | some (_,z),some m=>some (z,m + 1)
  | _,_=>none):=rfl
def a1H (B:Bool) (t:SetTable) (i:Nat):Nat:=if B = true then 0 else if i = 0 then 0 else t.place.getD (i - 1) 0 + 1
theorem a5L {B:Bool} {t:SetTable} {L:List Nat} (T:Tb B t L) (hB:B = false):∀ i,i <= L.length->SetTable.below t.place (a1H B t i) = i
 | 0,_=>by
  unfold a1H
  rw [hB]
  exact a8D T.up
 | k + 1,h=>by
  unfold a1H
  rw [hB]
  have hk:k < t.place.size:=by rw [T.sz]; omega
  simp only [Bool.false_eq_true,if_false,Nat.add_sub_cancel]
  rw [if_neg (by omega)]
  have:t.place.getD k 0 = t.place[k]:=by simp [Array.getD,hk]
  rw [this]
  exact a8E T.up hk
section
variable {prog:Program} {w:World} {A:Around} {E:Value->Shared->Prop} {s:Shared} {a:Addr} {L:List Nat}
theorem b3A {es:Array (Int × Value)} {ep:Nat} {t:SetTable} {Q:Array (Int × Value)->Shared->Prop} (ho:s.heap.get? a = some (setO es ep t)) (hE:Es es L) (T:Tb (byT w) t L)
  (h:Q (a1F w a ep es) s):wpAny (model prog w) A (setWalk a) Q E s:=by
 rw [b2Z]
 refine wpAny_bind (a1T ho hE T ?_)
 refine wpAny_bind (a2E ?_)
 have pl:=T.pl
 have ld:=T.led
 unfold a1F at h
 cases c:byT w with
 | true =>
  rw [c] at h
  simp only [if_true] at h ⊢
  exact wpAny_bind (wpAny_askSetting (wpAny_pure h))
 | false =>
  rw [c] at ld h
  simp only [pl,ld,Bool.not_true,Bool.not_false,Bool.false_and,Bool.false_eq_true,if_false] at h ⊢
  first | exact wpAny_bind (wpAny_pure (wpAny_pure h)) | exact wpAny_pure h
theorem a4V {es:Array (Int × Value)} {ep i:Nat} {t:SetTable} {Q:Option (Value × Nat)->Shared->Prop} (ho:s.heap.get? a = some (setO es ep t)) (hE:Es es L) (T:Tb (byT w) t L) (hi:i <= L.length)
  (h:Q (((a1F w a ep es)[i]?).map λ e=>(e.2,a1H (byT w) t (i + 1))) s):wpAny (model prog w) A (setNext a (a1H (byT w) t i) i ep) Q E s:=by
 rw [b8T]
 refine wpAny_bind (a1T ho hE T ?_)
 refine wpAny_bind (a2E ?_)
 have pl:=T.pl
 have ld:=T.led
 cases c:byT w with
 | true =>
  simp only [if_true,bne_self_eq_false,Bool.false_eq_true,if_false]
  refine wpAny_bind (b3A ho hE T (wpAny_pure ?_))
  rw [c] at h
  unfold a1H at h ⊢
  simp only [if_true] at h ⊢
  exact h
 | false =>
  rw [c] at ld h
  simp only [pl,ld,Bool.not_true,Bool.not_false,Bool.false_and,Bool.false_eq_true,if_false]
  have bs:=a5L T c i hi
  rw [c] at bs
  rw [bs]
  have wk:a1F w a ep es = es:=by unfold a1F; rw [c]; rfl
  rw [wk] at h
  have e:(match es[i]?,t.place[i]? with
   | some (_,z),some m=>some (z,m + 1)
   | _,_=>none) = (es[i]?).map λ e=>(e.2,a1H false t (i + 1)):=by
   by_cases q:i < L.length
   ·have h1:i < es.size:=by rw [hE.len]; exact q
    have h2:i < t.place.size:=by rw [T.sz]; exact q
    rw [Array.getElem?_eq_getElem h1,Array.getElem?_eq_getElem h2]
    unfold a1H
    simp [Array.getD,h2]
   ·have h1:es[i]? = none:=Array.getElem?_eq_none (by rw [hE.len]; omega)
    rw [h1]
    rfl
  first
  | exact wpAny_bind (wpAny_pure (wpAny_pure (by rw [e]; exact h)))
  | exact wpAny_pure (by rw [e]; exact h)
abbrev itO (sl i:Nat) (a:Addr) (n ep:Nat):Obj:={ cls:=.type "set_iterator", dict:=none,data:=.fields #[.int (sl:Nat) 0,.int (i:Nat) 0,.ref a,.int (n:Nat) 0,.int (ep:Nat) 0],slots:=#[] }
theorem b3B {I:Addr} {es:Array (Int × Value)} {ep i:Nat} {t:SetTable} {e:Int × Value} {Q:Option Value->Shared->Prop} (ne:a ≠ I) (ho:s.heap.get? a = some (setO es ep t)) (hE:Es es L) (T:Tb (byT w) t L)
  (hI:s.heap.get? I = some (itO (a1H (byT w) t i) i a L.length ep)) (hw:(a1F w a ep es)[i]? = some e)
  (h:∀ h',h'.get? I = some (itO (a1H (byT w) t (i + 1)) (i + 1) a L.length ep)->Heap.SameBut I s.heap h'->Q (some e.2) { s with heap:=h' }):wpAny (model prog w) A (pyNext (.ref I)) Q E s:=by
 have hi:i < L.length:=by
  rcases Nat.lt_or_ge i (a1F w a ep es).size with q | q
  ·rw [a1Q,hE.len] at q; exact q
  ·rw [Array.getElem?_eq_none q] at hw; cases hw
 have hT:s.TypeIs (.ref I) "set_iterator" := ⟨_,hI,rfl⟩
 unfold pyNext
 refine wpAny_bind (wpAny_attempt (wpAny_callSpecial?_slot (name:=Str.ofString "__next__") hT slot_si_next (wpAny_call_entry slot_si_next hT a2P ?_ (a2T _))))
 unfold Builtin.«set_iterator.__next__»
 refine wpAny_bind (m:=slotArgs "__next__" 0 _) (wpAny_pure ?_)
 dsimp only
 refine wpAny_bind (wpAny_fieldsOf hI rfl ?_)
 dsimp only
 unfold setEntries
 refine wpAny_bind (wpAny_bind (a1T ho hE T (wpAny_pure ?_)))
 have z:(((es.size:Nat):Int) != ((L.length:Nat):Int)) = false:=by rw [hE.len]; simp
 dsimp only
 rw [z]
 simp only [Bool.false_eq_true,if_false,Int.toNat_natCast]
 refine wpAny_bind (a4V ho hE T (by omega) ?_)
 rw [hw]
 dsimp only [Option.map]
 refine wpAny_bind (wpAny_setField_rec hI (by simp) λ h1 hI1 sb1=>?_)
 refine wpAny_bind (wpAny_setField_rec (s:={ s with heap:=h1 }) hI1 (by simp) λ h2 hI2 sb2=>?_)
 refine wpAny_pure ⟨_,rfl,wpAny_pure (h h2 ?_ (sb1.trans sb2))⟩
 rw [hI2]
 simp [rawInt]
theorem b8U {I:Addr} {es:Array (Int × Value)} {ep:Nat} {t:SetTable} {Q:Option Value->Shared->Prop} (hh:A.handled = none) (ne:a ≠ I) (ho:s.heap.get? a = some (setO es ep t)) (hE:Es es L) (T:Tb (byT w) t L)
  (hI:s.heap.get? I = some (itO (a1H (byT w) t L.length) L.length a L.length ep))
  (h:∀ h',Heap.ExtBut I s.heap h'->Q none { s with heap:=h' }):wpAny (model prog w) A (pyNext (.ref I)) Q E s:=by
 have hT:s.TypeIs (.ref I) "set_iterator" := ⟨_,hI,rfl⟩
 unfold pyNext
 refine wpAny_bind (wpAny_attempt (wpAny_callSpecial?_slot (name:=Str.ofString "__next__") hT slot_si_next (wpAny_call_entry slot_si_next hT a2P ?_ (a2T _))))
 unfold Builtin.«set_iterator.__next__»
 refine wpAny_bind (m:=slotArgs "__next__" 0 _) (wpAny_pure ?_)
 dsimp only
 refine wpAny_bind (wpAny_fieldsOf hI rfl ?_)
 dsimp only
 unfold setEntries
 refine wpAny_bind (wpAny_bind (a1T ho hE T (wpAny_pure ?_)))
 have z:(((es.size:Nat):Int) != ((L.length:Nat):Int)) = false:=by rw [hE.len]; simp
 dsimp only
 rw [z]
 simp only [Bool.false_eq_true,if_false,Int.toNat_natCast]
 refine wpAny_bind (a4V ho hE T (by omega) ?_)
 rw [Array.getElem?_eq_none (by rw [a1Q,hE.len]; exact Nat.le_refl _)]
 dsimp only [Option.map]
 refine wpAny_bind (wpAny_setField_rec hI (by simp) λ h1 hI1 sb1=>?_)
 refine wpAny_bind ?_
 simp only [newExc,newTuple]
 refine wpAny_bind (wpAny_newObj_type ?_ (by size_fits))
 refine wpAny_bind (m:=firstArgMember _ _) (wpAny_of_eq (a:=Value.none) (by first | rfl | (simp only [firstArgMember]; rfl)) ?_); refine wpAny_newObj_type ?_ (by size_fits)
 simp only [raiseNew]
 refine wpAny_bind (wpAny_handled ?_)
 rw [show A.in1.handled = none from hh]; refine wpAny_bind (wpAny_pure (wpAny_throw ?_))
 refine wpAny_bind (wpAny_isInstance (U:="StopIteration") (T:="StopIteration") (b:=true) ⟨_,Heap.get?_push_size _ rfl,rfl⟩ isSubtype_stop ?_)
 exact wpAny_pure (h _ ((sb1.extBut.push _).push _))
end
end Sm
set_option maxHeartbeats 4000000
namespace Sm
open PySem PyProof.Rows
section
variable {prog:Program} {w:World} {A:Around} {E:Value->Shared->Prop} {s:Shared} {a:Addr} {L:List Nat}
theorem b8V {I:Addr} {es:Array (Int × Value)} {ep:Nat} {t:SetTable} (hh:A.handled = none) (ne:a ≠ I) (hE:Es es L) (T:Tb (byT w) t L) :
  Walks prog w A I [I,a] [I] L.length (λ i v=>∃ e,(a1F w a ep es)[i]? = some e/\v = e.2)
   (λ i h=>h.get? I = some (itO (a1H (byT w) t i) i a L.length ep)/\h.get? a = some (setO es ep t)) where
 sub:=λ b hb=>by simp at hb; simp [hb]
 frame:=λ _ _ _ st hk=>⟨hk I (by simp) _ st.1,hk a (by simp) _ st.2⟩
 item:=λ i s Q E hi st hQ=>by
  obtain ⟨e,he⟩:∃ e,(a1F w a ep es)[i]? = some e:=⟨_,Array.getElem?_eq_getElem (by rw [a1Q,hE.len]; exact hi)⟩
  refine b3B ne st.2 hE T st.1 he λ h' hI sb=>?_
  exact hQ _ h' s.toks ⟨e,he,rfl⟩ ⟨hI,by rw [sb.2 a ne]; exact st.2⟩ λ b o hb q=>by rw [sb.2 b (λ c=>hb (by simp [c]))]; exact q
 done:=λ s Q E st hQ=>b8U hh ne st.2 hE T st.1 λ h' xb=>hQ h' s.toks λ b o hb q=>xb b o (λ c=>hb (by simp [c])) q
 self:=λ i s Q E st hQ=>by
  have hT:s.TypeIs (.ref I) "set_iterator" := ⟨_,st.1,rfl⟩
  refine wpAny_pyIter_slot hT a2U (wpAny_call_entry a2U hT a4U ?_ (a5Z _))
  show wpAny _ _ (ret (Value.ref I)) _ _ s; exact wpAny_pure ⟨_,rfl, "set_iterator", _,hT,slot_si_next.lookup,hQ⟩
theorem b4I (a:Addr):setDrawn a = (do
 let (es,_,t) <- setState a
 let byText <- setsByText
 return !byText && (!t.plain && es.size > 1)):=rfl
theorem b3C {es:Array (Int × Value)} {ep:Nat} {t:SetTable} {Q:Value->Shared->Prop} (ho:s.heap.get? a = some (setO es ep t)) (hE:Es es L) (T:Tb (byT w) t L)
  (h:Q (.ref s.heap.objs.size) { s with heap:=s.heap.push (itO 0 0 a L.length ep) }):wpAny (model prog w) A (pyIter (.ref a)) Q E s:=by
 have hT:s.TypeIs (.ref a) "set" := ⟨_,ho,rfl⟩
 refine wpAny_pyIter_slot hT F.slot_set_iter (wpAny_call_entry F.slot_set_iter hT a8G ?_ (F.args_set_iter_1 _))
 unfold Builtin.«frozenset.__iter__»
 refine wpAny_bind (m:=Builtin.Frozenset.slot0 _ _) (wpAny_pure ?_)
 unfold Builtin.Frozenset.sizeOf setEntries
 refine wpAny_bind (wpAny_bind (wpAny_bind (a1T ho hE T (wpAny_pure (wpAny_pure ?_)))))
 rw [b4I]
 refine wpAny_bind (wpAny_bind (a1T ho hE T ?_))
 refine wpAny_bind (a2E (wpAny_pure ?_))
 rw [T.pl]
 simp only [Bool.not_true,Bool.false_and,Bool.and_false,Bool.false_eq_true,if_false]
 refine wpAny_bind (wpAny_pure ?_)
 refine wpAny_bind (a9D ho hE T ?_)
 refine wpAny_bind ?_
 unfold newFields
 refine wpAny_newObj_type ?_
 refine wpAny_pure ⟨_,rfl, "set_iterator", _,⟨_,Heap.get?_push_size _ rfl,rfl⟩,slot_si_next.lookup,?_⟩
 rw [hE.len]
 exact h
theorem b8W:(Value.type "set" == Value.type "list") = false:=by decide
theorem c4P:(Value.type "set" == Value.type "tuple") = false:=by decide
theorem b4J:typeLookup (.type "set") "__len__" = pure (some (.builtin "set.__len__")):=F.slot_set_len.lookup
theorem split_len:splitId "set.__len__" = some ("set", "__len__"):=by decide +kernel
theorem collect_set {es:Array (Int × Value)} {ep:Nat} {t:SetTable} {Q:List Value->Shared->Prop} (hh:A.handled = none) (ho:s.heap.get? a = some (setO es ep t)) (hE:Es es L) (T:Tb (byT w) t L)
  (h:∀ (h':Heap) (tk:Nat),(∀ b o,s.heap.get? b = some o->h'.get? b = some o)->s.heap.objs.size < h'.objs.size->Q ((a1F w a ep es).toList.map (·.2)) { s with heap:=h',toks:=tk }):wpAny (model prog w) A (collect (.ref a)) Q E s:=by
 have lt:a < s.heap.objs.size:=Heap.lt_size ho
 unfold collect
 refine wpAny_bind (wpAny_runValue (codeAny_builtin F.entry_proto_collect ?_))
 rw [Around.under_plainId F.plain_proto_collect _]
 show wpAny _ A.in1 (newList [] >>= λ l=>again (.builtin "list.__iadd__" ⟨[l,.ref a],[]⟩)) _ _ s
 refine wpAny_bind (wpAny_newObj_type (wpAny_pure ⟨plainId_quiet F.plain_list_iadd _,codeAny_builtin F.entry_list_iadd ?_⟩))
 rw [Around.under_plainId F.plain_list_iadd _]
 have S0:(s.heap.push { cls:=.type "list", data:=.seq ([]:List Value).toArray }).get? s.heap.objs.size = some { cls:=.type "list", data:=.seq ([]:List Value).toArray }:=Heap.get?_push_size _ rfl
 have ho1:(s.heap.push { cls:=.type "list", data:=.seq ([]:List Value).toArray }).get? a = some (setO es ep t):=Heap.get?_push_of_some _ ho
 have hT1:Shared.TypeIs { s with heap:=s.heap.push { cls:=.type "list", data:=.seq ([]:List Value).toArray } } (.ref a) "set" := ⟨_,ho1,rfl⟩
 show wpAny _ A.in1 (Builtin.List.listExtendWith (.ref s.heap.objs.size) (.ref a) (.ref s.heap.objs.size)) _ _ { s with heap:=s.heap.push { cls:=.type "list", data:=.seq ([]:List Value).toArray } }
 unfold Builtin.List.listExtendWith
 refine wpAny_bind (wpAny_typeOf hT1 ?_)
 have n1:Builtin.List.listSameRef (.ref s.heap.objs.size) (.ref a) = false:=by simp [Builtin.List.listSameRef,Nat.ne_of_gt lt]
 simp only [n1,b8W,c4P,Bool.or_false,Bool.false_eq_true,if_false]
 refine wpAny_bind (b3C ho1 hE T ?_)
 refine wpAny_bind (wpAny_holding ?_)
 have ho2:((s.heap.push { cls:=.type "list", data:=.seq ([]:List Value).toArray }).push (itO 0 0 a L.length ep)).get? a = some (setO es ep t):=Heap.get?_push_of_some _ ho1
 have hT2:Shared.TypeIs { s with heap:=(s.heap.push { cls:=.type "list", data:=.seq ([]:List Value).toArray }).push (itO 0 0 a L.length ep) } (.ref a) "set" := ⟨_,ho2,rfl⟩
 unfold Builtin.List.listLengthHint
 refine wpAny_bind (wpAny_specialOf hT2 b4J ?_)
 dsimp only
 rw [split_len]
 dsimp only
 refine wpAny_bind (wpAny_isInstance hT2 b4F ?_)
 rw [if_neg (by decide)]
 rw [if_pos (by decide +kernel)]
 refine wpAny_bind (wpAny_typeOf hT2 ?_)
 dsimp only
 refine wpAny_pure ?_
 rw [if_pos (by decide +kernel)]
 refine wpAny_bind (wpAny_rule ?_)
 have lsz:(s.heap.push { cls:=.type "list", data:=.seq ([]:List Value).toArray }).objs.size = s.heap.objs.size + 1:=size_push' _ _
 have S1:((s.heap.push { cls:=.type "list", data:=.seq ([]:List Value).toArray }).push (itO 0 0 a L.length ep)).get? s.heap.objs.size = some { cls:=.type "list", data:=.seq ([]:List Value).toArray }:=Heap.get?_push_of_some _ S0
 refine wpAny_bind ?_
 show wpAny _ A.in1 (updateSeq s.heap.objs.size (·.push .none) >>= λ _=>updateSeq s.heap.objs.size (·.pop)) _ _ _
 refine wpAny_bind (wpAny_updateSeq S1 rfl ?_)
 have S2:=Heap.get?_update_self (Obj.mapSeq (·.push Value.none)) S1 rfl
 refine wpAny_updateSeq S2 rfl ?_
 have S3:=Heap.get?_update_self (Obj.mapSeq (·.pop)) S2 rfl
 have oth:∀ b o,b ≠ s.heap.objs.size->((s.heap.push { cls:=.type "list", data:=.seq ([]:List Value).toArray }).push (itO 0 0 a L.length ep)).get? b = some o ->
   ((((s.heap.push { cls:=.type "list", data:=.seq ([]:List Value).toArray }).push (itO 0 0 a L.length ep)).update s.heap.objs.size (Obj.mapSeq (·.push Value.none))).update s.heap.objs.size (Obj.mapSeq (·.pop))).get? b = some o :=
  λ b o hb e=>(Heap.get?_update_other _ _ (Ne.symm hb)).trans ((Heap.get?_update_other _ _ (Ne.symm hb)).trans e)
 have neI:a ≠ (s.heap.push { cls:=.type "list", data:=.seq ([]:List Value).toArray }).objs.size:=by rw [lsz]; exact Nat.ne_of_lt (Nat.lt_succ_of_lt lt)
 have W:=(b8V (prog:=prog) (w:=w) (A:=A.in1) (I:=(s.heap.push { cls:=.type "list", data:=.seq ([]:List Value).toArray }).objs.size) (ep:=ep) (by simpa using hh) neI hE T).toS
 have l16:=T.len
 have sl0:a1H (byT w) t 0 = 0:=by unfold a1H; split <;> rfl
 refine wpAny_pure ⟨plainId_quiet F.plain_extend_loop _,codeAny_extend_loopS W (by rw [sizeLine_eq]; omega) _ (by
   rw [lsz]; simp only [List.mem_cons,List.not_mem_nil,or_false,not_or]; exact ⟨Nat.ne_of_lt (Nat.lt_succ_self _),Nat.ne_of_gt lt⟩) _ _ 0 _ #[] _ rfl (Nat.zero_le _) ⟨?_,?_⟩ S3 (ItemsOf.nil _) λ s' acc' c' hm hS' hacc=>?_⟩
 ·refine oth _ _ (by rw [lsz]; exact Nat.ne_of_gt (Nat.lt_succ_self _)) ?_
  rw [sl0]
  exact Heap.get?_push_size _ rfl
 ·exact oth _ _ (Nat.ne_of_lt lt) ho2
 ·obtain ⟨h',g',d',tk',os'⟩:=s'
  have eg:g' = s.gens:=hm.gens
  have ed:d' = s.drawn:=hm.drawn
  have eo:os' = s.os:=hm.os
  subst eg; subst ed; subst eo
  show wpAny _ A (load s.heap.objs.size >>= _) _ _ _
  refine wpAny_bind (wpAny_load hS' ?_)
  dsimp only
  have el:acc'.toList = (a1F w a ep es).toList.map (·.2):=by
   apply List.ext_getElem?
   intro i
   rw [Array.getElem?_toList,List.getElem?_map,Array.getElem?_toList]
   rcases Nat.lt_or_ge i acc'.size with q | q
   ·obtain ⟨e,he,hv⟩:=hacc.2 i acc'[i] (Array.getElem?_eq_getElem q)
    rw [Array.getElem?_eq_getElem q,he,hv]
    rfl
   ·rw [Array.getElem?_eq_none q,Array.getElem?_eq_none (by rw [a1Q,hE.len,<- hacc.1]; exact q)]
    rfl
  rw [el]
  refine wpAny_pure (h h' tk' (λ b o e=>?_) (Heap.lt_size hS'))
  have lb:b < s.heap.objs.size:=Heap.lt_size e
  refine hm.heap b o (by rw [lsz]; simp only [List.mem_cons,List.not_mem_nil,or_false,not_or]; exact ⟨Nat.ne_of_lt lb,Nat.ne_of_lt (Nat.lt_succ_of_lt lb)⟩) (oth b o (Nat.ne_of_lt lb) (Heap.get?_push_of_some _ (Heap.get?_push_of_some _ e)))
theorem sh_old {h:Heap} {a b:Addr} {vs:List Value} {out:Array Value} {o:Obj} (lb:b < h.objs.size) (ne:b ≠ a) (e:h.get? b = some o):(sortedHeap h a vs out).get? b = some o:=by
 unfold sortedHeap
 rw [Heap.get?_update_ne _ _ _ _ ne]
 exact Heap.get?_push_of_some _ (Heap.get?_push_of_some _ (by rw [Heap.get?_update_ne _ _ _ _ ne]; exact e))
theorem sh_at {h:Heap} {a:Addr} {vs:List Value} {xs out:Array Value} {n:Nat} (e:h.get? a = some (seqObj "list" xs n)):∃ n',(sortedHeap h a vs out).get? a = some (seqObj "list" out n'):=by
 unfold sortedHeap
 exact ⟨_,get?_update_seq (Heap.get?_push_of_some _ (Heap.get?_push_of_some _ (get?_update_seq e λ _=>#[]))) λ _=>out⟩
theorem b6A {Q:Value->Shared->Prop} (hh:A.handled = none) (S:SetAt (byT w) s.heap a L)
  (h:∀ (h':Heap) (tk:Nat) (p:Addr) (vs:List Value) (n:Nat) (ns:List Int),(∀ b o,s.heap.get? b = some o->h'.get? b = some o)->s.heap.objs.size <= p->h'.get? p = some (seqObj "list" vs.toArray n)->IntsAre vs ns ->
   ns.Perm (L.map λ v=>((v:Nat):Int))->ns.Pairwise (· <= ·)->Q (.ref p) { s with heap:=h',toks:=tk }):wpAny (model prog w) A (call (.builtin "sorted") [.ref a]) Q E s:=by
 obtain ⟨es,ep,t,ho,hE,T⟩:=S
 have l16:=T.len
 apply Calls.call_function_entry kind_sorted plain_sorted entry_sorted (args_sorted1 _)
 unfold Builtin.«sorted»
 refine wpAny_bind (m:=checkCount "sorted" 1 1 _) (wpAny_pure ?_); refine wpAny_bind (collect_set (by simpa using hh) ho hE T λ h1 tk k lz=>?_)
 obtain ⟨L',hP,pm⟩:=hE.perm (a4I w a ep es)
 have hl:L'.length = L.length:=pm.length_eq
 have hI:IntsAre ((a1F w a ep es).toList.map (·.2)) (L'.map λ v=>((v:Nat):Int)):=by
  generalize (a1F w a ep es).toList = l at hP
  clear pm hl
  induction hP with
  | nil=>exact .nil
  | cons r _ ih =>
   obtain ⟨q,e⟩:=r.2
   rw [List.map_cons,List.map_cons,e]
   exact .cons _ q ih
 have hn:((a1F w a ep es).toList.map (·.2)).length = L.length:=by rw [List.length_map,Array.length_toList,a1Q,hE.len]
 refine wpAny_bind (wpAny_newList ?_ (by rw [hn,sizeLine_eq]; omega))
 have o1:(h1.push (seqObj "list" ((a1F w a ep es).toList.map (·.2)).toArray 0)).get? h1.objs.size = some (seqObj "list" ((a1F w a ep es).toList.map (·.2)).toArray 0):=Heap.get?_push_size _ rfl
 refine wpAny_bind (wpAny_holding (wpAny_call_entry slot_list_sort ⟨_,o1,rfl⟩ entry_list_sort (list_sort_tree o1 hI (by rw [hn]; omega) λ out ns a1 a2 a3=>⟨_,rfl,?_⟩) (args_list_sort _)))
 obtain ⟨n',o2⟩:=sh_at (vs:=(a1F w a ep es).toList.map (·.2)) (out:=out) o1
 refine wpAny_pure ⟨_,rfl,h _ _ _ out.toList n' ns (λ b o e=>?_) (Nat.le_of_lt lz) (by simpa using o2) a1 (a2.trans (pm.map _)) a3⟩
 have lb:b < h1.objs.size:=Nat.lt_trans (Heap.lt_size e) lz
 exact sh_old (by rw [size_push']; exact Nat.lt_succ_of_lt lb) (Nat.ne_of_lt lb) (Heap.get?_push_of_some _ (k b o e))
end
end Sm
set_option maxHeartbeats 4000000
namespace Sm
open PySem PyProof.Rows
section
variable {prog:Program} {w:World} {A:Around} {R:Result->Shared->Prop} {I:Addr} {fp wr:List Addr} {G:Array GenState->Array GenState->Prop} {n:Nat} {P:Nat->Value->Prop} {St:Nat->Shared->Prop}
theorem c6L (W:WalksS prog w A.in1 I fp wr G n P St) (S:Addr) (nf:S ∉ fp) (val:Nat->Nat) (hv:∀ i v,i < n->P i v->∃ t,v = .int ((val i:Nat):Int) t) (lt:∀ i,i < n->val i < 16) :
  ∀ (k i:Nat) (s:Shared) (L:List Nat),n - i = k->i <= n->St i s->SetAt (byT w) s.heap S L->Dense s.heap S->(∀ u,u ∈ L ↔ ∃ j,j < i/\val j = u) ->
   (∀ s' L',Moved (S :: wr) G s s'->SetAt (byT w) s'.heap S L'->Dense s'.heap S->(∀ u,u ∈ L' ↔ ∃ j,j < n/\val j = u)->R (.ok (.ret .none)) s') ->
   codeAny (model prog w) A (.builtin "set.update.loop" ⟨[.ref S,.ref I],[]⟩) R s:=by
 have nw:S ∉ wr:=λ h=>nf (W.sub _ h)
 have up:∀ b ∈ wr,b ∈ S :: wr:=λ b hb=>List.mem_cons_of_mem _ hb
 intro k
 induction k with
 | zero =>
  intro i s L hk hi st hS hD mem hR
  obtain rfl:i = n:=by omega
  refine codeAny_builtin F.entry_set_update_loop ?_
  rw [Around.under_plainId F.plain_set_update_loop _]; show wpAny _ A.in1 (pyNext (.ref I) >>= _) _ _ s; refine wpAny_bind (W.done s _ _ st λ s' hm=>?_)
  exact wpAny_pure (hR s' L (hm.mono up) (hS.keep λ o e=>hm.heap S o nw e) (hD.keep λ o e=>hm.heap S o nw e) mem)
 | succ k ih =>
  intro i s L hk hi st hS hD mem hR
  have li:i < n:=by omega
  refine codeAny_builtin F.entry_set_update_loop ?_
  rw [Around.under_plainId F.plain_set_update_loop _]; show wpAny _ A.in1 (pyNext (.ref I) >>= _) _ _ s; refine wpAny_bind (W.item i s _ _ li st λ v s' hP st' hm=>?_)
  obtain ⟨t,rfl⟩:=hv i v li hP
  have hS':=hS.keep λ o e=>hm.heap S o nw e
  have hD':=hD.keep λ o e=>hm.heap S o nw e
  show wpAny _ A.in1 (holding [Value.int ((val i:Nat):Int) t] (setAdd S (.int ((val i:Nat):Int) t)) >>= _) _ _ s'
  refine wpAny_bind (wpAny_holding ?_)
  unfold setAdd
  refine wpAny_holding (wpAny_bind ((intKind prog w).pyHash (k:=((val i:Nat):Int)) (intKind_is _ _ _ _) ?_))
  have eh:(intKind prog w).hash ((val i:Nat):Int) = ((val i:Nat):Int):=b8Q _ (lt i li)
  rw [eh]
  refine c4O (s:={ s' with toks:=s'.toks + 1 }) hS' (lt i li) λ b h' L' sb S2 mem2 dn=>?_
  refine wpAny_pure ⟨plainId_quiet F.plain_set_update_loop _,ih (i + 1) _ L' (by omega) li (W.frame _ s' _ _ st' (Nat.le_succ _) λ c hc o e=>?_) S2 (dn hD') (λ u=>?_) λ s2 L2 hm2 h2 h3 h4=>hR s2 L2 (Moved.trans W.gtrans ((hm.mono up).then_heap (Nat.le_succ _) λ c o hc e=>?_) hm2) h2 h3 h4⟩
  ·rw [sb.2 c (λ q:c = S=>nf (by rw [<- q]; exact hc))]; exact e
  ·rw [mem2 u,mem u]
   constructor
   ·rintro (rfl | ⟨j,hj,e⟩)
    ·exact ⟨i,Nat.lt_succ_self _,rfl⟩
    ·exact ⟨j,Nat.lt_succ_of_lt hj,e⟩
   ·rintro ⟨j,hj,e⟩
    rcases Nat.lt_or_ge j i with q | q
    ·exact .inr ⟨j,q,e⟩
    ·obtain rfl:j = i:=by omega
     exact .inl e.symm
  ·rw [sb.2 c (λ q:c = S=>hc (by rw [q]; exact List.mem_cons_self))]; exact e
end
section
variable {prog:Program} {w:World} {A:Around} {E:Value->Shared->Prop} {s:Shared}
theorem b8X (a:Value) {Q:Value->Shared->Prop} (h:Q (.ref s.heap.objs.size) { s with heap:=s.heap.push (setO #[] 0 (.fresh 0 0 (!byT w))) }) :
  codeAny (model prog w) A (.call (.builtin "set.__new__") ⟨[.type "set", a],[]⟩) (wants Q E) s:=by
 refine codeAny_of_tree ?_
 show wpAny _ A.in1 (do checkBuiltinCall "set.__new__" ⟨[.type "set", a],[]⟩; again (.builtin "set.__new__" ⟨[.type "set", a],[]⟩)) _ _ s; refine wpAny_bind (wpAny_of_eq (F.newCall_set_1 a) (wpAny_pure ⟨plainId_quiet F.plain_set_new _,codeAny_builtin F.entry_set_new ?_⟩))
 rw [Around.under_plainId F.plain_set_new _]
 unfold Builtin.«set.__new__» Builtin.Frozenset.newClass
 have hsub:=sub_set_self
 obtain ⟨hp,g,d,tk,os⟩:=s
 dsimp only at h ⊢
 wp_walk
 refine wpAny_askSetting (wpAny_pure ?_)
 dsimp only
 simp only [newObj]
 exact wpAny_bind (wpAny_alloc (wpAny_pure (wpAny_pure h)))
set_option maxHeartbeats 8000000 in
theorem c9K {l:Addr} {items:Array Value} {vals:List Nat} {Q:Value->Shared->Prop} (hh:A.handled = none) (hl:s.heap.IsList l items) (hi:IntsAre items.toList (vals.map λ v=>((v:Nat):Int))) (lt:∀ v ∈ vals,v < 16)
  (h:∀ (h':Heap) (tk:Nat) (L:List Nat),SetAt (byT w) h' s.heap.objs.size L->Dense h' s.heap.objs.size->(∀ u,u ∈ L ↔ u ∈ vals)->(∀ b o,b < s.heap.objs.size->s.heap.get? b = some o->h'.get? b = some o)->Q (.ref s.heap.objs.size) { s with heap:=h',toks:=tk }) :
  wpAny (model prog w) A (call (.type "set") [.ref l]) Q E s:=by
 obtain ⟨c,tl,hmro⟩:=F.called_set.mro
 have hmade:=F.called_set.made
 have hsub:=F.called_set.sub
 have hlen:items.size = vals.length:=by
  have:=hi.length
  simpa using this
 refine wpAny_call (codeAny_of_tree ?_)
 show wpAny _ _ (callAny (.type "set") _) _ _ _; refine wpAny_pure ⟨Code.quiet_builtin _ (by decide +kernel),codeAny_builtin F.entry_type_call ?_⟩
 rw [Around.under_plain (weight_type_call_type "set" [.ref l] []) rfl]; have h1:=F.called_set.notType
 have h2:=F.called_set.canCreate
 have hct:=F.typeCall_set_1 (.ref l)
 repeat (any_goals (first | assumption | wp_step))
 refine codeAny_mono (b8X (.ref l) (E:=E) (Q:=λ obj s₁=>obj = .ref s.heap.objs.size/\s₁ = { s with heap:=s.heap.push (setO #[] 0 (.fresh 0 0 (!byT w))) }) ⟨rfl,rfl⟩) λ r s₁ hr=>?_
 cases r with
 | error e=>exact hr
 | ok fl =>
  cases fl with
  | ret obj =>
   obtain ⟨rfl,rfl⟩:=hr
   have gS:(s.heap.push (setO #[] 0 (.fresh 0 0 (!byT w)))).get? s.heap.objs.size = some (setO #[] 0 (.fresh 0 0 (!byT w))):=Heap.get?_push_size _ rfl
   have hT:Shared.TypeIs { s with heap:=s.heap.push (setO #[] 0 (.fresh 0 0 (!byT w))) } (.ref s.heap.objs.size) "set" := ⟨_,gS,rfl⟩
   have hli:=F.called_set.init.lookup
   have hbi:=F.called_set.init.bind (.ref s.heap.objs.size)
   repeat (any_goals (first | assumption | wp_step))
   refine codeAny_mono (codeAny_call_builtin (R:=wants (λ r s₂=>r = .none/\∃ h' tk L,s₂ = { s with heap:=h',toks:=tk }/\SetAt (byT w) h' s.heap.objs.size L/\Dense h' s.heap.objs.size/\(∀ u,u ∈ L ↔ u ∈ vals) /\
     (∀ b o,b < s.heap.objs.size->s.heap.get? b = some o->h'.get? b = some o)) E) F.called_set.init.plain F.entry_set_init (check_set_init_1 hT ?_)) λ r₂ s₂ hr₂=>?_
   ·obtain ⟨ol,hol,hcl,nl,hdl⟩:=hl
    obtain ⟨ocls,odict,odata,oslots⟩:=ol
    simp only at hcl hdl
    subst hcl; subst hdl
    have hol':(s.heap.push (setO #[] 0 (.fresh 0 0 (!byT w)))).get? l = some { cls:=.type "list", dict:=odict,data:=.seq items nl,slots:=oslots }:=Heap.get?_push_of_some _ hol
    have hsls:=F.sub_list_set
    have hslf:=F.sub_list_frozenset
    have hne:(Value.type "list" == Value.type "dict") = false:=by decide
    have hl1:(s.heap.push (setO #[] 0 (.fresh 0 0 (!byT w)))).IsList l items:=⟨_,hol',rfl,nl,rfl⟩
    unfold Builtin.«set.__init__» noKeywords Builtin.Frozenset.updateFrom
    generalize hPI:pyIter = PI
    wp_walk
    subst hPI
    refine wpAny_pyIter_list hl1 (wpAny_bind (wpAny_runValue ?_))
    have ll:l < s.heap.objs.size:=Heap.lt_size hol
    have hh3:A.in1.in1.in1.handled = none:=by simp [hh]
    have ni:l ≠ (s.heap.push (setO #[] 0 (.fresh 0 0 (!byT w)))).objs.size:=by rw [Heap.size_push]; exact Nat.ne_of_lt (Nat.lt_succ_of_lt ll)
    have nf:s.heap.objs.size ∉ [(s.heap.push (setO #[] 0 (.fresh 0 0 (!byT w)))).objs.size,l]:=by
     rw [Heap.size_push]; simp only [List.mem_cons,List.not_mem_nil,or_false,not_or]
     exact ⟨Nat.ne_of_lt (Nat.lt_succ_self _),Nat.ne_of_gt ll⟩
    have hval:∀ (i:Nat) (v:Value),i < items.size->items[i]? = some v->∃ t,v = .int (((λ i=>vals.getD i 0) i:Nat):Int) t:=λ i v li hv=>by
     obtain ⟨t,e⟩:=PyProof.Rows.IntsAre.int_at hi i v (by rw [Array.getElem?_toList]; exact hv)
     have lv:i < vals.length:=by omega
     refine ⟨t,?_⟩
     rw [e]
     simp [List.getD,lv]
    refine c6L ((Walks.list hh3 _ l ni items).toS) s.heap.objs.size nf (λ i=>vals.getD i 0) hval (λ i li=>?_) (items.size - 0) 0 _ [] (by omega) (Nat.zero_le _) ⟨⟨_,Heap.get?_push_size _ rfl,rfl,rfl⟩,(hl1.push _)⟩ ?hS0 ?hD0 (λ u=>by simp) ?hR
    ·have lv:i < vals.length:=by omega
     refine lt _ ?_
     simp [List.getD,lv]
    case hS0=>exact ⟨#[],0,_,Heap.get?_push_of_some _ gS,.nil,b4H _⟩
    case hD0=>exact ⟨#[],0,_,Heap.get?_push_of_some _ gS,.inl rfl⟩
    case hR =>
     intro s' L' hm hS' hD' mem
     obtain ⟨h',g',d',tk',os'⟩:=s'
     have eg:g' = s.gens:=hm.gens
     have ed:d' = s.drawn:=hm.drawn
     have eo:os' = s.os:=hm.os
     subst eg; subst ed; subst eo
     show wpAny _ _ _ _ _ _
     refine wpAny_pure ?_
     show wpAny _ _ (ret Value.none) _ _ _; refine wpAny_pure ⟨rfl,h',tk',L',rfl,hS',hD',λ u=>?_,λ b o hb e=>?_⟩
     ·rw [mem u]
      constructor
      ·rintro ⟨j,hj,rfl⟩
       have lv:j < vals.length:=by omega
       simp [List.getD,lv]
      ·intro hu
       obtain ⟨j,hj,e⟩:=List.getElem_of_mem hu
       exact ⟨j,by omega,by simp [List.getD,hj,e]⟩
     ·have b1:b ≠ s.heap.objs.size:=Nat.ne_of_lt hb
      have b2:b ≠ (s.heap.push (setO #[] 0 (.fresh 0 0 (!byT w)))).objs.size:=by rw [Heap.size_push]; exact Nat.ne_of_lt (Nat.lt_succ_of_lt hb)
      exact hm.heap b o (by simp only [List.mem_cons,List.not_mem_nil,or_false,not_or]; exact ⟨b1,b2⟩) (Heap.get?_push_of_some _ (Heap.get?_push_of_some _ e))
   ·cases r₂ with
    | error e=>exact hr₂
    | ok fl₂ =>
     cases fl₂ with
     | ret r =>
      obtain ⟨rfl,h',tk,L,rfl,q1,q2,q3,q4⟩:=hr₂
      repeat (any_goals (first | assumption | wp_step))
      exact h _ _ L q1 q2 q3 q4
     | _=>exact hr₂.elim
  | _=>exact hr.elim
end
end Sm
set_option maxHeartbeats 4100000
namespace L2
open PySem PySem.Spec PyProof.Rows Sm
def SetV (w:World) (a:Addr) (d:Bool) (L:List Nat):HO:=.ext λ h=>SetAt (byT w) h a L/\(d = true->Dense h a)
def a7O (ns:List Int):Prop:=∀ n ∈ ns,0 <= n/\n < 16
def upF (p:Int->Bool):List Int:=((List.range 16).map λ i=>((i:Nat):Int)).filter p
theorem b1C (p:Int->Bool):(upF p).Pairwise (· < ·):=by
 unfold upF
 refine List.Pairwise.filter _ ?_
 rw [List.pairwise_map]
 exact List.pairwise_lt_range.imp λ h=>by omega
theorem mem_upF {p:Int->Bool} {v:Int}:v ∈ upF p ↔ 0 <= v/\v < 16/\p v = true:=by
 unfold upF
 rw [List.mem_filter,List.mem_map]
 constructor
 ·rintro ⟨⟨i,hi,rfl⟩,h⟩
  have:=List.mem_range.mp hi
  exact ⟨by omega,by omega,h⟩
 ·rintro ⟨h0,h1,h⟩
  exact ⟨⟨v.toNat,List.mem_range.mpr (by omega),by omega⟩,h⟩
theorem c9L:∀ {xs ys:List Int},xs.Pairwise (· < ·)->ys.Pairwise (· < ·)->(∀ v,v ∈ xs ↔ v ∈ ys)->xs = ys
 | [],[],_,_,_=>rfl
 | [],y :: ys,_,_,h=>absurd ((h y).mpr List.mem_cons_self) List.not_mem_nil
 | x :: xs,[],_,_,h=>absurd ((h x).mp List.mem_cons_self) List.not_mem_nil
 | x :: xs,y :: ys,hx,hy,h=>by
  obtain ⟨x1,x2⟩:=List.pairwise_cons.mp hx
  obtain ⟨y1,y2⟩:=List.pairwise_cons.mp hy
  have e:x = y:=by
   rcases List.mem_cons.mp ((h x).mp List.mem_cons_self) with e | e
   ·exact e
   ·rcases List.mem_cons.mp ((h y).mpr List.mem_cons_self) with f | f
    ·exact f.symm
    ·have a:=y1 x e
     have b:=x1 y f
     omega
  subst e
  congr 1
  refine c9L x2 y2 λ v=>?_
  constructor
  ·intro q
   rcases List.mem_cons.mp ((h v).mp (List.mem_cons_of_mem _ q)) with e | e
   ·subst e; have:=x1 v q; omega
   ·exact e
  ·intro q
   rcases List.mem_cons.mp ((h v).mpr (List.mem_cons_of_mem _ q)) with e | e
   ·subst e; have:=y1 v q; omega
   ·exact e
def d1S (w:World) (K:Φρ):List V->Hp->VK->Prop:=λ xs H Q=>∃ l ns,xs = [.ref l]/\SqL K H l (List.map V.int ns)/\a7O ns/\∀ p L H',New H p (SetV w p true L) H'->(∀ u:Nat,u ∈ L ↔ (u:Int) ∈ ns)->Q (.ref p) H'
def rOrS (w:World):R2:=λ x y H Q=>∃ a b L1 L2,x = .ref a/\y = .ref b/\a ≠ b/\H a = some (SetV w a true L1)/\H b = some (SetV w b true L2)/\∀ p L H',New H p (SetV w p false L) H'->(∀ u:Nat,u ∈ L ↔ u ∈ L1\/u ∈ L2)->Q (.ref p) H'
def c9M (w:World):List V->Hp->VK->Prop:=λ xs H Q=>∃ a d L,xs = [.ref a]/\H a = some (SetV w a d L)/\∀ p H',New H p (.lst ((upF λ v=>decide (v.toNat ∈ L)).map V.int)) H'->Q (.ref p) H'
def c9N (K:Φρ):List V->Hp->VK->Prop:=λ xs H Q=>∃ l ns,xs = [.ref l]/\SqL K H l (List.map V.int ns)/\ns.length < 64/\∀ p H' zs,New H p (.lst (List.map V.int zs)) H'->zs.Perm ns->zs.Pairwise (· <= ·)->Q (.ref p) H'
theorem a7A:∀ {vs:List Value} {ns:List Int},IntsAre vs ns->Vals (ns.map V.int) vs
 | _,_,.nil=>.nil
 | _,_,.cons n t r=>.cons ⟨t,rfl⟩ (a7A r)
theorem c2L {xs:List Int} {L:List Nat} (pm:xs.Perm (L.map λ v=>((v:Nat):Int))) (nd:L.Nodup) (lt:∀ v ∈ L,v < 16) (le:xs.Pairwise (· <= ·)):xs = upF λ v=>decide (v.toNat ∈ L):=by
 have nd2:xs.Nodup:=pm.nodup_iff.mpr (by
  unfold List.Nodup
  rw [List.pairwise_map]
  exact nd.imp λ h e=>h (by omega))
 have lt2:xs.Pairwise (· < ·):=by
  unfold List.Nodup at nd2
  exact (le.and nd2).imp λ h=>by omega
 refine c9L lt2 (b1C _) λ v=>?_
 rw [pm.mem_iff,mem_upF,List.mem_map]
 constructor
 ·rintro ⟨u,hu,rfl⟩
  have:=lt u hu
  exact ⟨by omega,by omega,decide_eq_true (by rw [Int.toNat_natCast]; exact hu)⟩
 ·rintro ⟨h0,h1,h⟩
  exact ⟨v.toNat,of_decide_eq_true h,by omega⟩
section
variable {X:Cx} {K:Φρ} {w:World}
theorem b8Y {H:Hp} {h:Heap} {a:Addr} {d:Bool} {L:List Nat} {P:Program} {w':World} (S:SetAt (byT w) h a L) (D:d = true->Dense h a):ObjOk P w' H h a (SetV w a d L):=by
 refine ⟨⟨S,D⟩,?_,?_⟩
 ·obtain ⟨_,_,_,ho,_⟩:=S
  exact ⟨_,ho⟩
 ·rintro h1 h2 ⟨s1,d1⟩ k
  exact ⟨s1.keep k,λ e=>(d1 e).keep k⟩
theorem b1D (ek:X.K = K) (ew:X.w = w) (cm:X.calm = true):CallR X (.type "set") (d1S w K):=by
 subst ek; subst ew
 intro pins s σ H xs us Q I r h
 obtain ⟨l,ns,rfl,hL,sm,q⟩:=h
 obtain ⟨u,rfl,rx⟩:=a4B r
 cases rx
 obtain ⟨its,r',pl,hz⟩:=I.list hL
 have hi:=a3O r'
 have e:(ns.map Int.toNat).map (λ v=>((v:Nat):Int)) = ns:=by
  rw [List.map_map]
  have:∀ n ∈ ns,((λ v=>((v:Nat):Int)) ∘ Int.toNat) n = id n:=λ n hn=>by
   have:=(sm n hn).1
   show ((n.toNat:Nat):Int) = n
   omega
  rw [List.map_congr_left this,List.map_id]
 refine c9K (vals:=ns.map Int.toNat) (I.ok.hd cm) pl.isList (by rw [e]; simpa using hi) (λ v hv=>?_) λ h' tk L S D mem k=>?_
 ·obtain ⟨n,hn,rfl⟩:=List.mem_map.mp hv
  have:=sm n hn
  omega
 ·have hf:H s.heap.objs.size = none:=I.hok.fresh (Nat.le_refl _)
  refine ⟨.ref s.heap.objs.size,_,I.laid (t':=tk) (o:=SetV X.w s.heap.objs.size true L) (λ b o eo=>k b o (Heap.lt_size eo) eo) (Nat.le_refl _) (b8Y S λ _=>D),rfl,q _ L _ (New.mk0 hf) λ u=>?_⟩
  rw [mem u,List.mem_map]
  constructor
  ·rintro ⟨n,hn,rfl⟩
   have:=(sm n hn).1
   have e2:((n.toNat:Nat):Int) = n:=by omega
   rw [e2]; exact hn
  ·intro hn
   exact ⟨_,hn,by omega⟩
theorem c9O (ew:X.w = w):OpR X (binaryOp .BitOr) (rOrS w):=by
 subst ew
 intro pins s σ H x y v u Q I rx ry h
 obtain ⟨a,b,L1,L2,rfl,rfl,ne,hA,hB,q⟩:=h
 cases rx
 cases ry
 obtain ⟨⟨S1,D1⟩,_⟩:=I.hok a _ hA
 obtain ⟨⟨S2,D2⟩,_⟩:=I.hok b _ hB
 refine d1R ne S1 (D1 rfl) S2 (D2 rfl) λ h' L k S mem=>?_
 have hf:H s.heap.objs.size = none:=I.hok.fresh (Nat.le_refl _)
 exact ⟨.ref s.heap.objs.size,_,I.laid (t':=s.toks) (o:=SetV X.w s.heap.objs.size false L) (λ b o eo=>k b o eo) (Nat.le_refl _) (b8Y S λ e=>by cases e),rfl,q _ L _ (New.mk0 hf) mem⟩
theorem b1E (ew:X.w = w) (cm:X.calm = true):CallR X (.builtin "sorted") (c9M w):=by
 subst ew
 intro pins s σ H xs us Q I r h
 obtain ⟨a,d,L,rfl,hA,q⟩:=h
 obtain ⟨u,rfl,rx⟩:=a4B r
 cases rx
 obtain ⟨⟨S,_⟩,_⟩:=I.hok a _ hA
 obtain ⟨_,_,t,_,_,T⟩:=id S
 refine b6A (I.ok.hd cm) S λ h' tk p vs n ns k hp ho hi pm le=>?_
 have e:=c2L pm T.nd T.lt le
 subst e
 have l16:(upF λ v=>decide (v.toNat ∈ L)).length <= 16:=by rw [pm.length_eq,List.length_map]; exact T.len
 have hf:H p = none:=I.hok.fresh hp
 refine ⟨.ref p,_,I.laid (t':=tk) (o:=.lst ((upF λ v=>decide (v.toNat ∈ L)).map V.int)) k hp ⟨?_,vs,n,a7A hi,ho⟩,rfl,q p _ (New.mk0 hf)⟩
 rw [List.length_map,sizeLine_eq]
 omega
theorem b1F (e:X.K = K):CallR X (.builtin "sorted") (c9N K):=by
 subst e
 intro pins s σ H xs us Q I r h
 obtain ⟨l,ns,rfl,hL,h64,q⟩:=h
 obtain ⟨u,rfl,rx⟩:=a4B r
 cases rx
 obtain ⟨its,r',pl,hz⟩:=I.list hL
 have hlen:=r'.length
 rw [List.length_map] at hlen
 refine sorted_ints (ns:=ns) pl.isList (a3O r') (by omega) λ out zs hi pm le=>?_
 obtain ⟨c,hc⟩:=sortedAll_at s.heap its out
 refine ⟨.ref (s.heap.objs.size + 1),_,I.laid (t':=s.toks) (o:=.lst (zs.map V.int)) (λ b o eo=>sortedAll_old eo) (Nat.le_succ _) ⟨?_,out.toList,c,a7A hi,by simpa using hc⟩,rfl,q _ _ zs (New.mk0 (I.hok.fresh (Nat.le_succ _))) pm le⟩
 rw [List.length_map,pm.length_eq,sizeLine_eq]
 omega
end
end L2
namespace L2
open PySem PySem.Spec PySem.Calls PyProof.Rows
section
variable {X:Cx}
theorem a8H:∀ (n:Nat) (acc:List Value),(∀ i:Nat,i < n->∃ t,acc[i]? = some (Value.int ((i:Nat):Int) t))->acc.length = n->Vals ((List.range n).map λ i=>V.int ((i:Nat):Int)) acc
 | 0,acc,_,hl=>by rw [List.eq_nil_of_length_eq_zero hl]; exact .nil
 | n + 1,acc,h,hl=>by
  have hne:acc ≠ []:=λ z=>by rw [z] at hl; cases hl
  have e:=(List.dropLast_concat_getLast hne).symm
  have ld:acc.dropLast.length = n:=by rw [List.length_dropLast]; omega
  rw [List.range_succ,List.map_append,e]
  refine Vals.append (a8H n acc.dropLast (λ i hi=>?_) ld) ?_
  ·obtain ⟨t,et⟩:=h i (by omega)
   rw [e,List.getElem?_append_left (by omega)] at et
   exact ⟨t,et⟩
  ·obtain ⟨t,et⟩:=h n (by omega)
   rw [e,List.getElem?_append_right (by omega),ld] at et
   simp at et
   rw [et]
   exact .cons ⟨t,rfl⟩ .nil
theorem b6B {pins:List (Addr × Obj)} {σ:St} {H:Hp} {s:Shared} {Q:VK} {E:Value->Shared->Prop} {n:Nat} {t u v:Tok} {tk:Nat} (I:Inv X pins σ H s) (cm:X.calm = true) (hn:n <= 1000)
  (q:∀ p H',New H p (.lst ((List.range n).map λ i=>V.int ((i:Nat):Int))) H'->Q (.ref p) H') :
  wpAny (model X.prog X.w) X.A (call (.type "list") [.ref s.heap.objs.size]) (EP X pins σ Q) E { s with heap:=s.heap.push { cls:=.type "range", data:=.fields #[.int 0 t,.int n u,.int 1 v] },toks:=tk }:=by
 have I2:Inv X pins σ H { s with heap:=s.heap.push { cls:=.type "range", data:=.fields #[.int 0 t,.int n u,.int 1 v] },toks:=tk }:=I.kept λ b o e=>Heap.get?_push_of_some _ e
 refine call_list_range (I2.ok.hd cm) (IsRange.new ..) (small_one (by omega) (by omega) (by omega) (by omega)) (n:=n) (by rw [rangeSize_one]; split <;> omega) (by omega) λ h' tk' acc' c' hk hS hacc=>?_
 refine ⟨.ref _,_,I2.laid (t':=tk') hk (Nat.le_refl _) (show ObjOk X.prog X.w _ h' _ (.lst ((List.range n).map λ i=>V.int ((i:Nat):Int))) from ⟨?_,acc'.toList,c',?_,?_⟩),rfl,q _ _ (New.mk0 (I2.hok.fresh (Nat.le_refl _)))⟩
 ·rw [List.length_map,List.length_range]; exact Nat.le_of_lt (a0V hn)
 ·refine a8H n _ (λ i hi=>?_) ?_
  ·have hlt:i < acc'.size:=by have:=hacc.1; omega
   obtain ⟨t,e⟩:=hacc.2 i acc'[i] (Array.getElem?_eq_getElem hlt)
   refine ⟨t,?_⟩
   rw [Array.getElem?_toList,Array.getElem?_eq_getElem hlt,e]
   congr 2
   omega
  ·rw [Array.length_toList]; exact hacc.1
 ·simpa using hS
def c9P (ta:TA):TE:=λ σ H Q=>ta σ H λ vs H1=>∃ n:Nat,vs = [.int (n:Int)]/\n <= 1000/\∀ p H',New H1 p (.lst ((List.range n).map λ i=>V.int ((i:Nat):Int))) H'->Q (.ref p) H'
theorem b4K {a:Expr} {ta:TA} {p p2 pos pos2:Pos} (cm:X.calm = true) (hm:X.mg "list" = none) (hm2:X.mg "range" = none) (ha:PA X [a] ta) (hg:Gl X "list" := by rfl) (hg2:Gl X "range" := by rfl)
  (hs:starEach [a] X.env = [(false,eval a X.env)]:=by rfl)
  (he:starEach [Expr.Call (.Name "range" p2) [a] [] pos2] X.env = [(false,eval (Expr.Call (.Name "range" p2) [a] [] pos2) X.env)]:=by rfl) :
  PE X (.Call (.Name "list" p) [.Call (.Name "range" p2) [a] [] pos2] [] pos) (c9P ta):=by
 intro pins s σ H Q I h
 refine wpAny_Call_Name_kw (a4C I hg hm (show bootBuiltins "list" = some (.type "list") by decide +kernel) ?_)
 refine PyProof.Rows.callWith_type1 ?_ he rfl
 rw [he]
 refine Calls.spliced_cons ?_
 refine Call_ (a4C I hg2 hm2 boot_range (PyProof.Rows.callWith_type1 (thn (ha pos2 pins s σ H _ I h) λ us s1 ⟨vs,H1,I1,r1,q1⟩=>?_) hs rfl))
 obtain ⟨n,e,hn,q⟩:=q1
 subst e
 cases r1 with
 | cons r rr =>
  cases rr
  obtain ⟨t,rfl⟩:=r
  refine call_range_1 ?_
  refine Calls.spliced_nil ?_
  exact b6B I1 cm hn q
end
end L2
namespace L2
open PySem PySem.Spec PyProof.Rows
section
variable {X:Cx}
theorem b8Z:OpR X (compareOp .IsNot) (λ x y H Q=>∃ a b,x = .bl a/\y = .bl b/\Q (.bl (!(a == b))) H):=by
 intro pins s σ H x y v u Q I rx ry h
 obtain ⟨a,b,rfl,rfl,q⟩:=h
 cases rx
 cases ry
 refine wpAny_isNot_plain (by cases a <;> cases b <;> decide +kernel) (a0Z I q ?_)
 cases a <;> cases b <;> rfl
end
end L2
namespace L2
open PySem PySem.Spec PyProof.Rows
section
variable {X:Cx}
def d1T:V->List V->Hp->VK->Prop:=λ x vs H Q=>∃ l xs y,x = .ref l/\vs = [y]/\H l = some (.lst xs)/\xs.length < 5000/\∀ H',Chg H l (.lst (xs ++ [y])) H'->Q .non H'
theorem b6C:MtM X "list.append" d1T:=mt_append.weak λ x vs H Q ⟨l,xs,y,e1,e2,h,z,q⟩=>⟨l,xs,y,e1,e2,h,Nat.lt_trans z (by decide),q _ Chg.mk0⟩
end
end L2
namespace L2
open PySem PySem.Spec PyProof.Rows
theorem us1 {A:Type} {us:List A} {P:List A->Prop} (h:us.length = 1) (f:∀ a,P [a]):P us:=by
 match us,h with
 | [a],_=>exact f a
theorem us2 {A:Type} {us:List A} {P:List A->Prop} (h:us.length = 2) (f:∀ a b,P [a,b]):P us:=by
 match us,h with
 | [a,b],_=>exact f a b
theorem us3 {A:Type} {us:List A} {P:List A->Prop} (h:us.length = 3) (f:∀ a b c,P [a,b,c]):P us:=by
 match us,h with
 | [a,b,c],_=>exact f a b c
theorem dn_mk1 {K:Φρ} {h:Heap} {mg:Str->Option Value} {x:Str} {st:Stmt} {ps:List Str} {f:Addr} {oc:Value} {od an:Option Addr} {osl:Array (Option Value)} {kV doc pm cdv ct:Value} (X:K.In h) (G:h.Ns mainGlobals mg)
  (a:PySem.W.nsIn K mainGlobals x = some (some (.ref f))) (l:K.lookup f = some ⟨oc,od,.func (PySem.W.fnOf x x (a1Z st) (a1V st) (a0E st) .none kV doc pm an cdv ct),osl⟩) (c:PySem.W.codeIn K cdv x = true) (k:PySem.W.keepIn K (.ref f) = true)
  (hp:ps.length = 1)
  (hb:∀ (kV doc pm:Value) (an:Option Addr) (cdv ct:Value) (u0:Value),bindArgs (PySem.W.fnOf x x (a1Z st) (a1V st) (a0E st) .none kV doc pm an cdv ct) ⟨[u0],[]⟩ = pure (ps.zip [u0])) :
  Nonempty (Dn K mg x st ps) :=
 c5T X G a l c k λ kV doc pm an cdv ct us hl=>us1 (P:=λ us=>bindArgs (PySem.W.fnOf x x (a1Z st) (a1V st) (a0E st) .none kV doc pm an cdv ct) ⟨us,[]⟩ = pure (ps.zip us)) (hl.trans hp) λ u0=>hb kV doc pm an cdv ct u0
theorem dn_mk2 {K:Φρ} {h:Heap} {mg:Str->Option Value} {x:Str} {st:Stmt} {ps:List Str} {f:Addr} {oc:Value} {od an:Option Addr} {osl:Array (Option Value)} {kV doc pm cdv ct:Value} (X:K.In h) (G:h.Ns mainGlobals mg)
  (a:PySem.W.nsIn K mainGlobals x = some (some (.ref f))) (l:K.lookup f = some ⟨oc,od,.func (PySem.W.fnOf x x (a1Z st) (a1V st) (a0E st) .none kV doc pm an cdv ct),osl⟩) (c:PySem.W.codeIn K cdv x = true) (k:PySem.W.keepIn K (.ref f) = true)
  (hp:ps.length = 2)
  (hb:∀ (kV doc pm:Value) (an:Option Addr) (cdv ct:Value) (u0 u1:Value),bindArgs (PySem.W.fnOf x x (a1Z st) (a1V st) (a0E st) .none kV doc pm an cdv ct) ⟨[u0,u1],[]⟩ = pure (ps.zip [u0,u1])) :
  Nonempty (Dn K mg x st ps) :=
 c5T X G a l c k λ kV doc pm an cdv ct us hl=>us2 (P:=λ us=>bindArgs (PySem.W.fnOf x x (a1Z st) (a1V st) (a0E st) .none kV doc pm an cdv ct) ⟨us,[]⟩ = pure (ps.zip us)) (hl.trans hp) λ u0 u1=>hb kV doc pm an cdv ct u0 u1
theorem dn_mk3 {K:Φρ} {h:Heap} {mg:Str->Option Value} {x:Str} {st:Stmt} {ps:List Str} {f:Addr} {oc:Value} {od an:Option Addr} {osl:Array (Option Value)} {kV doc pm cdv ct:Value} (X:K.In h) (G:h.Ns mainGlobals mg)
  (a:PySem.W.nsIn K mainGlobals x = some (some (.ref f))) (l:K.lookup f = some ⟨oc,od,.func (PySem.W.fnOf x x (a1Z st) (a1V st) (a0E st) .none kV doc pm an cdv ct),osl⟩) (c:PySem.W.codeIn K cdv x = true) (k:PySem.W.keepIn K (.ref f) = true)
  (hp:ps.length = 3)
  (hb:∀ (kV doc pm:Value) (an:Option Addr) (cdv ct:Value) (u0 u1 u2:Value),bindArgs (PySem.W.fnOf x x (a1Z st) (a1V st) (a0E st) .none kV doc pm an cdv ct) ⟨[u0,u1,u2],[]⟩ = pure (ps.zip [u0,u1,u2])) :
  Nonempty (Dn K mg x st ps) :=
 c5T X G a l c k λ kV doc pm an cdv ct us hl=>us3 (P:=λ us=>bindArgs (PySem.W.fnOf x x (a1Z st) (a1V st) (a0E st) .none kV doc pm an cdv ct) ⟨us,[]⟩ = pure (ps.zip us)) (hl.trans hp) λ u0 u1 u2=>hb kV doc pm an cdv ct u0 u1 u2
end L2
namespace L2
open PySem PySem.Spec PyProof.Rows
section
variable {κ:Type} [DecidableEq κ]
end
section
variable {P:Program} {w:World} {H:Hp} {h:Heap} {a:Addr}
end
section
variable {X:Cx} {pins:List (Addr × Obj)} {σ:St} {H:Hp} {s:Shared} {a:Addr} {y v:V} {u r:Value} {o:Option V} {A:Around} {E:Value->Shared->Prop}
end
section
variable {X:Cx} {pins:List (Addr × Obj)} {σ:St} {H:Hp} {s:Shared} {a:Addr} {kvs:List (Key × V)} {k:Key} {u:Value} {A:Around} {E:Value->Shared->Prop}
end
section
variable {X:Cx} {o i e value:Expr} {pos pos' tpos:Pos} {td ty tv:TE}
end
section
variable {X:Cx} {pos:Pos}
end
end L2
namespace L2
open PySem PySem.Spec PyProof.Rows
section
variable {X:Cx}
end
end L2
namespace L2
open PySem PySem.Spec PyProof.Rows
section
variable {X:Cx} {pins:List (Addr × Obj)} {σ:St} {H:Hp} {s:Shared} {d:Addr} {kvs:List (Key × V)}
end
section
variable {X:Cx} {tg:Expr}
end
end L2
namespace L2
open PySem PySem.Spec PyProof.Rows
end L2
namespace L2
open PySem PySem.Spec PyProof.Rows
section
variable {X:Cx}
end
end L2
set_option maxHeartbeats 4100000
namespace Ls
open PySem PyProof.Rows PySem.Calls PySem.W PySem.SeqAt
open AutoSeq1 (wpAny_loadPart')
open MeetsSeq MeetsSeq2 MeetsSeq3
section
variable {prog:Program} {w:World} {A:Around} {E:Value->Shared->Prop} {s:Shared}
end
end Ls
set_option maxHeartbeats 4100000
namespace Srt
open PySem PyProof.Rows PySem.Calls PySem.W
section
variable {prog:Program} {wo:World} {A:Around} {E:Value->Shared->Prop} {s:Shared}
end
end Srt
namespace L2
open PySem PySem.Spec PyProof.Rows Bg Srt
def LstV (K:Φρ) (H:Hp) (v:V) (ns:List Int):Prop:=∃ p,v = .ref p/\SqL K H p (ns.map V.int)
section
variable {X:Cx} {K:Φρ}
theorem c2M (its:List Value):slicePick its.toArray none none (some (-1)) = its.reverse.toArray:=by
 have h:sliceBounds none none (some (-1)) its.length = ((its.length:Int) - 1,-1,-1):=rfl
 unfold slicePick
 rw [List.size_toArray,h]
 congr 1
 dsimp only
 unfold sliceRange
 have e:(if (-1:Int) > 0 then (if (its.length:Int) - 1 < -1 then (-1 - ((its.length:Int) - 1) + -1 - 1) / -1 else 0) else (if (its.length:Int) - 1 > -1 then ((its.length:Int) - 1 - -1 - -1 - 1) / (- -1) else 0)).toNat = its.length:=by
  rw [if_neg (by decide)]
  have:(- -1:Int) = 1:=by decide
  rw [this,Int.ediv_one]
  split <;> omega
 dsimp only
 rw [e,List.filterMap_map]
 have f:((λ x=>its.toArray[x]?) ∘ λ (k:Nat)=>((its.length:Int) - 1 + -1 * (k:Int)).toNat) = λ k=>its[its.length - 1 - k]?:=by
  funext k
  have:((its.length:Int) - 1 + -1 * (k:Int)).toNat = its.length - 1 - k:=by omega
  show its.toArray[((its.length:Int) - 1 + -1 * (k:Int)).toNat]? = _
  rw [this]
  simp
 rw [f]
 apply List.ext_getElem?
 intro i
 have g:(List.range its.length).filterMap (λ k=>its[its.length - 1 - k]?) = (List.range its.length).map (λ k=>its.getD (its.length - 1 - k) Value.none):=by
  have aux:∀ l:List Nat,(∀ k ∈ l,k < its.length)->l.filterMap (λ k=>its[its.length - 1 - k]?) = l.map (λ k=>its.getD (its.length - 1 - k) Value.none):=by
   intro l hl
   induction l with
   | nil=>rfl
   | cons k r ih =>
    have hk:=hl k List.mem_cons_self
    have lt:its.length - 1 - k < its.length:=by omega
    rw [List.filterMap_cons,List.map_cons,<- ih λ j hj=>hl j (List.mem_cons_of_mem _ hj),List.getElem?_eq_getElem lt]
    simp [List.getD_eq_getElem?_getD,List.getElem?_eq_getElem lt]
  exact aux _ λ k hk=>List.mem_range.mp hk
 rw [g]
 by_cases c:i < its.length
 ·have:its.length - 1 - i < its.length:=by omega
  simp [c,this]
 ·simp [c]
theorem Vals.rev:∀ {xs:List V} {us:List Value},Vals xs us->Vals xs.reverse us.reverse
 | _,_,.nil=>.nil
 | _,_,.cons r t=>by
  rw [List.reverse_cons,List.reverse_cons]
  exact (Vals.rev t).append (.cons r .nil)
def tRev (K:Φρ) (te:TE):TE:=λ σ H Q=>te σ H λ x H1=>∃ a xs,x = .ref a/\SqL K H1 a xs/\∀ p H',New H1 p (.lst xs.reverse) H'->Q (.ref p) H'
theorem c9Q {e:Expr} {te:TE} {k1:Nat} {p1 p2 p3 pos:Pos} (eK:X.K = K) (he:PE X e te):PE X (.Subscript e (.Slice none none (some (.UnaryOp .USub (.Constant (.int 1) k1 p1) p3)) p2) pos) (tRev K te):=by
 subst eK
 intro pins s σ H Q I h
 refine Subscript_ (thn (he pins s σ H _ I h) λ v s1 ⟨x,H1,I1,r1,q1⟩=>?_)
 obtain ⟨a,xs,rfl,hx,q⟩:=q1
 cases r1
 refine wpAny_Slice ?_
 rw [evalPart_none]
 refine wpAny_pure ?_
 refine wpAny_pure ?_
 rw [evalPart_some]
 refine thn (c1O (b3T (X:=X)) a0G pins s1 σ H1 (λ v H'=>v = .int (-1)/\H' = H1) I1 ⟨_,rfl,rfl,rfl⟩) λ vu s2 ⟨y,H2,I2,r2,e1,e2⟩=>?_
 subst e1 e2
 obtain ⟨t,rfl⟩:=r2
 have I4:Inv X pins σ H2 { s2 with heap:=s2.heap.push { cls:=.type "slice", data:=.fields #[.none,.none,.int (-1) t] } }:=I2.kept (t':=s2.toks) λ b ob q=>Heap.get?_push_of_some _ q
 obtain ⟨its,r,ht,hz⟩:=I4.list hx
 have hlen:=r.length
 show wpAny (model X.prog X.w) X.A (subscriptTail e (.Slice none none (some (.UnaryOp .USub (.Constant (.int 1) k1 p1) p3)) p2) (.ref a) (.ref s2.heap.objs.size)) (EP X pins σ Q) X.xe { s2 with heap:=s2.heap.push { cls:=.type "slice", data:=.fields #[.none,.none,.int (-1) t] } }
 refine tail_any (ops:=[.ref a,.ref s2.heap.objs.size]) ht.isList.typeIs slot_list_getitem.lookup ?_ (by with_unfolding_all rfl)
 refine wpAny_getItem_list_slice ht.isList (Heap.IsSliceOf.new ..) .none .none (.int (-1) t) (by decide) ?_ (by rw [List.size_toArray]; omega)
 rw [c2M]
 refine ⟨.ref (s2.heap.push { cls:=.type "slice", data:=.fields #[.none,.none,.int (-1) t] }).objs.size,_,I4.laid (t':=s2.toks) (o:=.lst xs.reverse) (λ b ob q=>Heap.get?_push_of_some _ q) (Nat.le_refl _) ?_,rfl,q _ _ (New.mk0 (I4.hok.fresh (Nat.le_refl _)))⟩
 exact ⟨by rw [List.length_reverse]; exact hz,_,0,r.rev,Heap.get?_push_size _ rfl⟩
end
end L2
namespace L2
open PySem PySem.Spec PyProof.Rows
section
variable {X:Cx} {pos:Pos}
end
end L2
namespace L2
open PySem PySem.Spec PyProof.Rows
section
variable {X:Cx}
end
end L2
namespace Dq
open PySem PySem.Spec PyProof.Rows
variable {prog:Program} {w:World} {A:Around} {E:Value->Shared->Prop} {s:Shared}
end Dq
namespace L2
open PySem PySem.Spec PyProof.Rows Bg Srt
section
variable {X:Cx}
theorem b4L {H:Hp} {vs:List V} {ts:List ζζ} (h:Paired (TieL H) vs ts):∀ l:List Nat,(∀ i ∈ l,i < ts.length)->Paired (TieL H) (l.map λ i=>vs.getD i .non) (l.map λ i=>ts.getD i (0,0))
 | [],_=>.nil
 | i :: l,hl=>by
  obtain ⟨x,hx,q⟩:=a2H h (List.getElem?_eq_getElem (hl i List.mem_cons_self))
  refine .cons ?_ (b4L h l λ j hj=>hl j (List.mem_cons_of_mem _ hj))
  dsimp only
  rw [τα,hx,τα,List.getElem?_eq_getElem (hl i List.mem_cons_self)]
  exact q
theorem b9A {ts:List ζζ} {l:List Nat} (h:l.Perm (List.range ts.length)):(l.map λ i=>ts.getD i (0,0)).Perm ts:=by
 have e:(List.range ts.length).map (λ i=>ts.getD i (0,0)) = ts:=by
  apply List.ext_getElem?
  intro i
  rw [List.getElem?_map]
  by_cases c:i < ts.length
  ·rw [List.getElem?_range c,List.getElem?_eq_getElem c]
   show some (ts.getD i (0,0)) = _
   rw [τα,List.getElem?_eq_getElem c]; rfl
  ·rw [List.getElem?_eq_none (by rw [List.length_range]; omega),List.getElem?_eq_none (by omega)]; rfl
 have:=h.map (λ i=>ts.getD i (0,0))
 rw [e] at this
 exact this
end
end L2
set_option maxHeartbeats 2000000
namespace Sp
open PySem Sm
def hP (x y:Nat):Int:=reduceHash (Builtin.Tuple.tupleHashOf [hashInt (x:Int),hashInt (y:Int)])
def a2F (mask:Nat) (h:Int):SetTable.Probe:={ j:=SetTable.bits h % (mask + 1),more:=SetTable.runEnd mask (SetTable.bits h % (mask + 1)) - SetTable.bits h % (mask + 1),i:=SetTable.bits h % (mask + 1),perturb:=SetTable.bits h,dummy:=none }
def b6D (mask:Nat):Nat->SetTable.Probe->Nat->Nat
 | 0,_,m=>m
 | k + 1,p,m=>b6D mask k (adv mask p) (m ||| 2 ^ p.j)
theorem d1U:((List.range 100).map λ k=>hP (k / 10) (k % 10)).Nodup:=by decide +kernel
theorem c4Q {x y u v:Nat} (hx:x < 10) (hy:y < 10) (hu:u < 10) (hv:v < 10) (e:hP x y = hP u v):x = u/\y = v:=by
 have np:=List.pairwise_map.mp d1U
 have key:∀ a b,a < b->b < 100->hP (a / 10) (a % 10) ≠ hP (b / 10) (b % 10):=λ a b ab b1=>by
  have:=List.pairwise_iff_getElem.mp np a b (by rw [List.length_range]; omega) (by rw [List.length_range]; exact b1) ab
  rw [List.getElem_range,List.getElem_range] at this
  exact this
 have e1:(10 * x + y) / 10 = x:=by omega
 have e2:(10 * x + y) % 10 = y:=by omega
 have e3:(10 * u + v) / 10 = u:=by omega
 have e4:(10 * u + v) % 10 = v:=by omega
 rcases Nat.lt_trichotomy (10 * x + y) (10 * u + v) with c | c | c
 ·have:=key _ _ c (by omega)
  rw [e1,e2,e3,e4] at this
  exact absurd e this
 ·omega
 ·have:=key _ _ c (by omega)
  rw [e1,e2,e3,e4] at this
  exact absurd e.symm this
theorem c9R:∀ x,x < 10->∀ y,y < 10->b6D 7 219 (a2F 7 (hP x y)) 0 = 2 ^ 8 - 1:=by decide +kernel
theorem c6M:∀ x,x < 10->∀ y,y < 10->b6D 31 459 (a2F 31 (hP x y)) 0 = 2 ^ 32 - 1:=by decide +kernel
theorem c2N:∀ x,x < 10->∀ y,y < 10->b6D 127 1419 (a2F 127 (hP x y)) 0 = 2 ^ 128 - 1:=by decide +kernel
end Sp
set_option maxHeartbeats 2000000
namespace Sp
open PySem Sm
theorem a9E (mask:Nat):∀ (k:Nat) (p:SetTable.Probe),nth mask p (k + 1) = adv mask (nth mask p k)
 | 0,p=>rfl
 | k + 1,p=>by
  show nth mask (adv mask p) (k + 1) = adv mask (nth mask (adv mask p) k)
  exact a9E mask k (adv mask p)
theorem b4M (mask:Nat):∀ (k:Nat) (p:SetTable.Probe) (m j:Nat),(b6D mask k p m).testBit j = true->m.testBit j = true\/∃ i,i < k/\(nth mask p i).j = j
 | 0,p,m,j,h=>.inl h
 | k + 1,p,m,j,h=>by
  rcases b4M mask k (adv mask p) (m ||| 2 ^ p.j) j h with h | ⟨i,hi,e⟩
  ·rw [Nat.testBit_or,Nat.testBit_two_pow,Bool.or_eq_true,decide_eq_true_iff] at h
   rcases h with h | h
   ·exact .inl h
   ·exact .inr ⟨0,by omega,h⟩
  ·exact .inr ⟨i + 1,by omega,e⟩
def c4R (m:Nat):Prop:=m = 7\/m = 31\/m = 127
theorem c6N {mask x y j:Nat} (hm:c4R mask) (hx:x < 10) (hy:y < 10) (hj:j <= mask):∃ i,i < 10 * SetTable.turns mask - 1/\(nth mask (a2F mask (hP x y)) i).j = j:=by
 have fin:∀ (M K:Nat),b6D mask K (a2F mask (hP x y)) 0 = 2 ^ M - 1->j < M->∃ i,i < K/\(nth mask (a2F mask (hP x y)) i).j = j:=λ M K e l=>by
  have b:(2 ^ M - 1).testBit j = true:=by rw [Nat.testBit_two_pow_sub_one]; exact decide_eq_true l
  rw [<- e] at b
  rcases b4M mask _ _ _ _ b with h | h
  ·rw [Nat.zero_testBit] at h; cases h
  ·exact h
 rcases hm with rfl | rfl | rfl
 ·exact fin 8 219 (c9R x hx y hy) (by omega)
 ·exact fin 32 459 (c6M x hx y hy) (by omega)
 ·exact fin 128 1419 (c2N x hx y hy) (by omega)
theorem b9B {t:SetTable} (dm:t.dummies = #[]) (up:t.place.toList.Pairwise (· < ·)) (hashAt:Nat->Int) (h:Int):∀ (k0 fuel:Nat) (p:SetTable.Probe),k0 < fuel->p.dummy = none->(nth t.mask p k0).j ∉ t.place.toList ->
  (∃ k,(nth t.mask p k).j ∉ t.place.toList/\(∀ k',k' < k->(nth t.mask p k').j ∈ t.place.toList)/\(∀ k',k' < k->∀ i,t.slot (nth t.mask p k').j = .live i->hashAt i ≠ h)/\SetTable.probe.go t hashAt h fuel p = some (.empty (nth t.mask p k).j none)) \/
  (∃ j i next,t.slot j = .live i/\hashAt i = h/\SetTable.probe.go t hashAt h fuel p = some (.candidate j i next)):=by
 intro k0
 induction k0 with
 | zero =>
  intro fuel p hf hd hn
  obtain ⟨f,rfl⟩:∃ f,fuel = f + 1:=⟨fuel - 1,by omega⟩
  refine .inl ⟨0,hn,λ k' h=>absurd h (Nat.not_lt_zero _),λ k' h=>absurd h (Nat.not_lt_zero _),?_⟩
  unfold SetTable.probe.go
  have hn':p.j ∉ t.place.toList:=hn
  rw [a3B dm hn',hd]
  rfl
 | succ k0 ih =>
  intro fuel p hf hd hn
  obtain ⟨f,rfl⟩:∃ f,fuel = f + 1:=⟨fuel - 1,by omega⟩
  by_cases c:p.j ∈ t.place.toList
  ·obtain ⟨i,e⟩:=b0Y up c
   by_cases hh:hashAt i = h
   ·refine .inr ⟨p.j,i,t.advance p,e,hh,?_⟩
    unfold SetTable.probe.go
    rw [e]
    dsimp only
    rw [beq_iff_eq.mpr hh]
    rfl
   ·have st:SetTable.probe.go t hashAt h (f + 1) p = SetTable.probe.go t hashAt h f (adv t.mask p):=by
     rw [SetTable.probe.go,e]
     dsimp only
     rw [beq_eq_false_iff_ne.mpr hh,c4M]
     rfl
    rw [st]
    rcases ih f (adv t.mask p) (by omega) (by rw [b0Z]; exact hd) hn with ⟨k,h1,h2,h3,h4⟩ | h
    ·refine .inl ⟨k + 1,h1,λ k' hk=>?_,λ k' hk i' e'=>?_,h4⟩
     ·cases k' with
      | zero=>exact c
      | succ k'=>exact h2 k' (by omega)
     ·cases k' with
      | zero =>
       have e'':t.slot p.j = .live i':=e'
       rw [e] at e''
       injection e'' with e''
       rw [<- e'']; exact hh
      | succ k'=>exact h3 k' (by omega) i' e'
    ·exact .inr h
  ·refine .inl ⟨0,c,λ k' h=>absurd h (Nat.not_lt_zero _),λ k' h=>absurd h (Nat.not_lt_zero _),?_⟩
   unfold SetTable.probe.go
   rw [a3B dm c,hd]
   rfl
end Sp
set_option maxHeartbeats 2000000
namespace Sp
open PySem Sm
abbrev Pr:=Nat × Nat
abbrev hPr (p:Pr):Int:=hP p.1 p.2
def Rch (mask:Nat) (pl:List Nat) (h:Int) (j:Nat):Prop:=∃ k,(nth mask (a2F mask h) k).j = j/\∀ k',k' < k->(nth mask (a2F mask h) k').j ∈ pl
theorem Rch.more {mask:Nat} {pl pl':List Nat} {h:Int} {j:Nat} (s:∀ x ∈ pl,x ∈ pl') (r:Rch mask pl h j):Rch mask pl' h j :=
 let ⟨k,e,a⟩:=r; ⟨k,e,λ k' hk=>s _ (a k' hk)⟩
structure TbP (B:Bool) (t:SetTable) (L:List Pr):Prop where
 dm:t.dummies = #[]
 pl:t.plain = true
 led:t.led = !B
 up:t.place.toList.Pairwise (· < ·)
 sz:t.place.size = L.length
 nd:L.Nodup
 lt:∀ p ∈ L,p.1 < 10/\p.2 < 10
 mok:c4R t.mask
 inn:∀ j ∈ t.place.toList,j <= t.mask
 rch:∀ (i j:Nat) (p:Pr),t.place.toList[i]? = some j->L[i]? = some p->Rch t.mask t.place.toList (hPr p) j
theorem c6O {t:SetTable} (up:t.place.toList.Pairwise (· < ·)) {k:Nat} (hk:k < t.place.size):t.slot t.place[k] = .live k:=by
 unfold SetTable.slot
 dsimp only
 rw [b4B up hk]
 have:(t.place[k]? == some t.place[k]) = true:=by simp [hk]
 rw [this]
 rfl
theorem b4N {t:SetTable} (dm:t.dummies = #[]) {j i:Nat} (h:t.slot j = .live i):t.place[i]? = some j:=by
 unfold SetTable.slot at h
 dsimp only at h
 by_cases c:(t.place[SetTable.below t.place j]? == some j) = true
 ·rw [if_pos c] at h
  injection h with h
  rw [<- h]
  exact beq_iff_eq.mp c
 ·rw [if_neg c,dm,a9C] at h
  cases h
def InM (mask:Nat) (p:SetTable.Probe):Prop:=p.j + p.more <= mask
theorem c4S {mask i:Nat} (h:i <= mask):i <= SetTable.runEnd mask i/\SetTable.runEnd mask i <= mask:=by
 unfold SetTable.runEnd
 split <;> omega
theorem c6P {mask:Nat} {p:SetTable.Probe} (h:InM mask p):InM mask (adv mask p):=by
 unfold adv InM at *
 by_cases c:0 < p.more
 ·rw [if_pos c]
  show p.j + 1 + (p.more - 1) <= mask
  omega
 ·rw [if_neg c]
  have l:(SetTable.leap mask p.i p.perturb).1 <= mask:=by
   unfold SetTable.leap
   exact Nat.le_of_lt_succ (Nat.mod_lt _ (Nat.succ_pos _))
  have:=c4S l
  show (SetTable.leap mask p.i p.perturb).1 + (SetTable.runEnd mask (SetTable.leap mask p.i p.perturb).1 - (SetTable.leap mask p.i p.perturb).1) <= mask
  omega
theorem b9C {mask:Nat}:∀ (k:Nat) {p:SetTable.Probe},InM mask p->InM mask (nth mask p k)
 | 0,_,h=>h
 | k + 1,_,h=>b9C k (c6P h)
theorem b9D (mask:Nat) (h:Int):InM mask (a2F mask h):=by
 have l:SetTable.bits h % (mask + 1) <= mask:=Nat.le_of_lt_succ (Nat.mod_lt _ (Nat.succ_pos _))
 have:=c4S l
 show SetTable.bits h % (mask + 1) + (SetTable.runEnd mask (SetTable.bits h % (mask + 1)) - SetTable.bits h % (mask + 1)) <= mask
 omega
theorem a8I (mask k:Nat) (h:Int):(nth mask (a2F mask h) k).j <= mask:=by
 have:=b9C k (b9D mask h)
 unfold InM at this
 omega
section
variable {B:Bool} {t:SetTable} {L:List Pr} {hashAt:Nat->Int} {p:Pr}
theorem TbP.gap (T:TbP B t L) (few:L.length <= t.mask) (hp:p.1 < 10/\p.2 < 10):∃ k,k < 10 * SetTable.turns t.mask/\(nth t.mask (a2F t.mask (hPr p)) k).j ∉ t.place.toList:=by
 have ex:∃ j,j <= t.mask/\j ∉ t.place.toList:=by
  apply Classical.byContradiction
  intro c
  have q:∀ j ∈ List.range (t.mask + 1),j ∈ t.place.toList:=λ j hj=>Classical.byContradiction λ d=>c ⟨j,by have:=List.mem_range.mp hj; omega,d⟩
  have:=b1A _ _ List.nodup_range q
  rw [List.length_range,Array.length_toList,T.sz] at this
  omega
 obtain ⟨j,hj,nj⟩:=ex
 obtain ⟨k,hk,e⟩:=c6N T.mok hp.1 hp.2 hj
 exact ⟨k,by omega,by rw [e]; exact nj⟩
theorem TbP.there (T:TbP B t L) (few:L.length <= t.mask) (hA:∀ (i:Nat) (q:Pr),L[i]? = some q->hashAt i = hPr q) (hp:p ∈ L):∃ j i next,t.probe hashAt (hPr p) (t.probeStart (hPr p)) = some (.candidate j i next)/\L[i]? = some p:=by
 have l10:=T.lt p hp
 obtain ⟨k0,hk0,n0⟩:=T.gap few l10
 have live:∀ {j i:Nat},t.slot j = .live i->∃ q,L[i]? = some q/\q.1 < 10/\q.2 < 10:=λ {j i} e=>by
  have e':=b4N T.dm e
  have il:i < t.place.size:=by
   rw [Array.getElem?_eq_some_iff] at e'
   exact e'.1
  have il2:i < L.length:=by rw [<- T.sz]; exact il
  exact ⟨L[i],List.getElem?_eq_getElem il2,T.lt _ (List.getElem_mem il2)⟩
 rcases b9B T.dm T.up hashAt (hPr p) k0 (10 * SetTable.turns t.mask) (a2F t.mask (hPr p)) hk0 rfl n0 with ⟨k,h1,h2,h3,_⟩ | ⟨j,i,next,e1,e2,e3⟩
 ·exfalso
  obtain ⟨i,hi⟩:=List.getElem?_of_mem hp
  have il:i < L.length:=(List.getElem?_eq_some_iff.mp hi).1
  have il2:i < t.place.size:=by rw [T.sz]; exact il
  have hj:t.place.toList[i]? = some t.place[i]:=by rw [Array.getElem?_toList]; simp [il2]
  obtain ⟨kk,ek,ak⟩:=T.rch i _ p hj hi
  rcases Nat.lt_or_ge kk k with c | c
  ·have s:=c6O T.up il2
   exact h3 kk c i (by rw [ek]; exact s) (hA i p hi)
  ·rcases Nat.lt_or_ge k kk with d | d
   ·exact h1 (ak k d)
   ·have:kk = k:=by omega
    subst this
    exact h1 (by rw [ek]; exact Array.getElem_mem_toList il2)
 ·obtain ⟨q,hq,q10⟩:=live e1
  have:=hA i q hq
  rw [this] at e2
  obtain ⟨x1,x2⟩:=c4Q q10.1 q10.2 l10.1 l10.2 e2
  have:q = p:=Prod.ext x1 x2
  exact ⟨j,i,next,e3,by rw [hq,this]⟩
theorem TbP.free (T:TbP B t L) (few:L.length <= t.mask) (hA:∀ (i:Nat) (q:Pr),L[i]? = some q->hashAt i = hPr q) (hp:p ∉ L) (l10:p.1 < 10/\p.2 < 10):∃ j,t.probe hashAt (hPr p) (t.probeStart (hPr p)) = some (.empty j none)/\j ∉ t.place.toList/\j <= t.mask/\Rch t.mask t.place.toList (hPr p) j:=by
 obtain ⟨k0,hk0,n0⟩:=T.gap few l10
 rcases b9B T.dm T.up hashAt (hPr p) k0 (10 * SetTable.turns t.mask) (a2F t.mask (hPr p)) hk0 rfl n0 with ⟨k,h1,h2,h3,h4⟩ | ⟨j,i,next,e1,e2,e3⟩
 ·exact ⟨_,h4,h1,a8I _ _ _,k,rfl,h2⟩
 ·exfalso
  have e':=b4N T.dm e1
  have il:i < t.place.size:=by
   rw [Array.getElem?_eq_some_iff] at e'
   exact e'.1
  have il2:i < L.length:=by rw [<- T.sz]; exact il
  have hq:L[i]? = some L[i]:=List.getElem?_eq_getElem il2
  have q10:=T.lt _ (List.getElem_mem il2)
  rw [hA i _ hq] at e2
  obtain ⟨x1,x2⟩:=c4Q q10.1 q10.2 l10.1 l10.2 e2
  exact hp (by rw [show p = L[i] from (Prod.ext x1 x2).symm]; exact List.getElem_mem il2)
end
end Sp
set_option maxHeartbeats 2000000
namespace Sp
open PySem Sm
theorem a8T {α:Type} (l:List α) (q:Nat) (x:α) (hq:q <= l.length) (i:Nat):(l.take q ++ x :: l.drop q)[i]? = if i < q then l[i]? else if i = q then some x else l[i - 1]?:=by
 have lt:(l.take q).length = q:=by rw [List.length_take]; omega
 by_cases c:i < q
 ·rw [if_pos c,List.getElem?_append_left (by omega),List.getElem?_take_of_lt c]
 ·rw [if_neg c,List.getElem?_append_right (by omega),lt]
  by_cases d:i = q
  ·rw [if_pos d,d,Nat.sub_self]; rfl
  ·rw [if_neg d]
   obtain ⟨k,ek⟩:∃ k,i - q = k + 1:=⟨i - q - 1,by omega⟩
   rw [ek,List.getElem?_cons_succ,List.getElem?_drop]
   congr 1
   omega
theorem mem_ins {α:Type} {l:List α} {q:Nat} {x u:α}:u ∈ l.take q ++ x :: l.drop q ↔ u = x\/u ∈ l:=by
 rw [List.mem_append,List.mem_cons]
 have e:u ∈ l ↔ u ∈ l.take q\/u ∈ l.drop q:=by rw [<- List.mem_append,List.take_append_drop]
 rw [e]
 constructor
 ·rintro (c | c | c)
  ·exact .inr (.inl c)
  ·exact .inl c
  ·exact .inr (.inr c)
 ·rintro (c | c | c)
  ·exact .inr (.inl c)
  ·exact .inl c
  ·exact .inr (.inr c)
theorem c9S {α:Type} {l:List α} {q:Nat} {x:α} (nd:l.Nodup) (h:x ∉ l):(l.take q ++ x :: l.drop q).Nodup:=by
 have pm:(l.take q ++ x :: l.drop q).Perm (x :: l):=by
  have:l.take q ++ l.drop q = l:=List.take_append_drop q l
  exact List.perm_middle.trans (by rw [this])
 exact pm.nodup_iff.mpr (List.nodup_cons.mpr ⟨h,nd⟩)
theorem a9F {α:Type} (l:List α) (q:Nat) (x:α):(l.take q ++ x :: l.drop q).length = l.length + 1:=by
 rw [List.length_append,List.length_cons,List.length_take,List.length_drop]; omega
theorem TbP.put {B:Bool} {t:SetTable} {L:List Pr} {p:Pr} {j:Nat} (T:TbP B t L) (nj:j ∉ t.place.toList) (lj:j <= t.mask) (r:Rch t.mask t.place.toList (hPr p) j) (np:p ∉ L) (l10:p.1 < 10/\p.2 < 10) :
  (t.put j).2 <= L.length/\(t.put j).1.mask = t.mask/\(t.put j).1.moves = t.moves/\TbP B (t.put j).1 (L.take (t.put j).2 ++ p :: L.drop (t.put j).2):=by
 have hd:SetTable.has t.dummies j = false:=by rw [T.dm]; exact a9C j
 have bl:=(a4S T.up j).1
 have bl':SetTable.below t.place j <= L.length:=by rw [<- T.sz]; exact bl
 have lp:t.place.toList.length = L.length:=by rw [Array.length_toList,T.sz]
 have e1:(t.put j).1 = { t with place:=SetTable.insertAt t.place (SetTable.below t.place j) j }:=by
  unfold SetTable.put
  dsimp only
  rw [hd]
  rfl
 have e2:(t.put j).2 = SetTable.below t.place j:=rfl
 have pl:(t.put j).1.place.toList = t.place.toList.take (SetTable.below t.place j) ++ j :: t.place.toList.drop (SetTable.below t.place j):=by
  rw [e1]
  exact SetTable.toList_insertAt ..
 refine ⟨by rw [e2]; exact bl',by rw [e1],by rw [e1],?_⟩
 rw [e2]
 refine ⟨by rw [e1]; exact T.dm,by rw [e1]; exact T.pl,by rw [e1]; exact T.led,?_,?_,c9S T.nd np,λ u hu=>?_,by rw [e1]; exact T.mok,λ u hu=>?_,λ i j' p' hj hp=>?_⟩
 ·rw [e1]
  exact c4N T.up nj
 ·rw [<- Array.length_toList,pl,a9F,a9F,lp]
 ·rcases mem_ins.mp hu with rfl | hu
  ·exact l10
  ·exact T.lt u hu
 ·rw [pl] at hu
  rw [e1]
  show u <= t.mask
  rcases mem_ins.mp hu with rfl | hu
  ·exact lj
  ·exact T.inn u hu
 ·rw [pl] at hj ⊢
  have em:(t.put j).1.mask = t.mask:=by rw [e1]
  rw [em]
  have sub:∀ x ∈ t.place.toList,x ∈ t.place.toList.take (SetTable.below t.place j) ++ j :: t.place.toList.drop (SetTable.below t.place j):=λ x hx=>mem_ins.mpr (.inr hx)
  rw [a8T _ _ _ (by omega)] at hj
  rw [a8T _ _ _ bl'] at hp
  by_cases c:i < SetTable.below t.place j
  ·rw [if_pos c] at hj hp
   exact Rch.more sub (T.rch i j' p' hj hp)
  ·rw [if_neg c] at hj hp
   by_cases d:i = SetTable.below t.place j
   ·rw [if_pos d] at hj hp
    have hj:=Option.some.inj hj
    have hp:=Option.some.inj hp
    subst hj
    subst hp
    exact Rch.more sub r
   ·rw [if_neg d] at hj hp
    exact Rch.more sub (T.rch (i - 1) j' p' hj hp)
end Sp
set_option maxHeartbeats 2000000
namespace Sp
open PySem Sm
def wp (mask i pe:Nat):SetTable.Probe:={ j:=i,more:=SetTable.runEnd mask i - i,i,perturb:=pe,dummy:=none }
theorem a7B {mask i pe:Nat}:∀ e,e <= SetTable.runEnd mask i - i->nth mask (wp mask i pe) e = { j:=i + e,more:=SetTable.runEnd mask i - i - e,i,perturb:=pe,dummy:=none }
 | 0,_=>rfl
 | e + 1,h=>by
  rw [a9E,a7B e (by omega)]
  unfold adv
  rw [if_pos (by show 0 < SetTable.runEnd mask i - i - e; omega)]
  show SetTable.Probe.mk (i + e + 1) (SetTable.runEnd mask i - i - e - 1) i pe none = _
  congr 1
theorem b4O {mask i pe:Nat}:nth mask (wp mask i pe) (SetTable.runEnd mask i - i + 1) = wp mask (SetTable.leap mask i pe).1 (SetTable.leap mask i pe).2:=by
 rw [a9E,a7B _ (Nat.le_refl _)]
 unfold adv
 rw [if_neg (by show ¬ 0 < SetTable.runEnd mask i - i - (SetTable.runEnd mask i - i); omega)]
 rfl
theorem b3D (mask:Nat):∀ (a b:Nat) (p:SetTable.Probe),nth mask p (a + b) = nth mask (nth mask p a) b
 | 0,b,p=>by rw [Nat.zero_add]; rfl
 | a + 1,b,p=>by
  rw [show a + 1 + b = (a + b) + 1 by omega]
  show nth mask (adv mask p) (a + b) = _
  rw [b3D mask a b (adv mask p)]
  rfl
abbrev Own:=Array (Option Nat)
def tk (o:Own) (j:Nat):Prop:=(o.getD j (some 0)).isSome = true
theorem b1G {mask:Nat} {o:Own}:∀ (fuel i pe j:Nat),SetTable.layClean.free mask o fuel i pe = some j->∃ k,(nth mask (wp mask i pe) k).j = j/\¬ tk o j/\∀ k',k' < k->tk o (nth mask (wp mask i pe) k').j
 | 0,i,pe,j,h=>by cases h
 | fuel + 1,i,pe,j,h=>by
  rw [SetTable.layClean.free] at h
  cases e:(List.range (SetTable.runEnd mask i + 1 - i)).find? λ k=>(o.getD (i + k) (some 0)).isNone with
  | some k =>
   rw [e] at h
   have h:=Option.some.inj h
   obtain ⟨h1,h2,h3⟩:=List.find?_range_eq_some.mp e
   have kl:=List.mem_range.mp h2
   have k1:k <= SetTable.runEnd mask i - i:=by omega
   refine ⟨k,by rw [a7B k k1]; exact h,λ t=>?_,λ k' hk=>?_⟩
   ·unfold tk at t
    rw [<- h] at t
    rw [Option.isNone_iff_eq_none] at h1
    rw [h1] at t
    cases t
   ·rw [a7B k' (by omega)]
    have:=h3 k' hk
    unfold tk
    show (o.getD (i + k') (some 0)).isSome = true
    cases q:o.getD (i + k') (some 0) with
    | none=>rw [q] at this; cases this
    | some _=>rfl
  | none =>
   rw [e] at h
   have all:∀ k',k' <= SetTable.runEnd mask i - i->tk o (i + k'):=λ k' hk=>by
    by_cases c:k' < SetTable.runEnd mask i + 1 - i
    ·have:=List.find?_eq_none.mp e k' (List.mem_range.mpr c)
     unfold tk
     cases q:o.getD (i + k') (some 0) with
     | none=>rw [q] at this; exact absurd rfl this
     | some _=>rfl
    ·have re:i <= SetTable.runEnd mask i:=by unfold SetTable.runEnd; split <;> omega
     omega
   obtain ⟨k,h1,h2,h3⟩:=b1G fuel _ _ j h
   refine ⟨SetTable.runEnd mask i - i + 1 + k,by rw [b3D,b4O]; exact h1,h2,λ k' hk=>?_⟩
   by_cases c:k' <= SetTable.runEnd mask i - i
   ·rw [a7B k' c]
    exact all k' c
   ·obtain ⟨d,ed⟩:∃ d,k' = SetTable.runEnd mask i - i + 1 + d:=⟨k' - (SetTable.runEnd mask i - i + 1),by omega⟩
    rw [ed,b3D,b4O]
    exact h3 d (by omega)
def b9E (mask:Nat):Nat->Nat->Nat->Nat->Nat
 | 0,_,_,m=>m
 | f + 1,i,pe,m=>b9E mask f (SetTable.leap mask i pe).1 (SetTable.leap mask i pe).2 (m ||| ((2 ^ (SetTable.runEnd mask i + 1 - i) - 1) * 2 ^ i))
theorem b1H {mask:Nat} {o:Own}:∀ (fuel i pe m j:Nat),SetTable.layClean.free mask o fuel i pe = none->(b9E mask fuel i pe m).testBit j = true->m.testBit j = true\/tk o j
 | 0,i,pe,m,j,h,b=>.inl b
 | fuel + 1,i,pe,m,j,h,b=>by
  rw [SetTable.layClean.free] at h
  cases e:(List.range (SetTable.runEnd mask i + 1 - i)).find? λ k=>(o.getD (i + k) (some 0)).isNone with
  | some k=>rw [e] at h; cases h
  | none =>
   rw [e] at h
   rcases b1H fuel _ _ _ j h b with b | b
   ·rw [Nat.testBit_or,Bool.or_eq_true] at b
    rcases b with b | b
    ·exact .inl b
    ·refine .inr ?_
     rw [<- Nat.shiftLeft_eq,Nat.testBit_shiftLeft,Bool.and_eq_true,decide_eq_true_iff,Nat.testBit_two_pow_sub_one,decide_eq_true_iff] at b
     have:=List.find?_eq_none.mp e (j - i) (List.mem_range.mpr b.2)
     have ej:i + (j - i) = j:=by omega
     rw [ej] at this
     unfold tk
     cases q:o.getD j (some 0) with
     | none=>rw [q] at this; exact absurd rfl this
     | some _=>rfl
   ·exact .inr b
theorem c9T:∀ x,x < 10->∀ y,y < 10->b9E 31 (SetTable.turns 31) (SetTable.bits (hP x y) % 32) (SetTable.bits (hP x y)) 0 = 2 ^ 32 - 1:=by decide +kernel
theorem c6Q:∀ x,x < 10->∀ y,y < 10->b9E 127 (SetTable.turns 127) (SetTable.bits (hP x y) % 128) (SetTable.bits (hP x y)) 0 = 2 ^ 128 - 1:=by decide +kernel
theorem c6R {mask:Nat} {o:Own} {p:Pr} (hm:mask = 31\/mask = 127) (hp:p.1 < 10/\p.2 < 10) (ex:∃ j,j <= mask/\¬ tk o j) :
  ∃ j,SetTable.layClean.free mask o (SetTable.turns mask) (SetTable.bits (hPr p) % (mask + 1)) (SetTable.bits (hPr p)) = some j/\j <= mask/\¬ tk o j/\∃ k,(nth mask (a2F mask (hPr p)) k).j = j/\∀ k',k' < k->tk o (nth mask (a2F mask (hPr p)) k').j:=by
 cases e:SetTable.layClean.free mask o (SetTable.turns mask) (SetTable.bits (hPr p) % (mask + 1)) (SetTable.bits (hPr p)) with
 | none =>
  exfalso
  obtain ⟨j,hj,nj⟩:=ex
  have key:∀ M,b9E mask (SetTable.turns mask) (SetTable.bits (hPr p) % (mask + 1)) (SetTable.bits (hPr p)) 0 = 2 ^ M - 1->j < M->False:=λ M ew l=>by
   have b:(2 ^ M - 1).testBit j = true:=by rw [Nat.testBit_two_pow_sub_one]; exact decide_eq_true l
   rw [<- ew] at b
   rcases b1H _ _ _ _ _ e b with h | h
   ·rw [Nat.zero_testBit] at h; cases h
   ·exact nj h
  rcases hm with rfl | rfl
  ·exact key 32 (c9T p.1 hp.1 p.2 hp.2) (by omega)
  ·exact key 128 (c6Q p.1 hp.1 p.2 hp.2) (by omega)
 | some j =>
  obtain ⟨k,h1,h2,h3⟩:=b1G _ _ _ _ e
  refine ⟨j,rfl,?_,h2,k,h1,h3⟩
  rw [<- h1]
  exact a8I mask k (hPr p)
end Sp
set_option maxHeartbeats 2000000
namespace Sp
open PySem Sm
structure OwnI (mask:Nat) (o:Own) (L:List Pr) (n:Nat):Prop where
 size:o.size = mask + 1
 idx:∀ j k:Nat,o[j]? = some (some k)->k < n/\∃ p,L[k]? = some p/\∃ kk,(nth mask (a2F mask (hPr p)) kk).j = j/\∀ k',k' < kk->tk o (nth mask (a2F mask (hPr p)) k').j
 all:∀ k:Nat,k < n->∃ j:Nat,o[j]? = some (some k)
 one:∀ j j' k:Nat,o[j]? = some (some k)->o[j']? = some (some k)->j = j'
theorem b1I {mask:Nat} {o:Own} (sz:o.size = mask + 1) {j:Nat} (hj:j <= mask):tk o j ↔ ∃ k,o[j]? = some (some k):=by
 have l:j < o.size:=by omega
 unfold tk
 have e:o.getD j (some 0) = o[j]:=by simp [Array.getD,l]
 have e2:o[j]? = some o[j]:=by simp [l]
 rw [e,e2]
 cases o[j] with
 | none=>simp
 | some k=>simp
theorem OwnI.gap {mask:Nat} {o:Own} {L:List Pr} {n:Nat} (I:OwnI mask o L n) (h:n <= mask):∃ j,j <= mask/\¬ tk o j:=by
 apply Classical.byContradiction
 intro c
 have all:∀ j,j <= mask->∃ k,o[j]? = some (some k):=λ j hj=>(b1I I.size hj).mp (Classical.byContradiction λ d=>c ⟨j,hj,d⟩)
 have nd:((List.range (mask + 1)).map λ j=>(o[j]?.getD none).getD 0).Nodup:=by
  unfold List.Nodup
  rw [List.pairwise_map]
  refine List.Pairwise.imp_of_mem (λ {a b} ha hb ne e=>?_) List.nodup_range
  obtain ⟨k,hk⟩:=all a (by have:=List.mem_range.mp ha; omega)
  obtain ⟨k',hk'⟩:=all b (by have:=List.mem_range.mp hb; omega)
  rw [hk,hk'] at e
  have e':k = k':=e
  subst e'
  exact ne (I.one a b k hk hk')
 have:=b1A _ (List.range n) nd λ x hx=>by
  obtain ⟨j,hj,rfl⟩:=List.mem_map.mp hx
  obtain ⟨k,hk⟩:=all j (by have:=List.mem_range.mp hj; omega)
  rw [hk]
  exact List.mem_range.mpr (I.idx j k hk).1
 rw [List.length_map,List.length_range,List.length_range] at this
 omega
theorem OwnI.next {mask:Nat} {o:Own} {L:List Pr} {n j:Nat} {p:Pr} (I:OwnI mask o L n) (hj:j <= mask) (nj:¬ tk o j) (hp:L[n]? = some p) (r:∃ kk,(nth mask (a2F mask (hPr p)) kk).j = j/\∀ k',k' < kk->tk o (nth mask (a2F mask (hPr p)) k').j):OwnI mask (o.setIfInBounds j (some n)) L (n + 1):=by
 have jl:j < o.size:=by have:=I.size; omega
 have get:∀ i,(o.setIfInBounds j (some n))[i]? = if i = j then some (some n) else o[i]?:=λ i=>by
  rw [Array.getElem?_setIfInBounds]
  by_cases c:j = i
  ·subst c
   rw [if_pos rfl,if_pos jl,if_pos rfl]
  ·rw [if_neg c,if_neg λ z=>c z.symm]
 have sz:(o.setIfInBounds j (some n)).size = mask + 1:=by rw [Array.size_setIfInBounds]; exact I.size
 have nj':∀ k,o[j]? ≠ some (some k):=λ k e=>nj ((b1I I.size hj).mpr ⟨k,e⟩)
 have mono:∀ i,i <= mask->tk o i->tk (o.setIfInBounds j (some n)) i:=λ i hi h=>by
  obtain ⟨k,hk⟩:=(b1I I.size hi).mp h
  refine (b1I sz hi).mpr ?_
  rw [get]
  by_cases c:i = j
  ·rw [if_pos c]; exact ⟨n,rfl⟩
  ·rw [if_neg c]; exact ⟨k,hk⟩
 refine ⟨sz,λ i k h=>?_,λ k hk=>?_,λ i i' k h h'=>?_⟩
 ·rw [get] at h
  by_cases c:i = j
  ·rw [if_pos c] at h
   have h:=Option.some.inj (Option.some.inj h)
   subst h
   refine ⟨by omega,p,hp,?_⟩
   obtain ⟨kk,e,a⟩:=r
   exact ⟨kk,by rw [c]; exact e,λ k' hk=>mono _ (a8I _ _ _) (a k' hk)⟩
  ·rw [if_neg c] at h
   obtain ⟨h1,q,hq,kk,e,a⟩:=I.idx i k h
   exact ⟨by omega,q,hq,kk,e,λ k' hk=>mono _ (a8I _ _ _) (a k' hk)⟩
 ·by_cases c:k = n
  ·subst c
   exact ⟨j,by rw [get,if_pos rfl]⟩
  ·obtain ⟨i,hi⟩:=I.all k (by omega)
   refine ⟨i,?_⟩
   rw [get,if_neg λ z=>?_]
   ·exact hi
   ·rw [z] at hi; exact nj' k hi
 ·rw [get] at h h'
  by_cases c:i = j
  ·by_cases c':i' = j
   ·rw [c,c']
   ·rw [if_pos c] at h
    rw [if_neg c'] at h'
    have h:=Option.some.inj (Option.some.inj h)
    subst h
    have:=(I.idx i' _ h').1
    omega
  ·by_cases c':i' = j
   ·rw [if_pos c'] at h'
    rw [if_neg c] at h
    have h':=Option.some.inj (Option.some.inj h')
    subst h'
    have:=(I.idx i _ h).1
    omega
   ·rw [if_neg c] at h
    rw [if_neg c'] at h'
    exact I.one i i' k h h'
theorem own0 (mask:Nat) (L:List Pr):OwnI mask (Array.replicate (mask + 1) none) L 0:=by
 have get:∀ (j k:Nat),(Array.replicate (mask + 1) (none:Option Nat))[j]? ≠ some (some k):=λ j k e=>by
  rw [Array.getElem?_replicate] at e
  split at e <;> cases e
 exact ⟨Array.size_replicate,λ j k h=>absurd h (get j k),λ k hk=>absurd hk (Nat.not_lt_zero _),λ j j' k h=>absurd h (get j k)⟩
def a9G (mask:Nat) (acc:Option (Own × Nat)) (h:Int):Option (Own × Nat):=do
 let (owner,k) <- acc
 let j <- SetTable.layClean.free mask owner (SetTable.turns mask) (SetTable.bits h % (mask + 1)) (SetTable.bits h)
 pure (owner.setIfInBounds j (some k),k + 1)
theorem c2O (mask:Nat) (hs:Array Int):SetTable.layClean mask hs = (hs.foldl (a9G mask) (some (Array.replicate (mask + 1) none,0))).map (·.1):=by
 unfold SetTable.layClean
 rfl
theorem d1V {mask m j:Nat} {o:Own} {h:Int} (e:SetTable.layClean.free mask o (SetTable.turns mask) (SetTable.bits h % (mask + 1)) (SetTable.bits h) = some j):a9G mask (some (o,m)) h = some (o.setIfInBounds j (some m),m + 1):=by
 simp only [a9G,bind,Option.bind,e,pure]
theorem c6S {mask:Nat} {L:List Pr} (hm:mask = 31\/mask = 127) (lt:∀ p ∈ L,p.1 < 10/\p.2 < 10) (few:L.length <= mask) (rest:List Pr):∀ (m:Nat) (o:Own),OwnI mask o L m->(∀ i,L[m + i]? = rest[i]?)->m + rest.length = L.length->∃ o',(rest.map hPr).foldl (a9G mask) (some (o,m)) = some (o',L.length)/\OwnI mask o' L L.length:=by
 induction rest with
 | nil =>
  intro m o I _ l
  have:m = L.length:=by rw [<- l]; rfl
  subst this
  exact ⟨o,rfl,I⟩
 | cons p rest ih =>
  intro m o I he l
  have l':m + (rest.length + 1) = L.length:=l
  have hp:L[m]? = some p:=he 0
  obtain ⟨j,e,hj,nj,r⟩:=c6R hm (lt p (List.mem_of_getElem? hp)) (I.gap (by omega))
  rw [List.map_cons,List.foldl_cons,d1V e]
  refine ih (m + 1) _ (I.next hj nj hp r) (λ i=>?_) (by omega)
  rw [show m + 1 + i = m + (i + 1) by omega]
  exact he (i + 1)
end Sp
set_option maxHeartbeats 1000000
namespace Sp
open PySem Sm
def a3Q (mask:Nat) (o:Own):List (Nat × Nat):=(List.range (mask + 1)).filterMap λ j=>(o.getD j none).map (j,·)
theorem getD_at {o:Own} {j k:Nat}:o.getD j none = some k ↔ o[j]? = some (some k):=by
 rw [Array.getD_eq_getD_getElem?]
 cases o[j]? with
 | none=>simp
 | some v=>simp
theorem live_mem {mask:Nat} {o:Own} {j k:Nat}:(j,k) ∈ a3Q mask o ↔ j <= mask/\o[j]? = some (some k):=by
 unfold a3Q
 rw [List.mem_filterMap]
 constructor
 ·rintro ⟨i,hi,e⟩
  obtain ⟨k',hk,e'⟩:=Option.map_eq_some_iff.mp e
  injection e' with e1 e2
  subst e1
  subst e2
  exact ⟨by have:=List.mem_range.mp hi; omega,getD_at.mp hk⟩
 ·rintro ⟨h1,h2⟩
  exact ⟨j,List.mem_range.mpr (by omega),by rw [getD_at.mpr h2]; rfl⟩
theorem b9F (mask:Nat) (o:Own):(a3Q mask o).Pairwise (λ a b=>a.1 < b.1):=by
 unfold a3Q
 refine List.Pairwise.filterMap _ (λ a b ab x hx y hy=>?_) List.pairwise_lt_range
 obtain ⟨k,_,rfl⟩:=Option.map_eq_some_iff.mp hx
 obtain ⟨k',_,rfl⟩:=Option.map_eq_some_iff.mp hy
 exact ab
theorem b9G {mask:Nat} {o:Own} {L:List Pr} {n:Nat} (I:OwnI mask o L n):((a3Q mask o).map (·.2)).Perm (List.range n):=by
 refine (List.perm_ext_iff_of_nodup ?_ List.nodup_range).mpr λ k=>?_
 ·unfold List.Nodup
  rw [List.pairwise_map]
  refine List.Pairwise.imp_of_mem (λ {a b} ha hb ab e=>?_) (b9F mask o)
  have h1:=(live_mem (j:=a.1) (k:=a.2)).mp ha
  have h2:=(live_mem (j:=b.1) (k:=b.2)).mp hb
  rw [<- e] at h2
  have:=I.one _ _ _ h1.2 h2.2
  omega
 ·rw [List.mem_map,List.mem_range]
  constructor
  ·rintro ⟨⟨j,k'⟩,h,rfl⟩
   exact (I.idx j k' (live_mem.mp h).2).1
  ·intro hk
   obtain ⟨j,hj⟩:=I.all k hk
   have jl:j < o.size:=by
    rw [Array.getElem?_eq_some_iff] at hj
    exact hj.1
   exact ⟨(j,k),live_mem.mpr ⟨by have:=I.size; omega,hj⟩,rfl⟩
theorem b4P {α:Type} (d:α) (l:List α) {ks:List Nat} (h:ks.Perm (List.range l.length)):(ks.map λ k=>l.getD k d).Perm l:=by
 have e:(List.range l.length).map (λ k=>l.getD k d) = l:=by
  refine List.ext_getElem (by rw [List.length_map,List.length_range]) λ i h1 h2=>?_
  rw [List.getElem_map,List.getElem_range,τα,List.getElem?_eq_getElem h2]
  rfl
 have:=h.map λ k=>l.getD k d
 rw [e] at this
 exact this
theorem c2P {B:Bool} {mask f mv:Nat} {L:List Pr} (hm:mask = 31\/mask = 127) (nd:L.Nodup) (lt:∀ p ∈ L,p.1 < 10/\p.2 < 10) (few:L.length <= mask) {hs:Array Int} (eh:hs.toList = L.map hPr) :
  ∃ t order,SetTable.laid mask f mv (!B) true hs = some (t,order)/\order.toList.Perm (List.range L.length)/\t.mask = mask/\t.moves = mv/\TbP B t (order.toList.map λ k=>L.getD k (0,0)):=by
 obtain ⟨o,eo,I⟩:=c6S hm lt few L 0 _ (own0 mask L) (λ i=>by rw [Nat.zero_add]) (Nat.zero_add _)
 have ec:SetTable.layClean mask hs = some o:=by
  rw [c2O,<- Array.foldl_toList,eh,eo]
  rfl
 have lp:=b9G I
 have ll:(a3Q mask o).length = L.length:=by
  have:=lp.length_eq
  rw [List.length_map,List.length_range] at this
  exact this
 refine ⟨{ mask,place:=((a3Q mask o).map (·.1)).toArray,dummies:=#[],finger:=f,led:=!B,moves:=mv,plain:=true },((a3Q mask o).map (·.2)).toArray,?_,by simpa using lp,rfl,rfl,?_⟩
 ·unfold SetTable.laid
  rw [ec]
  rfl
 ·have eo2:(((a3Q mask o).map (·.2)).toArray).toList = (a3Q mask o).map (·.2):=by simp
  rw [eo2]
  have pg:=b4P (0,0) L lp
  refine ⟨rfl,rfl,rfl,?_,?_,pg.nodup_iff.mpr nd,λ p hp=>lt p (pg.mem_iff.mp hp),?_,λ j hj=>?_,λ i j p hj hp=>?_⟩
  ·show (((a3Q mask o).map (·.1)).toArray).toList.Pairwise (· < ·)
   rw [show (((a3Q mask o).map (·.1)).toArray).toList = (a3Q mask o).map (·.1) by simp,List.pairwise_map]
   exact b9F mask o
  ·show (((a3Q mask o).map (·.1)).toArray).size = _
   rw [List.size_toArray,List.length_map,List.length_map,List.length_map]
  ·exact hm.elim (λ h=>.inr (.inl h)) (λ h=>.inr (.inr h))
  ·have hj':j ∈ (a3Q mask o).map (·.1):=by simpa using hj
   obtain ⟨⟨a,b⟩,h,rfl⟩:=List.mem_map.mp hj'
   exact (live_mem.mp h).1
  ·have hj':((a3Q mask o).map (·.1))[i]? = some j:=by simpa using hj
   rw [List.getElem?_map] at hj'
   obtain ⟨⟨a,b⟩,hab,rfl⟩:=Option.map_eq_some_iff.mp hj'
   rw [List.getElem?_map,List.getElem?_map,hab] at hp
   have hp:=Option.some.inj hp
   have hm2:=live_mem.mp (List.mem_of_getElem? hab)
   obtain ⟨_,q,hq,kk,ek,ak⟩:=I.idx a b hm2.2
   have eq:p = q:=by
    rw [<- hp]
    show L.getD b (0,0) = q
    rw [τα,hq]
    rfl
   subst eq
   refine ⟨kk,ek,λ k' hk=>?_⟩
   have t:=ak k' hk
   obtain ⟨k2,e2⟩:=(b1I I.size (a8I _ _ _)).mp t
   have:_ ∈ (a3Q mask o).map (·.1):=List.mem_map.mpr ⟨(_,k2),live_mem.mpr ⟨a8I _ _ _,e2⟩,rfl⟩
   simpa using this
end Sp
set_option maxHeartbeats 2000000
namespace Sp
open PySem Sm
section
variable {prog:Program} {w:World} {A:Around} {E:Value->Shared->Prop} {s:Shared}
def PrAt (prog:Program) (w:World) (h:Heap) (p:Pr) (b:Addr):Prop:=IsTupleKey (intKind prog w) h [(p.1:Int),(p.2:Int)] b
theorem items_int {ks:List Int} {vs:List Value} (h:ItemsAre (intKind prog w) ks vs):∀ v ∈ vs,∃ i t,v = Value.int i t:=by
 induction h with
 | nil=>intro v hv; simp at hv
 | @cons k v' ks vs h1 _ ih =>
  intro v hv
  rcases List.mem_cons.mp hv with rfl | hv
  ·obtain ⟨t,e⟩:=Value.isInt_shape (k:=k) (v:=v) h1
   exact ⟨k,t,e⟩
  ·exact ih v hv
theorem d1W {ks:List Int} {b:Addr} {Q:Bool->Shared->Prop} (hk:IsTupleKey (intKind prog w) s.heap ks b) (h:Q true s):wpAny (model prog w) A (hashByValue 8 (.ref b)) Q E s:=by
 have hT:=hk.typeIs
 obtain ⟨o,items,n,ho,_,hd,hi⟩:=hk
 unfold hashByValue
 refine wpAny_bind (wpAny_specialOf hT F.slot_tuple_hash.lookup ?_)
 dsimp only
 refine wpAny_bind (wpAny_seqItems ho hd ?_)
 refine wpAny_bind ?_
 show wpAny _ _ (forIn items _ _) _ _ s
 rw [<- Array.forIn_toList]
 refine wpAny_forIn_list _ (λ rest r s'=>r.1 = none/\s' = s/\∀ v ∈ rest,∃ i t,v = Value.int i t) _ ?_ ?_ _ _ ⟨rfl,rfl,items_int hi⟩
 ·rintro v rest r s' ⟨hr,rfl,hall⟩
  obtain ⟨i,t,rfl⟩:=hall v List.mem_cons_self
  have e:hashByValue 7 (.int i t) = pure true:=by unfold hashByValue; rfl
  rw [e]
  refine wpAny_bind (wpAny_pure ?_)
  simp only [Bool.not_true,Bool.false_eq_true,if_false]
  exact wpAny_pure ⟨rfl,rfl,λ u hu'=>hall u (List.mem_cons_of_mem _ hu')⟩
 ·rintro ⟨r1,r2⟩ s' ⟨hr,rfl,_⟩
  simp only at hr
  subst hr
  exact wpAny_pure h
theorem c9U {ks:List Int} {b:Addr} {Q:Bool->Shared->Prop} (hk:IsTupleKey (intKind prog w) s.heap ks b) (h:Q false s):wpAny (model prog w) A (ofAClassStatement 8 (.ref b)) Q E s:=by
 have hT:=hk.typeIs
 obtain ⟨o,items,n,ho,hc,hd,hi⟩:=hk
 unfold ofAClassStatement
 refine wpAny_bind (wpAny_typeOf hT ?_)
 dsimp only
 rw [if_pos (show (("tuple" : String) == "tuple") = true from rfl)]
 refine wpAny_bind (wpAny_pure ?_)
 simp only [Bool.not_true,Bool.false_eq_true,if_false]
 refine wpAny_bind (wpAny_seqItems ho hd ?_)
 dsimp only
 refine wpAny_bind ?_
 rw [<- Array.forIn_toList]
 refine wpAny_forIn_list _ (λ rest r s'=>r.1 = none/\s' = s/\∀ v ∈ rest,∃ i t,v = Value.int i t) _ ?_ ?_ _ _ ⟨rfl,rfl,items_int hi⟩
 ·rintro v rest r s' ⟨hr,rfl,hall⟩
  obtain ⟨i,t,rfl⟩:=hall v List.mem_cons_self
  have e:ofAClassStatement 7 (.int i t) = pure false:=by unfold ofAClassStatement; rfl
  rw [e]
  refine wpAny_bind (wpAny_pure ?_)
  simp only [Bool.false_eq_true,if_false]
  exact wpAny_pure ⟨rfl,rfl,λ u hu'=>hall u (List.mem_cons_of_mem _ hu')⟩
 ·rintro ⟨r1,r2⟩ s' ⟨hr,rfl,_⟩
  simp only at hr
  subst hr
  exact wpAny_pure h
theorem c6T {b:Addr} {ks:List Int} {ys:List Value} {Q:Bool->Shared->Prop} (hk:IsTupleKey (intKind prog w) s.heap ks b) (hy:∀ y ∈ ys,∃ b' ks',y = Value.ref b'/\IsTupleKey (intKind prog w) s.heap ks' b') (h:Q false s):wpAny (model prog w) A (searchCouldBeSeen (.ref b) ys) Q E s:=by
 unfold searchCouldBeSeen
 refine wpAny_bind ?_
 refine wpAny_forIn_list _ (λ rest r s'=>r.1 = none/\s' = s/\∀ y ∈ rest,∃ b' ks',y = Value.ref b'/\IsTupleKey (intKind prog w) s.heap ks' b') _ ?_ ?_ _ _ ⟨rfl,rfl,hy⟩
 ·rintro v rest r s' ⟨hr,rfl,hall⟩
  obtain ⟨b',ks',rfl,hk'⟩:=hall v List.mem_cons_self
  dsimp only
  have fin:=λ u hu'=>hall u (List.mem_cons_of_mem _ hu')
  split
  ·exact wpAny_pure ⟨rfl,rfl,fin⟩
  ·refine wpAny_bind (wpAny_eqIsQuiet_tuple hk ?_)
   simp only [Bool.not_true,Bool.false_eq_true,if_false]
   refine wpAny_bind (wpAny_eqIsQuiet_tuple hk' ?_)
   simp only [Bool.not_true,Bool.false_eq_true,if_false]
   refine wpAny_bind (c9U hk ?_)
   simp only [Bool.false_eq_true,if_false]
   refine wpAny_bind (c9U hk' ?_)
   simp only [Bool.false_eq_true,if_false]
   exact wpAny_pure ⟨rfl,rfl,fin⟩
 ·rintro ⟨r1,r2⟩ s' ⟨hr,rfl,_⟩
  simp only at hr
  subst hr
  exact wpAny_pure h
def EsP (es:Array (Int × Value)) (L:List (Addr × Pr)):Prop:=Paired (λ e q=>e.1 = hPr q.2/\e.2 = Value.ref q.1) es.toList L
theorem EsP.len {es:Array (Int × Value)} {L:List (Addr × Pr)} (h:EsP es L):es.size = L.length:=by
 have:=Paired.length h
 simpa using this
theorem EsP.get {es:Array (Int × Value)} {L:List (Addr × Pr)} (h:EsP es L) {i:Nat} {q:Addr × Pr} (hq:L[i]? = some q):es[i]? = some (hPr q.2,Value.ref q.1):=by
 obtain ⟨il,e⟩:=List.getElem?_eq_some_iff.mp hq
 obtain ⟨x,hx,h1,h2⟩:=Sm.paired_get h i il
 rw [e] at h1 h2
 rw [<- Array.getElem?_toList,hx]
 congr 1
 exact Prod.ext h1 h2
structure SetP (B:Bool) (h:Heap) (a:Addr) (es:Array (Int × Value)) (ep:Nat) (t:SetTable) (L:List (Addr × Pr)):Prop where
 obj:h.get? a = some (setO es ep t)
 ent:EsP es L
 tab:TbP B t (L.map (·.2))
 few:L.length * 5 < t.mask * 3
theorem TbP.fits {B:Bool} {t:SetTable} {L:List Pr} (T:TbP B t L) (few:L.length <= t.mask):t.fits L.length = true:=by
 unfold SetTable.fits SetTable.fill
 rw [T.sz,T.dm]
 simp
 exact few
theorem SetP.state {B:Bool} {a:Addr} {es:Array (Int × Value)} {ep:Nat} {t:SetTable} {L:List (Addr × Pr)} {Q:(Array (Int × Value) × Nat × SetTable)->Shared->Prop} (S:SetP B s.heap a es ep t L) (h:Q (es,ep,t) s):wpAny (model prog w) A (setState a) Q E s:=by
 refine wpAny_setState_of S.obj rfl ?_ h
 rw [S.ent.len]
 have:=S.tab.fits (by have:=S.few; rw [List.length_map]; omega)
 rw [List.length_map] at this
 exact this
theorem c2Q {g:Pr->Int} {es:Array (Int × Value)} {L:List (Addr × Pr)} (h:Paired (λ e q=>e.1 = g q.2/\e.2 = Value.ref q.1) es.toList L) {i:Nat} {q:Pr} (hq:(L.map (·.2))[i]? = some q):(es[i]?.map (·.1)).getD 0 = g q:=by
 rw [List.getElem?_map] at hq
 cases hl:L[i]? with
 | none=>rw [hl] at hq; cases hq
 | some q' =>
  rw [hl] at hq
  obtain ⟨il,e⟩:=List.getElem?_eq_some_iff.mp hl
  obtain ⟨x,hx,h1,h2⟩:=Sm.paired_get h i il
  have e2:q'.2 = q:=Option.some.inj hq
  rw [e,e2] at h1
  rw [<- Array.getElem?_toList,hx]
  exact h1
theorem b9H {es:Array (Int × Value)} {L:List (Addr × Pr)} (h:EsP es L) {i:Nat} {q:Pr} (hq:(L.map (·.2))[i]? = some q):(es[i]?.map (·.1)).getD 0 = hPr q:=c2Q (g:=hPr) h hq
theorem c2R {es:Array (Int × Value)} {f:Int × Value->Bool} {y:Value} (h:y ∈ (es.filter f).toList.map (·.2)):∃ x ∈ es.toList,x.2 = y:=by
 obtain ⟨x,hx,rfl⟩:=List.mem_map.mp h
 rw [Array.toList_filter] at hx
 exact ⟨x,(List.mem_filter.mp hx).1,rfl⟩
theorem d1X {g:Pr->Int} {es:Array (Int × Value)} {L:List (Addr × Pr)} (h:Paired (λ e q=>e.1 = g q.2/\e.2 = Value.ref q.1) es.toList L) {x:Int × Value} (hx:x ∈ es.toList):∃ q ∈ L,x.2 = Value.ref q.1:=by
 obtain ⟨k,hk,ek⟩:=List.getElem_of_mem hx
 have kl:k < L.length:=by rw [<- Paired.length h]; exact hk
 obtain ⟨x2,hx2,_,e2⟩:=Sm.paired_get h k kl
 rw [List.getElem?_eq_getElem hk,ek] at hx2
 have hx2:=Option.some.inj hx2
 subst hx2
 exact ⟨L[k],List.getElem_mem kl,e2⟩
theorem c2S {h:Heap} {es:Array (Int × Value)} {L:List (Addr × Pr)} {y:Value} (hE:EsP es L) (at_:∀ q ∈ L,PrAt prog w h q.2 q.1) (hy:∃ x ∈ es.toList,x.2 = y):∃ b' ks',y = Value.ref b'/\IsTupleKey (intKind prog w) h ks' b':=by
 obtain ⟨x,hx,rfl⟩:=hy
 obtain ⟨q,hq,e⟩:=d1X (g:=hPr) hE hx
 exact ⟨q.1,_,e,at_ q hq⟩
theorem b9I {B:Bool} {a b:Addr} {p:Pr} {es:Array (Int × Value)} {ep:Nat} {t:SetTable} {L:List (Addr × Pr)} {Q:SetFound->Shared->Prop} (hu:A.units < cLine) (S:SetP B s.heap a es ep t L) (at_:∀ q ∈ L,PrAt prog w s.heap q.2 q.1) (hb:PrAt prog w s.heap p b) (l10:p.1 < 10/\p.2 < 10)
  (h1:p ∈ L.map (·.2)->Q (.there none) s) (h2:p ∉ L.map (·.2)->∀ j,j ∉ t.place.toList->j <= t.mask->Rch t.mask t.place.toList (hPr p) j->Q (.free j false) s):wpAny (model prog w) A (setSearch a (.ref b) (hPr p) true) Q E s:=by
 have few:(L.map (·.2)).length <= t.mask:=by have:=S.few; rw [List.length_map]; omega
 unfold setSearch setSearchFrom
 refine wpAny_bind (S.state ?_)
 dsimp only
 have gw:t.gaveWay = false:=by
  unfold SetTable.gaveWay
  rcases S.tab.mok with e | e | e <;> rw [e] <;> rfl
 rw [gw]
 simp only [Bool.false_eq_true,if_false,Option.getD_none]
 have hA:∀ (i:Nat) (q:Pr),(L.map (·.2))[i]? = some q->(λ i=>(es[i]?.map (·.1)).getD 0) i = hPr q:=λ i q hq=>b9H S.ent hq
 have hA2:∀ (f:Nat->Int),f = (λ i=>(es[i]?.map (·.1)).getD 0)->∀ m,t.probe f (hPr p) (t.probeStart (hPr p)) = m->t.probe (λ i=>(es[i]?.map (·.1)).getD 0) (hPr p) (t.probeStart (hPr p)) = m:=λ f hf m h=>by rw [<- hf]; exact h
 by_cases c:p ∈ L.map (·.2)
 ·obtain ⟨j,i,next,e,hi⟩:=S.tab.there few hA c
  rw [List.getElem?_map] at hi
  obtain ⟨q,hq,eq⟩:=Option.map_eq_some_iff.mp hi
  have hqa:=at_ q (List.mem_of_getElem? hq)
  have eqy:∀ Q':Bool->Shared->Prop,Q' true s->wpAny (model prog w) A (holding [Value.ref q.1] (eqBool (.ref q.1) (.ref b))) Q' E s:=λ Q' h=>by
   refine wpAny_holding (wpAny_eqBool_tuple hu hqa hb ?_)
   rw [eq,decide_eq_true rfl]
   exact h
  split
  ·rename_i met heq
   have em:=(hA2 _ rfl _ heq).symm.trans e
   have em:=Option.some.inj em
   subst em
   dsimp only
   rw [S.ent.get hq]
   dsimp only
   rw [show (!t.led) = B by rw [S.tab.led]; cases B <;> rfl]
   cases B with
   | false =>
    rw [if_neg Bool.false_ne_true]
    refine wpAny_bind (eqy _ ?_)
    refine wpAny_bind (S.state ?_)
    rw [if_pos (show (true && true) = true from rfl)]
    exact wpAny_pure (h1 c)
   | true =>
    rw [if_pos rfl]
    refine wpAny_bind (c6T hb (λ y hy=>?_) ?_)
    ·exact c2S S.ent at_ (c2R hy)
    ·rw [if_neg Bool.false_ne_true]
     refine wpAny_bind (eqy _ ?_)
     refine wpAny_bind (S.state ?_)
     rw [if_pos (show (true && true) = true from rfl)]
     exact wpAny_pure (h1 c)
  ·rename_i heq
   have e3:∀ f:Nat->Int,f = (λ i=>(es[i]?.map (·.1)).getD 0)->t.probe f (hPr p) (t.probeStart (hPr p)) = some _:=λ f hf=>by rw [hf]; exact e
   exact (heq _ (e3 _ rfl)).elim
 ·obtain ⟨j,e,nj,lj,r⟩:=S.tab.free few hA c l10
  split
  ·rename_i met heq
   have em:=(hA2 _ rfl _ heq).symm.trans e
   have em:=Option.some.inj em
   subst em
   exact wpAny_pure (h2 c j nj lj r)
  ·rename_i heq
   have e3:∀ f:Nat->Int,f = (λ i=>(es[i]?.map (·.1)).getD 0)->t.probe f (hPr p) (t.probeStart (hPr p)) = some _:=λ f hf=>by rw [hf]; exact e
   exact (heq _ (e3 _ rfl)).elim
end
end Sp
set_option maxHeartbeats 2000000
namespace Sp
open PySem Sm
theorem c6U {g:Pr->Int} {es:Array (Int × Value)} {L:List (Addr × Pr)} (h:Paired (λ e q=>e.1 = g q.2/\e.2 = Value.ref q.1) es.toList L) (i:Nat) (b:Addr) (p:Pr):Paired (λ e q=>e.1 = g q.2/\e.2 = Value.ref q.1) (SetTable.insertAt es i (g p,Value.ref b)).toList (L.take i ++ (b,p) :: L.drop i):=by
 rw [SetTable.toList_insertAt]
 exact a2B (a2I _ h) (.cons ⟨rfl,rfl⟩ (a2J _ h))
theorem c6V {α β:Type} (f:α->β) (l:List α) (i:Nat) (x:α):(l.take i ++ x :: l.drop i).map f = (l.map f).take i ++ f x :: (l.map f).drop i:=by
 rw [List.map_append,List.map_cons,List.map_take,List.map_drop]
theorem b4Q {g:Pr->Int} {es:Array (Int × Value)} {L:List (Addr × Pr)} (h:Paired (λ e q=>e.1 = g q.2/\e.2 = Value.ref q.1) es.toList L):∀ {ks:List Nat},(∀ k ∈ ks,k < L.length)->Paired (λ e q=>e.1 = g q.2/\e.2 = Value.ref q.1) (ks.filterMap (es[·]?)) (ks.map λ k=>L.getD k (0,(0,0)))
 | [],_=>.nil
 | k :: ks,hk=>by
  have kl:=hk k List.mem_cons_self
  obtain ⟨x,hx,h1⟩:=Sm.paired_get h k kl
  have ex:es[k]? = some x:=by rw [<- Array.getElem?_toList]; exact hx
  rw [List.filterMap_cons_some ex,List.map_cons]
  refine .cons ?_ (b4Q h λ k' hk'=>hk k' (List.mem_cons_of_mem _ hk'))
  have:L.getD k (0,(0,0)) = L[k]:=by rw [τα,List.getElem?_eq_getElem kl]; rfl
  rw [this]
  exact h1
theorem c9V {g:Pr->Int} {es:Array (Int × Value)} {L:List (Addr × Pr)} (h:Paired (λ e q=>e.1 = g q.2/\e.2 = Value.ref q.1) es.toList L):es.toList.map (λ x=>x.1) = (L.map (·.2)).map g:=by
 generalize es.toList = l at h
 induction h with
 | nil=>rfl
 | cons r _ ih=>rw [List.map_cons,List.map_cons,List.map_cons,ih,r.1]
theorem b9J {prog:Program} {w:World} {A:Around} {E:Value->Shared->Prop} {s:Shared} {es:Array (Int × Value)} {t:SetTable} {order:Array Nat} {Q:Array (Int × Value) × SetTable->Shared->Prop} (hz:(order.filterMap (es[·]?)).size = es.size) (h:Q (order.filterMap (es[·]?),t) s) :
  wpAny (model prog w) A (b5Z es (some (t,order))) Q E s:=by
 unfold b5Z
 dsimp only
 have e:((order.filterMap (es[·]?)).size != es.size) = false:=by rw [hz]; simp
 simp only [e,Bool.false_eq_true,if_false]
 first | exact wpAny_bind (wpAny_pure (wpAny_pure h)) | exact wpAny_pure h
section
variable {prog:Program} {w:World} {A:Around} {E:Value->Shared->Prop} {s:Shared}
theorem c6W {B:Bool} {a b:Addr} {p:Pr} {es:Array (Int × Value)} {ep:Nat} {t:SetTable} {L:List (Addr × Pr)} {Q:Bool->Shared->Prop} (hu:A.units < cLine) (S:SetP B s.heap a es ep t L) (at_:∀ q ∈ L,PrAt prog w s.heap q.2 q.1) (hb:PrAt prog w s.heap p b) (l10:p.1 < 10/\p.2 < 10) (l70:L.length < 70)
  (h:∀ r h' es' ep' t' L',Heap.SameBut a s.heap h'->SetP B h' a es' ep' t' L'->(∀ q,q ∈ L' ↔ q ∈ L\/(q = (b,p)/\p ∉ L.map (·.2)))->Q r { s with heap:=h' }):wpAny (model prog w) A (setAddHashed a (.ref b) (hPr p)) Q E s:=by
 unfold setAddHashed setAddHashedIn
 refine wpAny_holding (wpAny_bind (S.state ?_))
 dsimp only
 have bs:byScan (.ref b) es = false:=by simp [byScan,Value.scannable]
 rw [bs]
 simp only [Bool.false_eq_true,if_false]
 refine wpAny_bind (b9I hu S at_ hb l10 (λ c=>?_) (λ c j nj lj r=>?_))
 ·dsimp only
  refine wpAny_pure (h false s.heap es ep t L (Heap.SameBut.refl _ _) S λ q=>⟨.inl,λ z=>z.elim id λ z=>absurd c z.2⟩)
 ·dsimp only
  refine wpAny_bind (S.state ?_)
  obtain ⟨p1,p2,p3,T'⟩:=S.tab.put nj lj r c l10
  have pl:(t.put j).1.plain = true:=T'.pl
  dsimp only
  rw [pl]
  simp only [if_true]
  refine wpAny_bind (d1W hb ?_)
  simp only [if_true]
  have q:(SetTable.insertAt es (t.put j).2 (hPr p,Value.ref b)).size = L.length + 1:=by
   have:=congrArg List.length (SetTable.toList_insertAt es (t.put j).2 (hPr p,Value.ref b))
   rw [Array.length_toList] at this
   rw [this,a9F,Array.length_toList,S.ent.len]
  have l1:((L.take (t.put j).2 ++ (b,p) :: L.drop (t.put j).2)).length = L.length + 1:=a9F ..
  have hE:EsP (SetTable.insertAt es (t.put j).2 (hPr p,Value.ref b)) (L.take (t.put j).2 ++ (b,p) :: L.drop (t.put j).2):=c6U (g:=hPr) S.ent _ b p
  rw [<- c6V (λ x:Addr × Pr=>x.2) L (t.put j).2 (b,p)] at T'
  have mem:∀ u,u ∈ L.take (t.put j).2 ++ (b,p) :: L.drop (t.put j).2 ↔ u ∈ L\/(u = (b,p)/\p ∉ L.map (·.2)):=λ u=>by
   rw [mem_ins]
   exact ⟨λ z=>z.elim (λ z=>.inr ⟨z,c⟩) .inl,λ z=>z.elim .inr λ z=>.inl z.1⟩
  generalize hes:SetTable.insertAt es (t.put j).2 (hPr p,Value.ref b) = es1 at q hE
  generalize hL:L.take (t.put j).2 ++ (b,p) :: L.drop (t.put j).2 = L1 at l1 hE T' mem
  generalize (t.put j).1 = t1 at p2 p3 T' pl
  refine wpAny_bind (wpAny_storeSet_of S.obj rfl ?_ (by rw [q,sizeLine_eq]; omega))
  have ho1:=a3P (es':=es1) (t':=t1) S.obj
  have fl:t1.fill = L.length + 1:=by
   unfold SetTable.fill
   rw [T'.dm,T'.sz,List.length_map,l1]
   rfl
  cases tf:t1.tooFull with
  | false =>
   simp only [Bool.not_false,Bool.and_false,Bool.false_eq_true,if_false]
   refine wpAny_pure (h true _ es1 (ep + 1) t1 L1 (Heap.SameBut.update ..) ⟨ho1,hE,T',?_⟩ mem)
   unfold SetTable.tooFull at tf
   have tf':=of_decide_eq_false tf
   rw [fl] at tf'
   omega
  | true =>
   simp only [Bool.not_false,Bool.and_self,if_true]
   unfold SetTable.tooFull at tf
   have tf':=of_decide_eq_true tf
   rw [fl] at tf'
   have few:=S.few
   have gr:SetTable.grown (es.size + 1) = (L.length + 1) * 4:=by
    unfold SetTable.grown
    rw [S.ent.len,if_neg (by omega)]
   have mk:SetTable.sizeAbove ((L.length + 1) * 4) - 1 = 31/\L.length + 1 = 5\/SetTable.sizeAbove ((L.length + 1) * 4) - 1 = 127/\L.length + 1 = 19:=by
    rcases S.tab.mok with e | e | e
    ·rw [p2,e] at tf'
     rw [e] at few
     have:L.length + 1 = 5:=by omega
     rw [this]
     exact .inl ⟨by decide,rfl⟩
    ·rw [p2,e] at tf'
     rw [e] at few
     have:L.length + 1 = 19:=by omega
     rw [this]
     exact .inr ⟨by decide,rfl⟩
    ·rw [p2,e] at tf'
     omega
   rw [gr]
   have S1:∀ (Q':(Array (Int × Value) × Nat × SetTable)->Shared->Prop),Q' (es1,ep + 1,t1) { s with heap:=s.heap.update a (Obj.putSet es1 t1) }->wpAny (model prog w) A (setState a) Q' E { s with heap:=s.heap.update a (Obj.putSet es1 t1) }:=λ Q' hq=>by
    refine wpAny_setState_of ho1 rfl ?_ hq
    have:=T'.fits (by rw [List.length_map,l1,p2]; have:=S.few; omega)
    rw [List.length_map,l1] at this
    rw [q]
    exact this
   refine wpAny_bind ?_
   rw [b4C]
   refine wpAny_bind (S1 _ ?_)
   dsimp only
   have hm:SetTable.sizeAbove ((L.length + 1) * 4) - 1 = 31\/SetTable.sizeAbove ((L.length + 1) * 4) - 1 = 127:=mk.imp (·.1) (·.1)
   have nm:L.length + 1 <= SetTable.sizeAbove ((L.length + 1) * 4) - 1:=by omega
   have fw:(L.length + 1) * 5 < (SetTable.sizeAbove ((L.length + 1) * 4) - 1) * 3:=by omega
   rw [if_neg (by rw [sizeLine_eq]; omega)]
   have eh:(Array.map (λ x=>x.1) es1).toList = (L1.map (·.2)).map hPr:=by
    rw [Array.toList_map]
    exact c9V (g:=hPr) hE
   obtain ⟨t2,order,eo,po,m2,v2,T2⟩:=c2P (B:=B) (f:=t1.finger) (mv:=t1.movedTo (SetTable.sizeAbove ((L.length + 1) * 4) - 1)) hm T'.nd T'.lt (by rw [List.length_map,l1]; exact nm) eh
   have er:t1.relaid (Array.map (λ x=>x.1) es1) ((L.length + 1) * 4) = some (t2,order):=by
    unfold SetTable.relaid
    rw [T'.led,pl]
    exact eo
   rw [er]
   have lo:∀ k ∈ order.toList,k < L1.length:=λ k hk=>by
    have:=List.mem_range.mp (po.mem_iff.mp hk)
    rw [List.length_map] at this
    exact this
   have hE2:EsP (order.filterMap (es1[·]?)) (order.toList.map λ k=>L1.getD k (0,(0,0))):=by
    unfold EsP
    rw [Array.toList_filterMap]
    exact b4Q (g:=hPr) hE lo
   have ol:order.toList.length = L.length + 1:=by
    rw [po.length_eq,List.length_range,List.length_map,l1]
   have z2:(order.filterMap (es1[·]?)).size = es1.size:=by
    rw [hE2.len,List.length_map,ol,q]
   refine wpAny_bind (b9J z2 ?_)
   refine wpAny_storeSet_of ho1 rfl ?_ (by rw [z2,q,sizeLine_eq]; omega)
   have eL:(order.toList.map λ k=>L1.getD k (0,(0,0))).map (·.2) = order.toList.map λ k=>(L1.map (·.2)).getD k (0,0):=by
    rw [List.map_map]
    refine List.map_congr_left λ k _=>?_
    show (L1.getD k (0,(0,0))).2 = (L1.map (·.2)).getD k (0,0)
    rw [τα,τα,List.getElem?_map]
    cases L1[k]? <;> rfl
   rw [<- eL] at T2
   have pg:(order.toList.map λ k=>L1.getD k (0,(0,0))).Perm L1:=b4P (0,(0,0)) L1 (by rw [List.length_map] at po; exact po)
   refine wpAny_pure (h true _ _ _ t2 _ ((Heap.SameBut.update ..).trans (Heap.SameBut.update ..)) ⟨a3P ho1,hE2,T2,?_⟩ λ u=>(pg.mem_iff).trans (mem u))
   rw [List.length_map,ol,m2]
   exact fw
end
end Sp
set_option maxHeartbeats 4000000
namespace Sp
open PySem PyProof.Rows Sm
def allP:List Pr:=(List.range 10).flatMap λ y=>(List.range y).map λ x=>(x,y)
theorem c2T:allP.length = 45:=by decide +kernel
theorem c2U {p:Pr} (h:p.1 < p.2) (l:p.2 < 10):p ∈ allP:=by
 unfold allP
 exact List.mem_flatMap.mpr ⟨p.2,List.mem_range.mpr l,List.mem_map.mpr ⟨p.1,List.mem_range.mpr h,rfl⟩⟩
theorem c9W {L:List Pr} (nd:L.Nodup) (h:∀ p ∈ L,p.1 < p.2/\p.2 < 10):L.length <= 45:=by
 have go:∀ (l m:List Pr),l.Nodup->(∀ x ∈ l,x ∈ m)->l.length <= m.length:=by
  intro l
  induction l with
  | nil=>exact λ _ _ _=>Nat.zero_le _
  | cons a r ih =>
   intro m nd h
   have am:a ∈ m:=h a List.mem_cons_self
   obtain ⟨n1,n2⟩:=List.nodup_cons.mp nd
   have q:=ih (m.erase a) n2 λ x hx=>(List.mem_erase_of_ne (λ e=>n1 (by rw [<- e]; exact hx))).mpr (h x (List.mem_cons_of_mem _ hx))
   rw [List.length_erase_of_mem am] at q
   have:=List.length_pos_of_mem am
   rw [List.length_cons]
   omega
 have:=go L allP nd λ p hp=>c2U (h p hp).1 (h p hp).2
 rw [c2T] at this
 exact this
theorem c6X {prog:Program} {w:World} (p:Pr):tupleKeyHash (intKind prog w) [(p.1:Int),(p.2:Int)] = hPr p:=by
 unfold tupleKeyHash hPr hP
 rfl
theorem PrAt.keep {prog:Program} {w:World} {h h':Heap} {p:Pr} {b:Addr} (x:PrAt prog w h p b) (k:∀ o,h.get? b = some o->h'.get? b = some o):PrAt prog w h' p b:=by
 obtain ⟨o,items,n,ho,r⟩:=x
 exact ⟨o,items,n,k o ho,r⟩
theorem SetP.keep {B:Bool} {h h':Heap} {a:Addr} {es:Array (Int × Value)} {ep:Nat} {t:SetTable} {L:List (Addr × Pr)} (S:SetP B h a es ep t L) (k:∀ o,h.get? a = some o->h'.get? a = some o):SetP B h' a es ep t L:=⟨k _ S.obj,S.ent,S.tab,S.few⟩
section
variable {prog:Program} {w:World} {A:Around} {R:Result->Shared->Prop} {I:Addr} {fp wr:List Addr} {G:Array GenState->Array GenState->Prop} {n:Nat} {P:Nat->Value->Prop} {St:Nat->Shared->Prop}
theorem c2V (hu:A.in1.units < cLine) (W:WalksS prog w A.in1 I fp wr G n P St) (S:Addr) (nf:S ∉ fp) (bs:Nat->Addr) (ps:Nat->Pr) (hv:∀ i v,i < n->P i v->v = .ref (bs i)) (lt:∀ i,i < n->(ps i).1 < (ps i).2/\(ps i).2 < 10) (nb:∀ i,i < n->bs i ≠ S/\bs i ∉ wr) :
  ∀ (k i:Nat) (s:Shared) (es:Array (Int × Value)) (ep:Nat) (t:SetTable) (L:List (Addr × Pr)),n - i = k->i <= n->St i s->(∀ j,j < n->PrAt prog w s.heap (ps j) (bs j))->SetP (byT w) s.heap S es ep t L->(∀ q ∈ L,∃ j,j < i/\q = (bs j,ps j))->(∀ j,j < i->ps j ∈ L.map (·.2)) ->
   (∀ s' es' ep' t' L',Moved (S :: wr) G s s'->SetP (byT w) s'.heap S es' ep' t' L'->(∀ q ∈ L',∃ j,j < n/\q = (bs j,ps j))->(∀ j,j < n->ps j ∈ L'.map (·.2))->R (.ok (.ret .none)) s') ->
   codeAny (model prog w) A (.builtin "set.update.loop" ⟨[.ref S,.ref I],[]⟩) R s:=by
 have nw:S ∉ wr:=λ h=>nf (W.sub _ h)
 have up:∀ b ∈ wr,b ∈ S :: wr:=λ b hb=>List.mem_cons_of_mem _ hb
 intro k
 induction k with
 | zero =>
  intro i s es ep t L hk hi st hp hS m1 m2 hR
  obtain rfl:i = n:=by omega
  refine codeAny_builtin F.entry_set_update_loop ?_
  rw [Around.under_plainId F.plain_set_update_loop _]; show wpAny _ A.in1 (pyNext (.ref I) >>= _) _ _ s; refine wpAny_bind (W.done s _ _ st λ s' hm=>?_)
  exact wpAny_pure (hR s' es ep t L (hm.mono up) (hS.keep λ o e=>hm.heap S o nw e) m1 m2)
 | succ k ih =>
  intro i s es ep t L hk hi st hp hS m1 m2 hR
  have li:i < n:=by omega
  refine codeAny_builtin F.entry_set_update_loop ?_
  rw [Around.under_plainId F.plain_set_update_loop _]; show wpAny _ A.in1 (pyNext (.ref I) >>= _) _ _ s; refine wpAny_bind (W.item i s _ _ li st λ v s' hP st' hm=>?_)
  obtain rfl:=hv i v li hP
  have hS':=hS.keep λ o e=>hm.heap S o nw e
  have hp':∀ j,j < n->PrAt prog w s'.heap (ps j) (bs j):=λ j hj=>(hp j hj).keep λ o e=>hm.heap _ o (nb j hj).2 e
  show wpAny _ A.in1 (holding [Value.ref (bs i)] (setAdd S (.ref (bs i))) >>= _) _ _ s'
  refine wpAny_bind (wpAny_holding ?_)
  unfold setAdd
  refine wpAny_holding (wpAny_bind (wpAny_pyHash_tuple hu (hp' i li) ?_))
  rw [c6X]
  have l45:L.length <= 45:=by
   have:=c9W hS.tab.nd λ p hp=>by
    obtain ⟨q,hq,rfl⟩:=List.mem_map.mp hp
    obtain ⟨j,hj,rfl⟩:=m1 q hq
    exact lt j (by omega)
   rw [List.length_map] at this
   exact this
  have li10:=lt i li
  generalize htk:s'.toks + _ = tk
  refine c6W (s:={ s' with toks:=tk }) hu hS' (λ q hq=>?_) (hp' i li) ⟨by omega,by omega⟩ (by omega) λ r h' es' ep' t' L' sb S2 mem=>?_
  ·obtain ⟨j,hj,rfl⟩:=m1 q hq
   exact hp' j (by omega)
  have tkl:s'.toks <= tk:=by rw [<- htk]; exact Nat.le_add_right _ _
  refine wpAny_pure ⟨plainId_quiet F.plain_set_update_loop _,ih (i + 1) _ es' ep' t' L' (by omega) li (W.frame _ s' _ _ st' tkl λ c hc o e=>?_) (λ j hj=>(hp' j hj).keep λ o e=>?_) S2 (λ q hq=>?_) (λ j hj=>?_) λ s2 es2 ep2 t2 L2 hm2 h2 h3 h4=>hR s2 es2 ep2 t2 L2 (Moved.trans W.gtrans ((hm.mono up).then_heap tkl λ c o hc e=>?_) hm2) h2 h3 h4⟩
  ·rw [sb.2 c (λ q:c = S=>nf (by rw [<- q]; exact hc))]; exact e
  ·rw [sb.2 _ (nb j hj).1]; exact e
  ·rcases (mem q).mp hq with hq | ⟨rfl,_⟩
   ·obtain ⟨j,hj,e⟩:=m1 q hq
    exact ⟨j,by omega,e⟩
   ·exact ⟨i,by omega,rfl⟩
  ·by_cases c:j = i
   ·subst c
    by_cases d:ps j ∈ L.map (·.2)
    ·obtain ⟨q,hq,e⟩:=List.mem_map.mp d
     exact List.mem_map.mpr ⟨q,(mem q).mpr (.inl hq),e⟩
    ·exact List.mem_map.mpr ⟨(bs j,ps j),(mem _).mpr (.inr ⟨rfl,d⟩),rfl⟩
   ·obtain ⟨q,hq,e⟩:=List.mem_map.mp (m2 j (by omega))
    exact List.mem_map.mpr ⟨q,(mem q).mpr (.inl hq),e⟩
  ·rw [sb.2 c (λ q:c = S=>hc (by rw [q]; exact List.mem_cons_self))]; exact e
end
end Sp
set_option maxHeartbeats 4000000
namespace Sp
open PySem PyProof.Rows Sm
theorem b9K (B:Bool):TbP B (.fresh 0 0 (!B)) []:=by
 have e:SetTable.fresh 0 0 (!B) = SetTable.fresh 0 0 (!B):=rfl
 refine ⟨rfl,rfl,rfl,.nil,rfl,.nil,λ p hp=>(List.not_mem_nil hp).elim,.inl rfl,λ j hj=>(List.not_mem_nil hj).elim,λ i j p h=>?_⟩
 cases h
section
variable {prog:Program} {w:World} {A:Around} {E:Value->Shared->Prop} {s:Shared}
set_option maxHeartbeats 8000000 in
theorem c6Y {l:Addr} {items:Array Value} {bs:List Addr} {ps:List Pr} {Q:Value->Shared->Prop} (hu:A.units + 8 < cLine) (hh:A.handled = none) (hl:s.heap.IsList l items) (hi:items.toList = bs.map Value.ref) (hz:ps.length = bs.length)
  (at_:∀ j,j < bs.length->PrAt prog w s.heap (ps.getD j (0,0)) (bs.getD j 0)) (lt:∀ p ∈ ps,p.1 < p.2/\p.2 < 10)
  (h:∀ (h':Heap) (tk:Nat) es ep t (L:List (Addr × Pr)),SetP (byT w) h' s.heap.objs.size es ep t L->(∀ q ∈ L,∃ j,j < bs.length/\q = (bs.getD j 0,ps.getD j (0,0)))->(∀ p ∈ ps,p ∈ L.map (·.2))->(∀ b o,b < s.heap.objs.size->s.heap.get? b = some o->h'.get? b = some o)->Q (.ref s.heap.objs.size) { s with heap:=h',toks:=tk }) :
  wpAny (model prog w) A (call (.type "set") [.ref l]) Q E s:=by
 obtain ⟨c,tl,hmro⟩:=F.called_set.mro
 have hmade:=F.called_set.made
 have hsub:=F.called_set.sub
 have hlen:items.size = bs.length:=by
  have:=congrArg List.length hi
  rw [Array.length_toList,List.length_map] at this
  exact this
 refine wpAny_call (codeAny_of_tree ?_)
 show wpAny _ _ (callAny (.type "set") _) _ _ _; refine wpAny_pure ⟨Code.quiet_builtin _ (by decide +kernel),codeAny_builtin F.entry_type_call ?_⟩
 rw [Around.under_plain (weight_type_call_type "set" [.ref l] []) rfl]; have h1:=F.called_set.notType
 have h2:=F.called_set.canCreate
 have hct:=F.typeCall_set_1 (.ref l)
 repeat (any_goals (first | assumption | wp_step))
 refine codeAny_mono (b8X (.ref l) (E:=E) (Q:=λ obj s₁=>obj = .ref s.heap.objs.size/\s₁ = { s with heap:=s.heap.push (setO #[] 0 (.fresh 0 0 (!byT w))) }) ⟨rfl,rfl⟩) λ r s₁ hr=>?_
 cases r with
 | error e=>exact hr
 | ok fl =>
  cases fl with
  | ret obj =>
   obtain ⟨rfl,rfl⟩:=hr
   have gS:(s.heap.push (setO #[] 0 (.fresh 0 0 (!byT w)))).get? s.heap.objs.size = some (setO #[] 0 (.fresh 0 0 (!byT w))):=Heap.get?_push_size _ rfl
   have hT:Shared.TypeIs { s with heap:=s.heap.push (setO #[] 0 (.fresh 0 0 (!byT w))) } (.ref s.heap.objs.size) "set" := ⟨_,gS,rfl⟩
   have hli:=F.called_set.init.lookup
   have hbi:=F.called_set.init.bind (.ref s.heap.objs.size)
   repeat (any_goals (first | assumption | wp_step))
   refine codeAny_mono (codeAny_call_builtin (R:=wants (λ r s₂=>r = .none/\∃ h' tk es ep t L,s₂ = { s with heap:=h',toks:=tk }/\SetP (byT w) h' s.heap.objs.size es ep t L/\(∀ q ∈ L,∃ j,j < bs.length/\q = (bs.getD j 0,ps.getD j (0,0)))/\(∀ p ∈ ps,p ∈ L.map (·.2)) /\
     (∀ b o,b < s.heap.objs.size->s.heap.get? b = some o->h'.get? b = some o)) E) F.called_set.init.plain F.entry_set_init (check_set_init_1 hT ?_)) λ r₂ s₂ hr₂=>?_
   ·obtain ⟨ol,hol,hcl,nl,hdl⟩:=hl
    obtain ⟨ocls,odict,odata,oslots⟩:=ol
    simp only at hcl hdl
    subst hcl; subst hdl
    have hol':(s.heap.push (setO #[] 0 (.fresh 0 0 (!byT w)))).get? l = some { cls:=.type "list", dict:=odict,data:=.seq items nl,slots:=oslots }:=Heap.get?_push_of_some _ hol
    have hsls:=F.sub_list_set
    have hslf:=F.sub_list_frozenset
    have hne:(Value.type "list" == Value.type "dict") = false:=by decide
    have hl1:(s.heap.push (setO #[] 0 (.fresh 0 0 (!byT w)))).IsList l items:=⟨_,hol',rfl,nl,rfl⟩
    unfold Builtin.«set.__init__» noKeywords Builtin.Frozenset.updateFrom
    generalize hPI:pyIter = PI
    wp_walk
    subst hPI
    refine wpAny_pyIter_list hl1 (wpAny_bind (wpAny_runValue ?_))
    have ll:l < s.heap.objs.size:=Heap.lt_size hol
    have hh3:A.in1.in1.in1.handled = none:=by simp [hh]
    have ni:l ≠ (s.heap.push (setO #[] 0 (.fresh 0 0 (!byT w)))).objs.size:=by rw [Heap.size_push]; exact Nat.ne_of_lt (Nat.lt_succ_of_lt ll)
    have nf:s.heap.objs.size ∉ [(s.heap.push (setO #[] 0 (.fresh 0 0 (!byT w)))).objs.size,l]:=by
     rw [Heap.size_push]; simp only [List.mem_cons,List.not_mem_nil,or_false,not_or]
     exact ⟨Nat.ne_of_lt (Nat.lt_succ_self _),Nat.ne_of_gt ll⟩
    have hval:∀ (i:Nat) (v:Value),i < items.size->items[i]? = some v->v = .ref ((λ i=>bs.getD i 0) i):=λ i v li hv=>by
     have lb:i < bs.length:=by omega
     rw [<- Array.getElem?_toList,hi,List.getElem?_map,List.getElem?_eq_getElem lb] at hv
     rw [<- Option.some.inj hv]
     simp [List.getD,lb]
    have lbs:∀ j,j < bs.length->bs.getD j 0 < s.heap.objs.size:=λ j hj=>by
     obtain ⟨o,_,_,ho,_⟩:=at_ j hj
     exact Heap.lt_size ho
    refine c2V (by show A.units + 1 + 1 + 1 < cLine; omega) ((Walks.list hh3 _ l ni items).toS) s.heap.objs.size nf (λ i=>bs.getD i 0) (λ i=>ps.getD i (0,0)) hval (λ i li=>?_) (λ i li=>⟨?_,?_⟩) (items.size - 0) 0 _ #[] 0 _ [] (by omega) (Nat.zero_le _) ⟨⟨_,Heap.get?_push_size _ rfl,rfl,rfl⟩,(hl1.push _)⟩ (λ j hj=>?_) ⟨Heap.get?_push_of_some _ gS,.nil,b9K _,by show 0 * 5 < 7 * 3; decide⟩ (λ q hq=>(List.not_mem_nil hq).elim) (λ j hj=>(Nat.not_lt_zero _ hj).elim) ?hR
    ·have lv:i < ps.length:=by omega
     refine lt _ ?_
     simp [List.getD,lv]
    ·exact Nat.ne_of_lt (lbs i (by omega))
    ·rw [Heap.size_push]
     simp only [List.mem_cons,List.not_mem_nil,or_false]
     exact Nat.ne_of_lt (Nat.lt_succ_of_lt (lbs i (by omega)))
    ·exact (at_ j (by omega)).keep λ o e=>Heap.get?_push_of_some _ (Heap.get?_push_of_some _ e)
    case hR =>
     intro s' es' ep' t' L' hm hS' m1 m2
     obtain ⟨h',g',d',tk',os'⟩:=s'
     have eg:g' = s.gens:=hm.gens
     have ed:d' = s.drawn:=hm.drawn
     have eo:os' = s.os:=hm.os
     subst eg; subst ed; subst eo
     show wpAny _ _ _ _ _ _
     refine wpAny_pure ?_
     show wpAny _ _ (ret Value.none) _ _ _; refine wpAny_pure ⟨rfl,h',tk',es',ep',t',L',rfl,hS',λ q hq=>?_,λ p hp=>?_,λ b o hb e=>?_⟩
     ·obtain ⟨j,hj,e⟩:=m1 q hq
      exact ⟨j,by omega,e⟩
     ·obtain ⟨j,hj,e⟩:=List.getElem_of_mem hp
      have:=m2 j (by omega)
      rw [τα,List.getElem?_eq_getElem hj,e] at this
      exact this
     ·have b1:b ≠ s.heap.objs.size:=Nat.ne_of_lt hb
      have b2:b ≠ (s.heap.push (setO #[] 0 (.fresh 0 0 (!byT w)))).objs.size:=by rw [Heap.size_push]; exact Nat.ne_of_lt (Nat.lt_succ_of_lt hb)
      exact hm.heap b o (by simp only [List.mem_cons,List.not_mem_nil,or_false,not_or]; exact ⟨b1,b2⟩) (Heap.get?_push_of_some _ (Heap.get?_push_of_some _ e))
   ·cases r₂ with
    | error e=>exact hr₂
    | ok fl₂ =>
     cases fl₂ with
     | ret r =>
      obtain ⟨rfl,h',tk,es,ep,t,L,rfl,q1,q2,q3,q4⟩:=hr₂
      repeat (any_goals (first | assumption | wp_step))
      exact h _ _ es ep t L q1 q2 q3 q4
     | _=>exact hr₂.elim
  | _=>exact hr.elim
end
end Sp
set_option maxHeartbeats 4000000
namespace Sp
open PySem PyProof.Rows Sm
theorem a5L {B:Bool} {t:SetTable} {L:List (Addr × Pr)} (T:TbP B t (L.map (·.2))) (hB:B = false):∀ i,i <= L.length->SetTable.below t.place (a1H B t i) = i
 | 0,_=>by
  unfold a1H
  rw [hB]
  exact a8D T.up
 | k + 1,h=>by
  unfold a1H
  rw [hB]
  have hk:k < t.place.size:=by rw [T.sz,List.length_map]; omega
  simp only [Bool.false_eq_true,if_false,Nat.add_sub_cancel]
  rw [if_neg (by omega)]
  have:t.place.getD k 0 = t.place[k]:=by simp [Array.getD,hk]
  rw [this]
  exact a8E T.up hk
section
variable {prog:Program} {w:World} {A:Around} {E:Value->Shared->Prop} {s:Shared} {a:Addr} {L:List (Addr × Pr)}
theorem b9L {es:Array (Int × Value)} {ep:Nat} {t:SetTable} {B:Bool} {Q:Nat->Shared->Prop} (ho:s.heap.get? a = some (setO es ep t)) (hE:EsP es L) (T:TbP B t (L.map (·.2))) (fw:L.length * 5 < t.mask * 3) (h:Q ep s):wpAny (model prog w) A (setEpoch a) Q E s :=
 wpAny_setEpoch_of ho rfl (by rw [hE.len]; exact (λ z=>by rw [List.length_map] at z; exact z:t.fits (L.map (·.2)).length = true->t.fits L.length = true) (T.fits (by rw [List.length_map]; omega))) h
theorem b3A {es:Array (Int × Value)} {ep:Nat} {t:SetTable} {Q:Array (Int × Value)->Shared->Prop} (ho:s.heap.get? a = some (setO es ep t)) (hE:EsP es L) (T:TbP (byT w) t (L.map (·.2))) (fw:L.length * 5 < t.mask * 3)
  (h:Q (a1F w a ep es) s):wpAny (model prog w) A (setWalk a) Q E s:=by
 rw [b2Z]
 refine wpAny_bind (SetP.state (SetP.mk ho hE T fw) ?_)
 refine wpAny_bind (a2E ?_)
 have pl:=T.pl
 have ld:=T.led
 unfold a1F at h
 cases c:byT w with
 | true =>
  rw [c] at h
  simp only [if_true] at h ⊢
  exact wpAny_bind (wpAny_askSetting (wpAny_pure h))
 | false =>
  rw [c] at ld h
  simp only [pl,ld,Bool.not_true,Bool.not_false,Bool.false_and,Bool.false_eq_true,if_false] at h ⊢
  first | exact wpAny_bind (wpAny_pure (wpAny_pure h)) | exact wpAny_pure h
theorem a4V {es:Array (Int × Value)} {ep i:Nat} {t:SetTable} {Q:Option (Value × Nat)->Shared->Prop} (ho:s.heap.get? a = some (setO es ep t)) (hE:EsP es L) (T:TbP (byT w) t (L.map (·.2))) (fw:L.length * 5 < t.mask * 3) (hi:i <= L.length)
  (h:Q (((a1F w a ep es)[i]?).map λ e=>(e.2,a1H (byT w) t (i + 1))) s):wpAny (model prog w) A (setNext a (a1H (byT w) t i) i ep) Q E s:=by
 rw [b8T]
 refine wpAny_bind (SetP.state (SetP.mk ho hE T fw) ?_)
 refine wpAny_bind (a2E ?_)
 have pl:=T.pl
 have ld:=T.led
 cases c:byT w with
 | true =>
  simp only [if_true,bne_self_eq_false,Bool.false_eq_true,if_false]
  refine wpAny_bind (b3A ho hE T fw (wpAny_pure ?_))
  rw [c] at h
  unfold a1H at h ⊢
  simp only [if_true] at h ⊢
  exact h
 | false =>
  rw [c] at ld h
  simp only [pl,ld,Bool.not_true,Bool.not_false,Bool.false_and,Bool.false_eq_true,if_false]
  have bs:=a5L T c i hi
  rw [c] at bs
  rw [bs]
  have wk:a1F w a ep es = es:=by unfold a1F; rw [c]; rfl
  rw [wk] at h
  have e:(match es[i]?,t.place[i]? with
   | some (_,z),some m=>some (z,m + 1)
   | _,_=>none) = (es[i]?).map λ e=>(e.2,a1H false t (i + 1)):=by
   by_cases q:i < L.length
   ·have h1:i < es.size:=by rw [hE.len]; exact q
    have h2:i < t.place.size:=by rw [T.sz,List.length_map]; exact q
    rw [Array.getElem?_eq_getElem h1,Array.getElem?_eq_getElem h2]
    unfold a1H
    simp [Array.getD,h2]
   ·have h1:es[i]? = none:=Array.getElem?_eq_none (by rw [hE.len]; omega)
    rw [h1]
    rfl
  first
  | exact wpAny_bind (wpAny_pure (wpAny_pure (cast (congrArg (λ z=>Q z s) e.symm) h)))
  | exact wpAny_pure (cast (congrArg (λ z=>Q z s) e.symm) h)
theorem b3B {I:Addr} {es:Array (Int × Value)} {ep i:Nat} {t:SetTable} {e:Int × Value} {Q:Option Value->Shared->Prop} (ne:a ≠ I) (ho:s.heap.get? a = some (setO es ep t)) (hE:EsP es L) (T:TbP (byT w) t (L.map (·.2))) (fw:L.length * 5 < t.mask * 3)
  (hI:s.heap.get? I = some (itO (a1H (byT w) t i) i a L.length ep)) (hw:(a1F w a ep es)[i]? = some e)
  (h:∀ h',h'.get? I = some (itO (a1H (byT w) t (i + 1)) (i + 1) a L.length ep)->Heap.SameBut I s.heap h'->Q (some e.2) { s with heap:=h' }):wpAny (model prog w) A (pyNext (.ref I)) Q E s:=by
 have hi:i < L.length:=by
  rcases Nat.lt_or_ge i (a1F w a ep es).size with q | q
  ·rw [a1Q,hE.len] at q; exact q
  ·rw [Array.getElem?_eq_none q] at hw; cases hw
 have hT:s.TypeIs (.ref I) "set_iterator" := ⟨_,hI,rfl⟩
 unfold pyNext
 refine wpAny_bind (wpAny_attempt (wpAny_callSpecial?_slot (name:=Str.ofString "__next__") hT slot_si_next (wpAny_call_entry slot_si_next hT a2P ?_ (a2T _))))
 unfold Builtin.«set_iterator.__next__»
 refine wpAny_bind (m:=slotArgs "__next__" 0 _) (wpAny_pure ?_)
 dsimp only
 refine wpAny_bind (wpAny_fieldsOf hI rfl ?_)
 dsimp only
 unfold setEntries
 refine wpAny_bind (wpAny_bind (SetP.state (SetP.mk ho hE T fw) (wpAny_pure ?_)))
 have z:(((es.size:Nat):Int) != ((L.length:Nat):Int)) = false:=by rw [hE.len]; simp
 dsimp only
 rw [z]
 simp only [Bool.false_eq_true,if_false,Int.toNat_natCast]
 refine wpAny_bind (a4V ho hE T fw (by omega) ?_)
 rw [hw]
 dsimp only [Option.map]
 refine wpAny_bind (wpAny_setField_rec hI (by simp) λ h1 hI1 sb1=>?_)
 refine wpAny_bind (wpAny_setField_rec (s:={ s with heap:=h1 }) hI1 (by simp) λ h2 hI2 sb2=>?_)
 refine wpAny_pure ⟨_,rfl,wpAny_pure (h h2 ?_ (sb1.trans sb2))⟩
 rw [hI2]
 simp [rawInt]
theorem b8U {I:Addr} {es:Array (Int × Value)} {ep:Nat} {t:SetTable} {Q:Option Value->Shared->Prop} (hh:A.handled = none) (ne:a ≠ I) (ho:s.heap.get? a = some (setO es ep t)) (hE:EsP es L) (T:TbP (byT w) t (L.map (·.2))) (fw:L.length * 5 < t.mask * 3)
  (hI:s.heap.get? I = some (itO (a1H (byT w) t L.length) L.length a L.length ep))
  (h:∀ h',Heap.ExtBut I s.heap h'->Q none { s with heap:=h' }):wpAny (model prog w) A (pyNext (.ref I)) Q E s:=by
 have hT:s.TypeIs (.ref I) "set_iterator" := ⟨_,hI,rfl⟩
 unfold pyNext
 refine wpAny_bind (wpAny_attempt (wpAny_callSpecial?_slot (name:=Str.ofString "__next__") hT slot_si_next (wpAny_call_entry slot_si_next hT a2P ?_ (a2T _))))
 unfold Builtin.«set_iterator.__next__»
 refine wpAny_bind (m:=slotArgs "__next__" 0 _) (wpAny_pure ?_)
 dsimp only
 refine wpAny_bind (wpAny_fieldsOf hI rfl ?_)
 dsimp only
 unfold setEntries
 refine wpAny_bind (wpAny_bind (SetP.state (SetP.mk ho hE T fw) (wpAny_pure ?_)))
 have z:(((es.size:Nat):Int) != ((L.length:Nat):Int)) = false:=by rw [hE.len]; simp
 dsimp only
 rw [z]
 simp only [Bool.false_eq_true,if_false,Int.toNat_natCast]
 refine wpAny_bind (a4V ho hE T fw (by omega) ?_)
 rw [Array.getElem?_eq_none (by rw [a1Q,hE.len]; exact Nat.le_refl _)]
 dsimp only [Option.map]
 refine wpAny_bind (wpAny_setField_rec hI (by simp) λ h1 hI1 sb1=>?_)
 refine wpAny_bind ?_
 simp only [newExc,newTuple]
 refine wpAny_bind (wpAny_newObj_type ?_ (by size_fits))
 refine wpAny_bind (m:=firstArgMember _ _) (wpAny_of_eq (a:=Value.none) (by first | rfl | (simp only [firstArgMember]; rfl)) ?_); refine wpAny_newObj_type ?_ (by size_fits)
 simp only [raiseNew]
 refine wpAny_bind (wpAny_handled ?_)
 rw [show A.in1.handled = none from hh]; refine wpAny_bind (wpAny_pure (wpAny_throw ?_))
 refine wpAny_bind (wpAny_isInstance (U:="StopIteration") (T:="StopIteration") (b:=true) ⟨_,Heap.get?_push_size _ rfl,rfl⟩ isSubtype_stop ?_)
 exact wpAny_pure (h _ ((sb1.extBut.push _).push _))
theorem b8V {I:Addr} {es:Array (Int × Value)} {ep:Nat} {t:SetTable} (hh:A.handled = none) (ne:a ≠ I) (hE:EsP es L) (T:TbP (byT w) t (L.map (·.2))) (fw:L.length * 5 < t.mask * 3) :
  Walks prog w A I [I,a] [I] L.length (λ i v=>∃ e,(a1F w a ep es)[i]? = some e/\v = e.2)
   (λ i h=>h.get? I = some (itO (a1H (byT w) t i) i a L.length ep)/\h.get? a = some (setO es ep t)) where
 sub:=λ b hb=>by simp at hb; simp [hb]
 frame:=λ _ _ _ st hk=>⟨hk I (by simp) _ st.1,hk a (by simp) _ st.2⟩
 item:=λ i s Q E hi st hQ=>by
  obtain ⟨e,he⟩:∃ e,(a1F w a ep es)[i]? = some e:=⟨_,Array.getElem?_eq_getElem (by rw [a1Q,hE.len]; exact hi)⟩
  refine b3B ne st.2 hE T fw st.1 he λ h' hI sb=>?_
  exact hQ _ h' s.toks ⟨e,he,rfl⟩ ⟨hI,by rw [sb.2 a ne]; exact st.2⟩ λ b o hb q=>by rw [sb.2 b (λ c=>hb (by simp [c]))]; exact q
 done:=λ s Q E st hQ=>b8U hh ne st.2 hE T fw st.1 λ h' xb=>hQ h' s.toks λ b o hb q=>xb b o (λ c=>hb (by simp [c])) q
 self:=λ i s Q E st hQ=>by
  have hT:s.TypeIs (.ref I) "set_iterator" := ⟨_,st.1,rfl⟩
  refine wpAny_pyIter_slot hT a2U (wpAny_call_entry a2U hT a4U ?_ (a5Z _))
  show wpAny _ _ (ret (Value.ref I)) _ _ s; exact wpAny_pure ⟨_,rfl, "set_iterator", _,hT,slot_si_next.lookup,hQ⟩
theorem b3C {es:Array (Int × Value)} {ep:Nat} {t:SetTable} {Q:Value->Shared->Prop} (ho:s.heap.get? a = some (setO es ep t)) (hE:EsP es L) (T:TbP (byT w) t (L.map (·.2))) (fw:L.length * 5 < t.mask * 3)
  (h:Q (.ref s.heap.objs.size) { s with heap:=s.heap.push (itO 0 0 a L.length ep) }):wpAny (model prog w) A (pyIter (.ref a)) Q E s:=by
 have hT:s.TypeIs (.ref a) "set" := ⟨_,ho,rfl⟩
 refine wpAny_pyIter_slot hT F.slot_set_iter (wpAny_call_entry F.slot_set_iter hT a8G ?_ (F.args_set_iter_1 _))
 unfold Builtin.«frozenset.__iter__»
 refine wpAny_bind (m:=Builtin.Frozenset.slot0 _ _) (wpAny_pure ?_)
 unfold Builtin.Frozenset.sizeOf setEntries
 refine wpAny_bind (wpAny_bind (wpAny_bind (SetP.state (SetP.mk ho hE T fw) (wpAny_pure (wpAny_pure ?_)))))
 rw [b4I]
 refine wpAny_bind (wpAny_bind (SetP.state (SetP.mk ho hE T fw) ?_))
 refine wpAny_bind (a2E (wpAny_pure ?_))
 rw [T.pl]
 simp only [Bool.not_true,Bool.false_and,Bool.and_false,Bool.false_eq_true,if_false]
 refine wpAny_bind (wpAny_pure ?_)
 refine wpAny_bind (b9L ho hE T fw ?_)
 refine wpAny_bind ?_
 unfold newFields
 refine wpAny_newObj_type ?_
 refine wpAny_pure ⟨_,rfl, "set_iterator", _,⟨_,Heap.get?_push_size _ rfl,rfl⟩,slot_si_next.lookup,?_⟩
 rw [hE.len]
 exact h
theorem collect_set {es:Array (Int × Value)} {ep:Nat} {t:SetTable} {Q:List Value->Shared->Prop} (hh:A.handled = none) (ho:s.heap.get? a = some (setO es ep t)) (hE:EsP es L) (T:TbP (byT w) t (L.map (·.2))) (fw:L.length * 5 < t.mask * 3)
  (h:∀ (h':Heap) (tk:Nat),(∀ b o,s.heap.get? b = some o->h'.get? b = some o)->s.heap.objs.size < h'.objs.size->Q ((a1F w a ep es).toList.map (·.2)) { s with heap:=h',toks:=tk }):wpAny (model prog w) A (collect (.ref a)) Q E s:=by
 have lt:a < s.heap.objs.size:=Heap.lt_size ho
 unfold collect
 refine wpAny_bind (wpAny_runValue (codeAny_builtin F.entry_proto_collect ?_))
 rw [Around.under_plainId F.plain_proto_collect _]
 show wpAny _ A.in1 (newList [] >>= λ l=>again (.builtin "list.__iadd__" ⟨[l,.ref a],[]⟩)) _ _ s
 refine wpAny_bind (wpAny_newObj_type (wpAny_pure ⟨plainId_quiet F.plain_list_iadd _,codeAny_builtin F.entry_list_iadd ?_⟩))
 rw [Around.under_plainId F.plain_list_iadd _]
 have S0:(s.heap.push { cls:=.type "list", data:=.seq ([]:List Value).toArray }).get? s.heap.objs.size = some { cls:=.type "list", data:=.seq ([]:List Value).toArray }:=Heap.get?_push_size _ rfl
 have ho1:(s.heap.push { cls:=.type "list", data:=.seq ([]:List Value).toArray }).get? a = some (setO es ep t):=Heap.get?_push_of_some _ ho
 have hT1:Shared.TypeIs { s with heap:=s.heap.push { cls:=.type "list", data:=.seq ([]:List Value).toArray } } (.ref a) "set" := ⟨_,ho1,rfl⟩
 show wpAny _ A.in1 (Builtin.List.listExtendWith (.ref s.heap.objs.size) (.ref a) (.ref s.heap.objs.size)) _ _ { s with heap:=s.heap.push { cls:=.type "list", data:=.seq ([]:List Value).toArray } }
 unfold Builtin.List.listExtendWith
 refine wpAny_bind (wpAny_typeOf hT1 ?_)
 have n1:Builtin.List.listSameRef (.ref s.heap.objs.size) (.ref a) = false:=by simp [Builtin.List.listSameRef,Nat.ne_of_gt lt]
 simp only [n1,b8W,c4P,Bool.or_false,Bool.false_eq_true,if_false]
 refine wpAny_bind (b3C ho1 hE T fw ?_)
 refine wpAny_bind (wpAny_holding ?_)
 have ho2:((s.heap.push { cls:=.type "list", data:=.seq ([]:List Value).toArray }).push (itO 0 0 a L.length ep)).get? a = some (setO es ep t):=Heap.get?_push_of_some _ ho1
 have hT2:Shared.TypeIs { s with heap:=(s.heap.push { cls:=.type "list", data:=.seq ([]:List Value).toArray }).push (itO 0 0 a L.length ep) } (.ref a) "set" := ⟨_,ho2,rfl⟩
 unfold Builtin.List.listLengthHint
 refine wpAny_bind (wpAny_specialOf hT2 b4J ?_)
 dsimp only
 rw [Sm.split_len]
 dsimp only
 refine wpAny_bind (wpAny_isInstance hT2 b4F ?_)
 rw [if_neg (by decide)]
 rw [if_pos (by decide +kernel)]
 refine wpAny_bind (wpAny_typeOf hT2 ?_)
 dsimp only
 refine wpAny_pure ?_
 rw [if_pos (by decide +kernel)]
 refine wpAny_bind (wpAny_rule ?_)
 have lsz:(s.heap.push { cls:=.type "list", data:=.seq ([]:List Value).toArray }).objs.size = s.heap.objs.size + 1:=size_push' _ _
 have S1:((s.heap.push { cls:=.type "list", data:=.seq ([]:List Value).toArray }).push (itO 0 0 a L.length ep)).get? s.heap.objs.size = some { cls:=.type "list", data:=.seq ([]:List Value).toArray }:=Heap.get?_push_of_some _ S0
 refine wpAny_bind ?_
 show wpAny _ A.in1 (updateSeq s.heap.objs.size (·.push .none) >>= λ _=>updateSeq s.heap.objs.size (·.pop)) _ _ _
 refine wpAny_bind (wpAny_updateSeq S1 rfl ?_)
 have S2:=Heap.get?_update_self (Obj.mapSeq (·.push Value.none)) S1 rfl
 refine wpAny_updateSeq S2 rfl ?_
 have S3:=Heap.get?_update_self (Obj.mapSeq (·.pop)) S2 rfl
 have oth:∀ b o,b ≠ s.heap.objs.size->((s.heap.push { cls:=.type "list", data:=.seq ([]:List Value).toArray }).push (itO 0 0 a L.length ep)).get? b = some o ->
   ((((s.heap.push { cls:=.type "list", data:=.seq ([]:List Value).toArray }).push (itO 0 0 a L.length ep)).update s.heap.objs.size (Obj.mapSeq (·.push Value.none))).update s.heap.objs.size (Obj.mapSeq (·.pop))).get? b = some o :=
  λ b o hb e=>(Heap.get?_update_other _ _ (Ne.symm hb)).trans ((Heap.get?_update_other _ _ (Ne.symm hb)).trans e)
 have neI:a ≠ (s.heap.push { cls:=.type "list", data:=.seq ([]:List Value).toArray }).objs.size:=by rw [lsz]; exact Nat.ne_of_lt (Nat.lt_succ_of_lt lt)
 have W:=(b8V (prog:=prog) (w:=w) (A:=A.in1) (I:=(s.heap.push { cls:=.type "list", data:=.seq ([]:List Value).toArray }).objs.size) (ep:=ep) (by simpa using hh) neI hE T fw).toS
 have l16:L.length <= 127:=by
  have:=fw
  rcases T.mok with e | e | e <;> rw [e] at this <;> omega
 have sl0:a1H (byT w) t 0 = 0:=by unfold a1H; split <;> rfl
 refine wpAny_pure ⟨plainId_quiet F.plain_extend_loop _,codeAny_extend_loopS W (by rw [sizeLine_eq]; omega) _ (by
   rw [lsz]; simp only [List.mem_cons,List.not_mem_nil,or_false,not_or]; exact ⟨Nat.ne_of_lt (Nat.lt_succ_self _),Nat.ne_of_gt lt⟩) _ _ 0 _ #[] _ rfl (Nat.zero_le _) ⟨?_,?_⟩ S3 (ItemsOf.nil _) λ s' acc' c' hm hS' hacc=>?_⟩
 ·refine oth _ _ (by rw [lsz]; exact Nat.ne_of_gt (Nat.lt_succ_self _)) ?_
  rw [sl0]
  exact Heap.get?_push_size _ rfl
 ·exact oth _ _ (Nat.ne_of_lt lt) ho2
 ·obtain ⟨h',g',d',tk',os'⟩:=s'
  have eg:g' = s.gens:=hm.gens
  have ed:d' = s.drawn:=hm.drawn
  have eo:os' = s.os:=hm.os
  subst eg; subst ed; subst eo
  show wpAny _ A (load s.heap.objs.size >>= _) _ _ _
  refine wpAny_bind (wpAny_load hS' ?_)
  dsimp only
  have el:acc'.toList = (a1F w a ep es).toList.map (·.2):=by
   apply List.ext_getElem?
   intro i
   rw [Array.getElem?_toList,List.getElem?_map,Array.getElem?_toList]
   rcases Nat.lt_or_ge i acc'.size with q | q
   ·obtain ⟨e,he,hv⟩:=hacc.2 i acc'[i] (Array.getElem?_eq_getElem q)
    rw [Array.getElem?_eq_getElem q,he,hv]
    rfl
   ·rw [Array.getElem?_eq_none q,Array.getElem?_eq_none (by rw [a1Q,hE.len,<- hacc.1]; exact q)]
    rfl
  rw [el]
  refine wpAny_pure (h h' tk' (λ b o e=>?_) (Heap.lt_size hS'))
  have lb:b < s.heap.objs.size:=Heap.lt_size e
  refine hm.heap b o (by rw [lsz]; simp only [List.mem_cons,List.not_mem_nil,or_false,not_or]; exact ⟨Nat.ne_of_lt lb,Nat.ne_of_lt (Nat.lt_succ_of_lt lb)⟩) (oth b o (Nat.ne_of_lt lb) (Heap.get?_push_of_some _ (Heap.get?_push_of_some _ e)))
end
end Sp
set_option maxHeartbeats 4100000
namespace L2
open PySem PySem.Spec PyProof.Rows Bg Srt Sm Sp
def c2W (w:World) (a:Addr) (L:List (Addr × Pr)):HO:=.ext λ h=>∃ es ep t,SetP (byT w) h a es ep t L
def prI (q:Addr × Pr):Int × Int:=((q.2.1:Int),(q.2.2:Int))
def b9M (H:Hp) (L:List (Addr × Pr)):Prop:=∀ q ∈ L,H q.1 = some (.tup [.int (prI q).1,.int (prI q).2])
def c9X (w:World) (K:Φρ):List V->Hp->VK->Prop:=λ xs H Q=>∃ l vs,∃ ts:List ζζ,xs = [.ref l]/\SqL K H l vs/\Paired (TieL H) vs ts/\(∀ t ∈ ts,0 <= t.1/\t.1 < t.2/\t.2 < 10) /\
 ∀ p (L:List (Addr × Pr)) H',New H p (c2W w p L) H'->b9M H L->(L.map prI).Nodup->(∀ t,t ∈ ts ↔ t ∈ L.map prI)->L.length <= 45->Q (.ref p) H'
def d1Y (a b:Int × Int):Prop:=¬ [b.1,b.2] < [a.1,a.2]
def c6Z (w:World):List V->Hp->VK->Prop:=λ xs H Q=>∃ a L,xs = [.ref a]/\H a = some (c2W w a L)/\b9M H L/\L.length < 64 /\
 ∀ (us:List ζζ) (vs:List V) p H',us.Perm (L.map prI)->us.Pairwise d1Y->Paired (TieL H) vs us->New H p (.lst vs) H'->Q (.ref p) H'
theorem c2X {w:World} {H:Hp} {h:Heap} {a:Addr} {L:List (Addr × Pr)} {P:Program} {w':World} (S:∃ es ep t,SetP (byT w) h a es ep t L):ObjOk P w' H h a (c2W w a L):=by
 refine ⟨S,?_,?_⟩
 ·obtain ⟨_,_,_,S⟩:=S
  exact ⟨_,S.obj⟩
 ·rintro h1 h2 ⟨es,ep,t,S⟩ k
  exact ⟨es,ep,t,S.keep k⟩
theorem d1Z {P:Program} {w:World} {H:Hp} {h:Heap} {a:Addr} {x y:Int} {p:Pr} (ok:HOk P w H h) (e:H a = some (.tup [.int x,.int y])) (e1:((p.1:Nat):Int) = x) (e2:((p.2:Nat):Int) = y):PrAt P w h p a:=by
 obtain ⟨_,its,r,o,h1,h2,n,h3⟩:=(show ObjOk P w H h a (.tup [.int x,.int y]) from ok a _ e)
 refine ⟨o,its.toArray,n,h1,h2,h3,?_⟩
 cases r with
 | cons r1 r =>
  cases r with
  | cons r2 r =>
   cases r
   obtain ⟨t1,rfl⟩:=r1
   obtain ⟨t2,rfl⟩:=r2
   rw [e1,e2]
   show PySem.ItemsAre _ _ [Value.int x t1,Value.int y t2]
   exact .cons (intKind_is _ _ _ _) (.cons (intKind_is _ _ _ _) .nil)
theorem b9N {H:Hp}:∀ {vs:List V} {us:List Value} {ts:List ζζ},Vals vs us->Paired (TieL H) vs ts->∃ bs:List Addr,us = bs.map Value.ref/\bs.length = ts.length/\∀ j,j < bs.length->H (bs.getD j 0) = some (.tup [.int (ts.getD j (0,0)).1,.int (ts.getD j (0,0)).2])
 | _,_,_,.nil,p=>by
  cases p
  exact ⟨[],rfl,rfl,λ j hj=>(Nat.not_lt_zero _ hj).elim⟩
 | _,_,_,.cons r t,p=>by
  cases p with
  | cons a b =>
   obtain ⟨q,rfl,hq⟩:=a
   obtain ⟨bs,e,l,f⟩:=b9N t b
   cases r
   refine ⟨q :: bs,by rw [e]; rfl,by rw [List.length_cons,List.length_cons,l],λ j hj=>?_⟩
   cases j with
   | zero=>exact hq
   | succ j=>exact f j (by simpa using hj)
section
variable {X:Cx} {K:Φρ} {w:World}
theorem b6E (ek:X.K = K) (ew:X.w = w) (cm:X.calm = true) (hu:X.A.units + 8 < cLine):CallR X (.type "set") (c9X w K):=by
 subst ek; subst ew
 intro pins s σ H xs us Q I r h
 obtain ⟨l,vs,ts,rfl,hL,hP,ok,q⟩:=h
 obtain ⟨u,rfl,rx⟩:=a4B r
 cases rx
 obtain ⟨its,r',pl,hz⟩:=I.list hL
 obtain ⟨bs,eb,lb,hb⟩:=b9N r' hP
 have mem:∀ j,j < bs.length->ts.getD j (0,0) ∈ ts:=λ j hj=>by
  rw [τα,List.getElem?_eq_getElem (by omega)]
  exact List.getElem_mem _
 have pg:∀ j,j < bs.length->(ts.map λ t=>((t.1.toNat,t.2.toNat):Pr)).getD j (0,0) = ((ts.getD j (0,0)).1.toNat,(ts.getD j (0,0)).2.toNat):=λ j hj=>by
  rw [τα,List.getElem?_map,τα,List.getElem?_eq_getElem (by omega)]
  rfl
 refine c6Y (bs:=bs) (ps:=ts.map λ t=>(t.1.toNat,t.2.toNat)) hu (I.ok.hd cm) pl.isList (by simpa using eb) (by rw [List.length_map]; omega) (λ j hj=>?_) (λ p hp=>?_) λ h' tk es ep t L S m1 m2 k=>?_
 ·have o:=ok _ (mem j hj)
  rw [pg j hj]
  exact d1Z I.hok (hb j hj) (by show ((Int.toNat _:Nat):Int) = _; omega) (by show ((Int.toNat _:Nat):Int) = _; omega)
 ·obtain ⟨t,ht,rfl⟩:=List.mem_map.mp hp
  have:=ok t ht
  dsimp only
  omega
 ·have hf:H s.heap.objs.size = none:=I.hok.fresh (Nat.le_refl _)
  have at_:b9M H L:=λ q hq=>by
   obtain ⟨j,hj,rfl⟩:=m1 q hq
   have o:=ok _ (mem j hj)
   have e:=hb j hj
   rw [pg j hj]
   have e1:prI (bs.getD j 0,((ts.getD j (0,0)).1.toNat,(ts.getD j (0,0)).2.toNat)) = ts.getD j (0,0):=by
    refine Prod.ext ?_ ?_
    ·show ((Int.toNat _:Nat):Int) = _; omega
    ·show ((Int.toNat _:Nat):Int) = _; omega
   rw [e1]
   exact e
  have inj:∀ p q:Pr,(((p.1:Nat):Int),((p.2:Nat):Int)) = (((q.1:Nat):Int),((q.2:Nat):Int))->p = q:=λ p q e=>by
   injection e with e1 e2
   exact Prod.ext (by omega) (by omega)
  have nd:(L.map prI).Nodup:=by
   have:=S.tab.nd
   unfold List.Nodup at this ⊢
   rw [List.pairwise_map] at this ⊢
   exact this.imp λ h e=>h (inj _ _ e)
  have few:L.length <= 45:=by
   have:=c9W S.tab.nd λ p hp=>by
    obtain ⟨q,hq,rfl⟩:=List.mem_map.mp hp
    obtain ⟨j,hj,rfl⟩:=m1 q hq
    have o:=ok _ (mem j hj)
    rw [pg j hj]
    dsimp only
    omega
   rw [List.length_map] at this
   exact this
  refine ⟨.ref s.heap.objs.size,_,I.laid (t':=tk) (o:=c2W X.w s.heap.objs.size L) (λ b o eo=>k b o (Heap.lt_size eo) eo) (Nat.le_refl _) (c2X ⟨es,ep,t,S⟩),rfl,q _ L _ (New.mk0 hf) at_ nd (λ u=>⟨λ hu=>?_,λ hu=>?_⟩) few⟩
  ·obtain ⟨q,hq,e⟩:=List.mem_map.mp (m2 _ (List.mem_map.mpr ⟨u,hu,rfl⟩))
   have o:=ok u hu
   refine List.mem_map.mpr ⟨q,hq,?_⟩
   unfold prI
   rw [e]
   refine Prod.ext ?_ ?_
   ·show ((Int.toNat _:Nat):Int) = _; omega
   ·show ((Int.toNat _:Nat):Int) = _; omega
  ·obtain ⟨q,hq,rfl⟩:=List.mem_map.mp hu
   obtain ⟨j,hj,rfl⟩:=m1 q hq
   have o:=ok _ (mem j hj)
   rw [pg j hj]
   have e1:prI (bs.getD j 0,((ts.getD j (0,0)).1.toNat,(ts.getD j (0,0)).2.toNat)) = ts.getD j (0,0):=by
    refine Prod.ext ?_ ?_
    ·show ((Int.toNat _:Nat):Int) = _; omega
    ·show ((Int.toNat _:Nat):Int) = _; omega
   rw [e1]
   exact mem j hj
theorem b3E {α β:Type} {R:α->β->Prop} {xs:List α} {ys:List β} (h:Paired R xs ys) {xs':List α} (p:xs'.Perm xs):∃ ys',Paired R xs' ys'/\ys'.Perm ys:=by
 induction p generalizing ys with
 | nil=>cases h; exact ⟨[],.nil,.nil⟩
 | cons x _ ih =>
  cases h with
  | cons r t =>
   obtain ⟨zs,h1,h2⟩:=ih t
   exact ⟨_ :: zs,.cons r h1,h2.cons _⟩
 | swap x y l =>
  cases h with
  | cons r t =>
   cases t with
   | cons r2 t =>
    exact ⟨_ :: _ :: _,.cons r2 (.cons r t),.swap ..⟩
 | trans _ _ ih1 ih2 =>
  obtain ⟨ys1,a1,a2⟩:=ih2 h
  obtain ⟨ys2,b1,b2⟩:=ih1 a1
  exact ⟨ys2,b1,b2.trans a2⟩
theorem a7C {g:Pr->Int}:∀ {es:List (Int × Value)} {L:List (Addr × Pr)},Paired (λ e q=>e.1 = g q.2/\e.2 = Value.ref q.1) es L->es.map (·.2) = L.map λ q=>Value.ref q.1
 | _,_,.nil=>rfl
 | _,_,.cons r t=>by rw [List.map_cons,List.map_cons,a7C t,r.2]
theorem b4R {H:Hp}:∀ {L:List (Addr × Pr)},b9M H L->Paired (TieL H) (L.map λ q=>V.ref q.1) (L.map prI)
 | [],_=>.nil
 | q :: L,h=>.cons ⟨_,rfl,h q List.mem_cons_self⟩ (b4R λ x hx=>h x (List.mem_cons_of_mem _ hx))
theorem a8J:∀ L:List (Addr × Pr),Vals (L.map λ q=>V.ref q.1) (L.map λ q=>Value.ref q.1)
 | []=>.nil
 | _ :: L=>.cons rfl (a8J L)
set_option maxHeartbeats 8000000 in
theorem a9H (ew:X.w = w) (cm:X.calm = true):CallR X (.builtin "sorted") (c6Z w):=by
 subst ew
 intro pins s σ H xs0 us0 Q I r h
 obtain ⟨d,L0,rfl,hd,at0,h64,q⟩:=h
 obtain ⟨u,rfl,rx⟩:=a4B r
 cases rx
 obtain ⟨⟨es,ep,t,S⟩,_⟩:=I.hok d _ hd
 obtain ⟨L,hP0,pmL⟩:=b3E S.ent (a4I X.w d ep es)
 have lL:L.length = L0.length:=pmL.length_eq
 have at_:b9M H L:=λ x hx=>at0 x (pmL.mem_iff.mp hx)
 have pt:=b4R at_
 have r':=a8J L
 have ek:=a7C (g:=hPr) hP0
 have hP:Paired (TupV X.K H) (L.map λ q=>V.ref q.1) ((L.map prI).map λ t=>[t.1,t.2]):=by
  have:∀ {vs:List V} {ts:List ζζ},Paired (TieL H) vs ts->Paired (TupV X.K H) vs (ts.map λ t=>[t.1,t.2]):=λ {vs ts} h=>by
   induction h with
   | nil=>exact .nil
   | cons a _ ih =>
    obtain ⟨p,e,hp⟩:=a
    exact .cons ⟨p,e,SqT.of hp⟩ ih
  exact this pt
 have ht:=b7Y I r' hP λ ns hn=>by
  obtain ⟨t,_,rfl⟩:=List.mem_map.mp hn
  exact λ z=>by cases z
 apply Calls.call_function_entry kind_sorted plain_sorted entry_sorted (args_sorted1 _)
 unfold Builtin.«sorted»
 refine wpAny_bind (m:=checkCount "sorted" 1 1 _) (wpAny_pure ?_)
 refine wpAny_bind (Sp.collect_set (by simpa using I.ok.hd cm) S.obj S.ent S.tab S.few λ h1 tk k lz=>?_)
 rw [ek]
 generalize hts:L.map prI = ts at pt hP ht
 have lts:ts.length = L0.length:=by rw [<- hts,List.length_map,lL]
 have lvs:(L.map λ q=>V.ref q.1).length = ts.length:=by rw [List.length_map,lL,lts]
 generalize hzs:(L.map λ q=>Value.ref q.1) = zs at r' ht
 have lzs:zs.length = ts.length:=by rw [<- hzs,List.length_map,lL,lts]
 refine wpAny_bind (wpAny_newList ?_ (by rw [sizeLine_eq]; omega))
 have o1:(h1.push (seqObj "list" zs.toArray 0)).get? h1.objs.size = some (seqObj "list" zs.toArray 0):=Heap.get?_push_size _ rfl
 refine wpAny_bind (wpAny_holding (wpAny_call_entry slot_list_sort ⟨_,o1,rfl⟩ entry_list_sort (b0T (κ:=tuples' true) (key:=rank (ts.map λ t=>[t.1,t.2])) o1 (by omega) (λ g2 h' kp=>?_) λ p pm sr=>⟨_,rfl,?_⟩) (args_list_sort _)))
 ·refine b7X (ht.keep λ b o e=>kp b o ?_ (Heap.get?_push_of_some _ (k b o e))) g2
  exact Nat.ne_of_lt (Nat.lt_trans (Heap.lt_size e) lz)
 ·obtain ⟨n',o2⟩:=Sm.sh_at (vs:=zs) (out:=b5W zs p) o1
  have hsz:=pm.size
  have hpr:p.toList.Perm (List.range ts.length):=by
   have:=Array.perm_iff_toList_perm.mp pm.perm
   rw [lzs] at this
   simpa using this
  have mem:∀ i ∈ p.toList,i < ts.length:=λ i hi=>List.mem_range.mp (hpr.mem_iff.mp hi)
  have z:(p.toList.map λ i=>(L.map λ q=>V.ref q.1).getD i V.non).length = ts.length:=by rw [List.length_map,Array.length_toList,hsz,lzs]
  have hp0:s.heap.objs.size <= h1.objs.size:=Nat.le_of_lt lz
  refine wpAny_pure ⟨_,rfl,.ref h1.objs.size,_,I.laid (t':=tk) (o:=.lst (p.toList.map λ i=>(L.map λ q=>V.ref q.1).getD i V.non)) (λ b o eo=>?_) hp0 ?_,rfl,?_⟩
  ·have lb:b < h1.objs.size:=Nat.lt_trans (Heap.lt_size eo) lz
   exact Sm.sh_old (by rw [size_push']; exact Nat.lt_succ_of_lt lb) (Nat.ne_of_lt lb) (Heap.get?_push_of_some _ (k b o eo))
  ·refine ⟨by rw [z,sizeLine_eq]; omega,_,n',b4A r' p.toList (λ i hi=>by rw [lvs]; exact mem i hi),?_⟩
   exact o2
  ·refine q _ _ _ _ ((b9A hpr).trans (hts ▸ pmL.map prI)) ?_ (b4L pt p.toList mem) (New.mk0 (I.hok.fresh hp0))
   rw [List.pairwise_iff_getElem]
   intro i j hi hj hij
   rw [List.length_map,Array.length_toList,hsz] at hi hj
   have q1:=sr i j (Nat.le_of_lt hij) hj
   unfold Srt.KK at q1
   have li:=pm.lt hi
   have lj:=pm.lt hj
   rw [List.getElem_map,List.getElem_map]
   have e1:p.getD i 0 = p.toList[i]'(by rw [Array.length_toList,hsz]; exact hi):=by simp [Array.getD,hsz,hi]
   have e2:p.getD j 0 = p.toList[j]'(by rw [Array.length_toList,hsz]; exact hj):=by simp [Array.getD,hsz,hj]
   rw [<- e1,<- e2]
   intro c
   have ge:∀ i,i < ts.length->(ts.map λ t=>[t.1,t.2]).getD i [] = [(ts.getD i (0,0)).1,(ts.getD i (0,0)).2]:=λ i hi=>by
    rw [τα,List.getElem?_map,List.getElem?_eq_getElem hi,τα,List.getElem?_eq_getElem hi]
    rfl
   have z1:=b7W (ls:=ts.map λ t=>[t.1,t.2]) (i:=p.getD j 0) (j:=p.getD i 0) (by rw [List.length_map]; omega)
   rw [ge _ (by omega),ge _ (by omega)] at z1
   rw [decide_eq_true c] at z1
   have:=of_decide_eq_true z1
   omega
end
end L2
namespace K
open PySem L2 Lw Bg
def top (i:Nat):Stmt:=PySem.Challenge.pw_bagwood_k50_whole_four_in_a_bag.main.body.getD i (.Pass ⟨0,0,0,0⟩)
abbrev a8K:Stmt:=top 5
theorem b3F:FnScope ["thing"] ["thing"] (a0E a8K):=⟨rfl,rfl,rfl,by decide +kernel,rfl,by decide +kernel,by decide +kernel⟩
abbrev a8L:Stmt:=top 6
theorem b3G:FnScope ["n", "thing"] ["n", "thing"] (a0E a8L):=⟨rfl,rfl,rfl,by decide +kernel,rfl,by decide +kernel,by decide +kernel⟩
abbrev b4S:Stmt:=top 7
theorem b9O:FnScope ["n", "places"] ["n", "places"] (a0E b4S):=⟨rfl,rfl,rfl,by decide +kernel,rfl,by decide +kernel,by decide +kernel⟩
def c7A (K:Φρ):Sp:=λ vs H Q _=>∃ (x:V) (t:Value) (bi bb:Bool),vs = [x]/\TyOf K H x t/\PySem.W.kitOne K t (.type "int") = some bi/\PySem.W.kitOne K t (.type "bool") = some bb/\Q (.bl (bi && !bb)) H
def c7B:Sp:=λ vs H Q _=>∃ (n:Int) (o:Option Int),vs = [.int n,upV o]/\Q (.bl (a4P n o)) H
def d2A (K:Φρ):Sp:=λ vs H Q _=>∃ (n:Int) (a:Addr) (ns:List Int),vs = [.int n,.ref a]/\SqL K H a (ns.map V.int)/\ns.length <= 1000/\∀ H',Same H H'->Q (.bl (setF n ns)) H'
section
variable {P:Program} {w:World} {K:Φρ} {mg:Str->Option Value} {base:Heap}
abbrev DZ16 (K:PySem.W.Frag) (mg:Str->Option Value):=Dn K mg "is_whole" a8K ["thing"]
set_option maxHeartbeats 4000000 in
theorem b3H (B:Bl mg) (dZ16:DZ16 K mg):FnOk P w K mg base CX0 1 dZ16.f dZ16.fd ["thing"] (c7A K):=by
 refine dZ16.F.ok b3F (λ vs H Q E h=>?_) (λ cdv A outer s H vs Q E hr h=>?_)
 ·obtain ⟨x,t,bi,bb,rfl,_⟩:=h
  rfl
 obtain ⟨x,t,bi,bb,rfl,ty,h1,h2,q⟩:=h
 refine ⟨_,(a0D (a0K (c4C (a0N (a3L (K:=K) rfl) rfl B.isinstance (by decide +kernel) (a0A (pv 0) (a0A (b2H (v:=.ty "int") (u:=.type "int") rfl B.int (by decide +kernel) rfl) a0B))) (b6T (c8J (a0N (a3L (K:=K) rfl) rfl B.isinstance (by decide +kernel) (a0A (pv 0) (a0A (b2H (v:=.ty "bool") (u:=.type "bool") rfl B.bool (by decide +kernel) rfl) a0B)))))))),?_⟩
 refine ⟨_,rfl,_,_,_,_,_,rfl,rfl,ty,h1,_,rfl,?_⟩
 cases bi with
 | true =>
  refine iteT ?_
  exact ⟨_,rfl,_,_,_,_,_,rfl,rfl,ty,h2,_,rfl,q⟩
 | false=>exact iteF q
abbrev DZ12 (K:PySem.W.Frag) (mg:Str->Option Value):=Dn K mg "is_below" a8L ["n", "thing"]
set_option maxHeartbeats 4000000 in
theorem a7D (B:Bl mg) (dZ16:DZ16 K mg) (dZ12:DZ12 K mg):FnOk P w K mg base CX0 2 dZ12.f dZ12.fd ["n", "thing"] c7B:=by
 have gZ16:FnOk P w K mg base CX0 1 _ _ _ _:=b3H B dZ16
 refine dZ12.F.ok b3G (λ vs H Q E h=>?_) (λ cdv A outer s H vs Q E hr h=>?_)
 ·obtain ⟨n,i,rfl,_⟩:=h
  rfl
 obtain ⟨n,o,rfl,q⟩:=h
 refine ⟨_,(a0D (a0K (c4C (a0F gZ16 hr rfl dZ16.m dZ16.F.kp dZ16.b .nil a0M (a0A (pv 1) a0B)) (b6T (c1Q c8Q a8S a0G (pv 1) (pv 0)))))),?_⟩
 cases o with
 | none=>exact ⟨_,rfl,_,_,_,_,rfl,TyOf.non,b2N,b0M,_,rfl,iteF q⟩
 | some i =>
  refine ⟨_,rfl,_,_,_,_,rfl,TyOf.int i,b2M,b0L,_,rfl,?_⟩
  refine iteT ?_
  refine ⟨_,rfl,_,_,rfl,rfl,_,rfl,?_⟩
  refine ite2 (λ c=>?_) (λ c=>?_)
  ·have c':0 <= i:=of_decide_eq_true c
   refine ⟨_,rfl,_,_,rfl,rfl,?_⟩
   have e:a4P n (some i) = decide (i < n):=by unfold a4P; simp [c']
   rw [e] at q; exact q
  ·have c':¬ 0 <= i:=of_decide_eq_false (Bool.eq_false_iff.mpr c)
   have e:a4P n (some i) = false:=by unfold a4P; simp [c']
   rw [e] at q; exact q
abbrev DZ15 (K:PySem.W.Frag) (mg:Str->Option Value):=Dn K mg "is_set" b4S ["n", "places"]
set_option maxHeartbeats 4000000 in
theorem b9P (B:Bl mg) (dZ16:DZ16 K mg) (dZ12:DZ12 K mg) (dZ15:DZ15 K mg):FnOk P w K mg base CX0 3 dZ15.f dZ15.fd ["n", "places"] (d2A K):=by
 have gZ12:FnOk P w K mg base CX0 2 _ _ _ _:=a7D B dZ16 dZ12
 refine dZ15.F.ok b9O (λ vs H Q E h=>?_) (λ cdv A outer s H vs Q E hr h=>?_)
 ·obtain ⟨n,a,ns,rfl,_⟩:=h
  rfl
 obtain ⟨n,a,ns,rfl,hS,hz,q⟩:=h
 refine ⟨_,(a0C (a2Y (a7W (a0W (K:=K) rfl (a0N (a6V (K:=K) rfl rfl) rfl B.all (by decide +kernel) (a0A (a3K ["v", "n"] [none,some 0]  (by kernel_rfl) rfl (a0P (K:=K) rfl (pv 1)) (λ _ _ _ _ _=>(a0H (i:=0) (show (["v", "n"]:List Str).Nodup by decide +kernel) rfl (Or.inl rfl))) (λ _ _ _ _ _=>a2N) (λ _ _ _ _ _=>(a0F gZ12 hr rfl dZ12.m dZ12.F.kp dZ12.b .nil a0M (a0A (pv 1) (a0A (pv 0) a0B))))) a0B)) (λ _=>rfl)))
   (a0D (a0K a6P))
   a1O)
   (a0D (a0K (a0N (a6V (K:=K) rfl rfl) rfl B.all (by decide +kernel) (a0A (a3K ["k", "places"] [none,some 1]  (by kernel_rfl) rfl (a6Q rfl B.range (a0A a0G (a0A (a0N (a0T (K:=K) rfl) rfl B.len (by decide +kernel) (a0A (pv 1) a0B)) a0B))) (λ _ _ _ _ _=>(a0H (i:=0) (show (["k", "places"]:List Str).Nodup by decide +kernel) rfl (Or.inl rfl))) (λ _ _ _ _ _=>a2N) (λ _ _ _ _ _=>(b2I a8S (a0U (a0I (K:=K) rfl) (pv 1) (a0Q a5T (pv 0) a0G) (λ _ _=>rfl)) (a0U (a0I (K:=K) rfl) (pv 1) (pv 0) (λ _ _=>rfl)) (a1J _)))) a0B))))),?_⟩
 refine ⟨_,rfl,a,rfl,⟨_,hS⟩,?_⟩
 refine a5W (λ x=>match x with | .int v=>some (.bl (decide (0 <= v/\v < n))) | _=>none) hS (by rw [List.length_map]; exact hz) (λ x H1 N hx sm hN=>?_) (λ H1 p H1' sm hp=>?_)
 ·obtain ⟨v,hv,rfl⟩:=List.mem_map.mp hx
  exact ⟨_,rfl,_,rfl,n,some v,rfl,hN H1 sm⟩
 have e1:(ns.map V.int).filterMap (λ x=>match x with | .int v=>some (V.bl (decide (0 <= v/\v < n))) | _=>none) = (ns.map λ v=>decide (0 <= v/\v < n)).map V.bl:=by
  rw [List.map_map]
  exact c5S λ v _=>rfl
 rw [e1] at hp
 refine ⟨p,_,_,rfl,SqL.of hp.here,Truths.bls _,_,rfl,?_⟩
 have s1:Same H H1':=sm.trans hp.same
 have e2:((ns.map λ v=>decide (0 <= v/\v < n)).all id) = ns.all λ v=>decide (0 <= v/\v < n):=by rw [List.all_map]; rfl
 rw [e2]
 cases c:ns.all λ v=>decide (0 <= v/\v < n) with
 | false =>
  refine iteT ?_
  have e:setF n ns = false:=by unfold setF; rw [c]; rfl
  rw [e] at q
  exact q _ s1
 | true =>
  refine iteF ?_
  have hl:((ns.map V.int).length:Int) = ns.length:=by rw [List.length_map]
  refine ⟨_,rfl,a,_,rfl,.inl (s1.seq hS),1,_,rfl,⟨by decide,by decide,by omega,by omega⟩,?_⟩
  have en:((((ns.map V.int).length:Nat):Int) - 1).toNat = ns.length - 1:=by rw [List.length_map]; omega
  rw [en]
  refine b2O (λ i=>some (.bl (decide (ns.getD i 0 < ns.getD (i + 1) 0)))) (by omega) (λ i H2 N hi sm2 hN=>?_) (λ H2 p2 H2' sm2 hp2=>?_)
  ·refine ⟨_,rfl,_,rfl,_,_,rfl,rfl,a,_,_,_,rfl,rfl,sm2.seq (s1.seq hS),a8Y (by omega) (by omega),_,rfl,_,rfl,a,_,_,_,rfl,rfl,sm2.seq (s1.seq hS),a8Y (by omega) (by omega),_,_,rfl,rfl,?_⟩
   have z1:(1 + (i:Int) - 1).toNat = i:=by omega
   have z2:(1 + (i:Int)).toNat = i + 1:=by omega
   rw [z1,z2]
   exact hN H2 sm2
  ·have e3:(List.range (ns.length - 1)).filterMap (λ i=>some (V.bl (decide (ns.getD i 0 < ns.getD (i + 1) 0)))) = ((List.range (ns.length - 1)).map λ i=>decide (ns.getD i 0 < ns.getD (i + 1) 0)).map V.bl:=by
    rw [List.map_map]
    exact a3M λ _ _=>rfl
   rw [e3] at hp2
   refine ⟨p2,_,_,rfl,SqL.of hp2.here,Truths.bls _,?_⟩
   have e:setF n ns = ((List.range (ns.length - 1)).map λ i=>decide (ns.getD i 0 < ns.getD (i + 1) 0)).all id:=by
    unfold setF b0N; rw [c,List.all_map]; rfl
   rw [e] at q
   exact q _ (s1.trans (sm2.trans hp2.same))
end
def a4J (xs ys:List Int):List Int:=xs.filter λ v=>!decide (v ∈ ys)
def a0X (xs ys:List Int):List Int:=xs.filter λ v=>decide (v ∈ ys)
def a1B (ts:List ζζ) (v:Int):List Int :=
 (ts.filterMap λ t=>if t.2 = v then some t.1 else none) ++ ts.filterMap λ t=>if t.1 = v then some t.2 else none
def c9Y (K:Φρ):Sp:=λ vs H Q _=>∃ (a b:Addr) (xs ys:List Int),vs = [.ref a,.ref b]/\SqL K H a (xs.map V.int)/\SqL K H b (ys.map V.int)/\xs.length <= 1000 /\
 ∀ H0 p H',Same H H0->New H0 p (.lst ((a4J xs ys).map V.int)) H'->Q (.ref p) H'
def c2Y (K:Φρ):Sp:=λ vs H Q _=>∃ (a b:Addr) (xs ys:List Int),vs = [.ref a,.ref b]/\SqL K H a (xs.map V.int)/\SqL K H b (ys.map V.int)/\xs.length <= 1000 /\
 ∀ H0 p H',Same H H0->New H0 p (.lst ((a0X xs ys).map V.int)) H'->Q (.ref p) H'
def c2Z (K:Φρ):Sp:=λ vs H Q _=>∃ (g:V) (n:Int) (ts:List ζζ) (v:Int),vs = [g,.int v]/\GraphV K H g n ts/\0 <= v/\v < n/\ts.length <= 400 /\
 ∀ H0 p H',Same H H0->New H0 p (.lst ((a1B ts v).map V.int)) H'->Q (.ref p) H'
theorem b4T (xs:List Int) (c:Int->Bool):(xs.map V.int).filterMap (λ x=>match x with | .int v=>if c v then some (.int v) else none | _=>none) = (xs.filter c).map V.int:=by
 induction xs with
 | nil=>rfl
 | cons x r ih =>
  rw [List.map_cons,List.filter_cons]
  cases e:c x with
  | true=>rw [List.filterMap_cons_some (by simp only [e]; rfl),ih]; simp
  | false=>rw [List.filterMap_cons_none (by simp only [e]; rfl),ih]; simp
theorem a9I {α β:Type} (f:α->Option β):∀ ts:List α,(List.range ts.length).filterMap (λ j=>(ts[j]?).bind f) = ts.filterMap f
 | []=>rfl
 | t :: r=>by
  rw [List.length_cons,List.range_succ_eq_map]
  have ih:=a9I f r
  have e2:(List.map Nat.succ (List.range r.length)).filterMap (λ j=>((t :: r)[j]?).bind f) = r.filterMap f:=by
   rw [List.filterMap_map,<- ih]
   rfl
  cases e:f t with
  | none=>rw [List.filterMap_cons_none (by simpa using e),List.filterMap_cons_none e,e2]
  | some b=>rw [List.filterMap_cons_some (b:=b) (by simpa using e),List.filterMap_cons_some e,e2]
theorem b9Q {α:Type} (f:α->Option Int) (g:α->Option V) (h:∀ a,g a = (f a).map V.int) (ts:List α):ts.filterMap g = (ts.filterMap f).map V.int:=by
 rw [List.map_filterMap]
 congr 1
 exact funext h
abbrev b4U:Stmt:=top 10
theorem b9R:FnScope ["one", "other"] ["one", "other"] (a0E b4U):=⟨rfl,rfl,rfl,by decide +kernel,rfl,by decide +kernel,by decide +kernel⟩
section
variable {P:Program} {w:World} {K:Φρ} {mg:Str->Option Value} {base:Heap}
abbrev DZ20 (K:PySem.W.Frag) (mg:Str->Option Value):=Dn K mg "less" b4U ["one", "other"]
set_option maxHeartbeats 4000000 in
theorem a5M (B:Bl mg) (dZ20:DZ20 K mg):FnOk P w K mg base CX0 1 dZ20.f dZ20.fd ["one", "other"] (c9Y K):=by
 refine dZ20.F.ok b9R (λ vs H Q E h=>?_) (λ cdv A outer s H vs Q E hr h=>?_)
 ·obtain ⟨a,b,xs,ys,rfl,_⟩:=h
  rfl
 obtain ⟨a,b,xs,ys,rfl,hA,hB,hz,q⟩:=h
 have hv:(A.deeper (PyProof.Rows.envOfC "less" (a0E b4U) s.heap.objs.size dZ20.f cdv)).units + 65 < cLine:=by have:=hr.un; omega
 refine ⟨_,(a0D (a0K (a3K ["v", "other"] [none,some 1]  (by kernel_rfl) rfl (a0P (K:=K) rfl (pv 0)) (λ _ _ _ _ _=>(a0H (i:=0) (show (["v", "other"]:List Str).Nodup by decide +kernel) rfl (Or.inl rfl))) (λ _ _ _ _ _=>(a2O (a0O (a5I (K:=K) rfl hv) (pv 0) (pv 1) (by with_unfolding_all rfl)))) (λ _ _ _ _ _=>(pv 0))))),?_⟩
 refine ⟨_,rfl,a,rfl,⟨_,hA⟩,?_⟩
 refine a5W (λ x=>match x with | .int v=>if !decide (v ∈ ys) then some (.int v) else none | _=>none) hA (by rw [List.length_map]; exact hz) (λ x H1 N hx sm hN=>?_) (λ H1 p H1' sm hp=>?_)
 ·obtain ⟨v,hv,rfl⟩:=List.mem_map.mp hx
  have hN':=hN H1 sm
  refine ⟨_,rfl,_,rfl,b0Q (sm.seq hB) ⟨_,rfl,?_⟩⟩
  dsimp only at hN'
  cases c:decide (v ∈ ys) with
  | true=>rw [c] at hN'; exact iteF hN'
  | false=>rw [c] at hN'; exact iteT ⟨_,rfl,hN'⟩
 ·rw [b4T] at hp
  exact q _ _ _ sm hp
end
abbrev a9J:Stmt:=top 8
theorem b9S:FnScope ["one", "other"] ["one", "other"] (a0E a9J):=⟨rfl,rfl,rfl,by decide +kernel,rfl,by decide +kernel,by decide +kernel⟩
section
variable {P:Program} {w:World} {K:Φρ} {mg:Str->Option Value} {base:Heap}
abbrev DZ6 (K:PySem.W.Frag) (mg:Str->Option Value):=Dn K mg "common" a9J ["one", "other"]
set_option maxHeartbeats 4000000 in
theorem a3R (B:Bl mg) (dZ6:DZ6 K mg):FnOk P w K mg base CX0 1 dZ6.f dZ6.fd ["one", "other"] (c2Y K):=by
 refine dZ6.F.ok b9S (λ vs H Q E h=>?_) (λ cdv A outer s H vs Q E hr h=>?_)
 ·obtain ⟨a,b,xs,ys,rfl,_⟩:=h
  rfl
 obtain ⟨a,b,xs,ys,rfl,hA,hB,hz,q⟩:=h
 have hv:(A.deeper (PyProof.Rows.envOfC "common" (a0E a9J) s.heap.objs.size dZ6.f cdv)).units + 65 < cLine:=by have:=hr.un; omega
 refine ⟨_,(a0D (a0K (a3K ["v", "other"] [none,some 1]  (by kernel_rfl) rfl (a0P (K:=K) rfl (pv 0)) (λ _ _ _ _ _=>(a0H (i:=0) (show (["v", "other"]:List Str).Nodup by decide +kernel) rfl (Or.inl rfl))) (λ _ _ _ _ _=>(a2O (a0O (a6U (K:=K) rfl hv) (pv 0) (pv 1) (by with_unfolding_all rfl)))) (λ _ _ _ _ _=>(pv 0))))),?_⟩
 refine ⟨_,rfl,a,rfl,⟨_,hA⟩,?_⟩
 refine a5W (λ x=>match x with | .int v=>if decide (v ∈ ys) then some (.int v) else none | _=>none) hA (by rw [List.length_map]; exact hz) (λ x H1 N hx sm hN=>?_) (λ H1 p H1' sm hp=>?_)
 ·obtain ⟨v,hv,rfl⟩:=List.mem_map.mp hx
  have hN':=hN H1 sm
  refine ⟨_,rfl,_,rfl,b0P (sm.seq hB) ⟨_,rfl,?_⟩⟩
  dsimp only at hN'
  cases c:decide (v ∈ ys) with
  | true=>rw [c] at hN'; exact iteT ⟨_,rfl,hN'⟩
  | false=>rw [c] at hN'; exact iteF hN'
 ·rw [b4T] at hp
  exact q _ _ _ sm hp
end
abbrev b9T:Stmt:=top 9
theorem c3A:FnScope ["one", "other"] ["one", "other"] (a0E b9T):=⟨rfl,rfl,rfl,by decide +kernel,rfl,by decide +kernel,by decide +kernel⟩
theorem b1J {p q:Int->Bool} (h:∀ v,0 <= v->v < 16->p v = q v):upF p = upF q:=by
 unfold upF
 refine List.filter_congr λ v hv=>?_
 obtain ⟨i,hi,rfl⟩:=List.mem_map.mp hv
 have:=List.mem_range.mp hi
 exact h _ (by omega) (by omega)
def a0J (xs ys:List Int):List Int:=upF λ v=>decide (v ∈ xs\/v ∈ ys)
def c7C (K:Φρ):Sp:=λ vs H Q _=>∃ (a b:Addr) (xs ys:List Int),vs = [.ref a,.ref b]/\SqL K H a (xs.map V.int)/\SqL K H b (ys.map V.int)/\a7O xs/\a7O ys /\
 ∀ H0 p H',Same H H0->New H0 p (.lst ((a0J xs ys).map V.int)) H'->Q (.ref p) H'
section
variable {P:Program} {w:World} {K:Φρ} {mg:Str->Option Value} {base:Heap}
abbrev DZ17 (K:PySem.W.Frag) (mg:Str->Option Value):=Dn K mg "joint" b9T ["one", "other"]
set_option maxHeartbeats 4000000 in
theorem a6L (B:Bl mg) (dZ17:DZ17 K mg):FnOk P w K mg base CX0 1 dZ17.f dZ17.fd ["one", "other"] (c7C K):=by
 refine dZ17.F.ok c3A (λ vs H Q E h=>?_) (λ cdv A outer s H vs Q E hr h=>?_)
 ·obtain ⟨a,b,xs,ys,rfl,_⟩:=h
  rfl
 obtain ⟨a,b,xs,ys,rfl,hA,hB,sA,sB,q⟩:=h
 refine ⟨_,(a0D (a0K (a0N (b1E (w:=w) rfl rfl) rfl B.sorted (by decide +kernel) (a0A (a0Q (c9O (w:=w) rfl) (a2C (b1D (K:=K) (w:=w) rfl rfl rfl) rfl B.set (by decide +kernel) (a0A (pv 0) a0B)) (a2C (b1D (K:=K) (w:=w) rfl rfl rfl) rfl B.set (by decide +kernel) (a0A (pv 1) a0B))) a0B)))),?_⟩
 refine ⟨_,rfl,a,xs,rfl,hA,sA,λ p1 L1 H1 n1 m1=>?_⟩
 refine ⟨_,rfl,b,ys,rfl,n1.same.seq hB,sB,λ p2 L2 H2 n2 m2=>?_⟩
 refine ⟨p1,p2,L1,L2,rfl,rfl,n2.ne n1.here,n2.same _ _ n1.here,n2.here,λ p3 L H3 n3 m3=>?_⟩
 refine ⟨p3,false,L,rfl,n3.here,λ p4 H4 n4=>?_⟩
 have e:(upF λ v=>decide (v.toNat ∈ L)) = a0J xs ys:=b1J λ v h0 h1=>by
  have ev:((v.toNat:Nat):Int) = v:=by omega
  rw [decide_eq_decide,m3 v.toNat,m1 v.toNat,m2 v.toNat,ev]
 rw [e] at n4
 exact q H3 p4 H4 (n1.same.trans (n2.same.trans n3.same)) n4
end
abbrev b4V:Stmt:=top 12
theorem sc_around:FnScope ["graph", "v", "lesser", "greater"] ["graph", "v"] (a0E b4V):=⟨rfl,rfl,rfl,by decide +kernel,rfl,by decide +kernel,by decide +kernel⟩
section
variable {P:Program} {w:World} {K:Φρ} {mg:Str->Option Value} {base:Heap}
abbrev DZ5 (K:PySem.W.Frag) (mg:Str->Option Value):=Dn K mg "around" b4V ["graph", "v"]
set_option maxHeartbeats 4000000 in
theorem a4W (B:Bl mg) (dZ16:DZ16 K mg) (dZ12:DZ12 K mg) (dZ5:DZ5 K mg):FnOk P w K mg base CX0 3 dZ5.f dZ5.fd ["graph", "v"] (c2Z K):=by
 have gZ12:FnOk P w K mg base CX0 2 _ _ _ _:=a7D B dZ16 dZ12
 refine dZ5.F.ok sc_around (λ vs H Q E h=>?_) (λ cdv A outer s H vs Q E hr h=>?_)
 ·obtain ⟨g,n,ts,v,rfl,_⟩:=h
  rfl
 obtain ⟨g,n,ts,v,rfl,hG,v0,v1,hz,q⟩:=h
 obtain ⟨pg,ta,rfl,hP,hT⟩:=hG
 obtain ⟨ys,hy,hq,hzt⟩:=id hT
 have hlt:ys.length = ts.length:=Paired.length hq
 refine ⟨_,(a0C (a2Y (a7W (a0W (K:=K) rfl (a0F gZ12 hr rfl dZ12.m dZ12.F.kp dZ12.b .nil a0M (a0A (a0U (a1P (K:=K) rfl) (pv 0) a0G (λ _ _=>rfl)) (a0A (pv 1) a0B))) (λ _=>rfl)))
   (a0D b3Q)
   a1O)
   (a0C (a3E (i:=2) ["a", "b", "v"] [none,none,some 1] sc_around.nd rfl rfl (by kernel_rfl) rfl (a0P (K:=K) rfl (a0U (a1P (K:=K) rfl) (pv 0) a0G (λ _ _=>rfl))) (λ _ _ _ _ _=>(a2W (K:=K) (n:=2) rfl rfl (a0Y (a0H (i:=0) (show (["a", "b", "v"]:List Str).Nodup by decide +kernel) rfl (Or.inl rfl)) (a0Y (a0H (i:=1) (show (["a", "b", "v"]:List Str).Nodup by decide +kernel) rfl (Or.inl rfl)) a2V)))) (λ _ _ _ _ _=>(a2O (a0O a9Z (pv 1) (pv 2) (a1J _)))) (λ _ _ _ _ _=>(pv 0)) (by rfl))
   (a0C (a3E (i:=3) ["a", "b", "v"] [none,none,some 1] sc_around.nd rfl rfl (by kernel_rfl) rfl (a0P (K:=K) rfl (a0U (a1P (K:=K) rfl) (pv 0) a0G (λ _ _=>rfl))) (λ _ _ _ _ _=>(a2W (K:=K) (n:=2) rfl rfl (a0Y (a0H (i:=0) (show (["a", "b", "v"]:List Str).Nodup by decide +kernel) rfl (Or.inl rfl)) (a0Y (a0H (i:=1) (show (["a", "b", "v"]:List Str).Nodup by decide +kernel) rfl (Or.inl rfl)) a2V)))) (λ _ _ _ _ _=>(a2O (a0O a9Z (pv 0) (pv 2) (a1J _)))) (λ _ _ _ _ _=>(pv 1)) (by rfl))
   (a0D (a0K (a0Q a8X (pv 2) (pv 3))))))),?_⟩
 have hb:a4P n (some v) = true:=by unfold a4P; simp [v0,v1]
 refine ⟨_,rfl,pg,_,_,_,rfl,rfl,hP,rfl,_,rfl,n,some v,rfl,_,rfl,?_⟩
 rw [hb]
 refine iteF ?_
 refine ⟨_,rfl,pg,_,_,_,rfl,rfl,hP,rfl,ta,rfl,⟨_,hy⟩,?_⟩
 refine b3W (λ j=>(ts[j]?).bind λ t=>if t.2 = v then some (V.int t.1) else none) hy (by omega) (λ j x H3 N hj s3 hN=>?_) (λ H3 p1 H4 s3 nw=>?_)
 ·obtain ⟨t,ht,⟨pt,rfl,hTt⟩⟩:=paired_get hq hj
  have hN':=hN H3 s3
  rw [ht] at hN'
  refine ⟨pt,_,rfl,s3.tupq hTt,rfl,_,_,rfl,_,_,rfl,rfl,_,rfl,_,rfl,rfl,_,rfl,?_⟩
  refine ite2 (λ c=>?_) (λ c=>?_)
  ·have c':V.int t.2 = V.int v:=of_decide_eq_true c
   have c2:t.2 = v:=by injection c'
   dsimp only [Option.bind] at hN'
   rw [if_pos c2] at hN'
   exact ⟨_,rfl,hN'⟩
  ·have c':¬ V.int t.2 = V.int v:=of_decide_eq_false (Bool.eq_false_iff.mpr c)
   have c2:¬ t.2 = v:=λ z=>c' (by rw [z])
   dsimp only [Option.bind] at hN'
   rw [if_neg c2] at hN'
   exact hN'
 rw [hlt,a9I,b9Q (λ t=>if t.2 = v then some t.1 else none) _ (λ t=>by split <;> rfl)] at nw
 have s4:=s3.trans nw.same
 refine ⟨_,rfl,pg,_,_,_,rfl,rfl,s4.tupq hP,rfl,ta,rfl,⟨_,s4.seq hy⟩,?_⟩
 refine b3W (λ j=>(ts[j]?).bind λ t=>if t.1 = v then some (V.int t.2) else none) (s4.seq hy) (by omega) (λ j x H5 N hj s5 hN=>?_) (λ H5 p2 H6 s5 nw2=>?_)
 ·obtain ⟨t,ht,⟨pt,rfl,hTt⟩⟩:=paired_get hq hj
  have hN':=hN H5 s5
  rw [ht] at hN'
  refine ⟨pt,_,rfl,(s4.trans s5).tupq hTt,rfl,_,_,rfl,_,_,rfl,rfl,_,rfl,_,rfl,rfl,_,rfl,?_⟩
  refine ite2 (λ c=>?_) (λ c=>?_)
  ·have c':V.int t.1 = V.int v:=of_decide_eq_true c
   have c2:t.1 = v:=by injection c'
   dsimp only [Option.bind] at hN'
   rw [if_pos c2] at hN'
   exact ⟨_,rfl,hN'⟩
  ·have c':¬ V.int t.1 = V.int v:=of_decide_eq_false (Bool.eq_false_iff.mpr c)
   have c2:¬ t.1 = v:=λ z=>c' (by rw [z])
   dsimp only [Option.bind] at hN'
   rw [if_neg c2] at hN'
   exact hN'
 rw [hlt,a9I,b9Q (λ t=>if t.1 = v then some t.2 else none) _ (λ t=>by split <;> rfl)] at nw2
 refine ⟨_,rfl,_,rfl,p1,p2,_,_,rfl,rfl,(s5.trans nw2.same) _ _ nw.here,nw2.here,?_,λ p3 H7 nw3=>?_⟩
 ·rw [List.length_map,List.length_map]
  have h1:=List.length_filterMap_le (λ t:Int × Int=>if t.2 = v then some t.1 else none) ts
  have h2:=List.length_filterMap_le (λ t:Int × Int=>if t.1 = v then some t.2 else none) ts
  omega
 ·rw [<- List.map_append] at nw3
  exact q _ _ _ (s4.trans (s5.trans nw2.same)) nw3
end
abbrev c9Z:Stmt:=top 16
theorem sc_rim:FnScope ["graph", "places", "tied", "v"] ["graph", "places"] (a0E c9Z):=⟨rfl,rfl,rfl,by decide +kernel,rfl,by decide +kernel,by decide +kernel⟩
abbrev b9U:Stmt:=top 17
theorem c3B:FnScope ["graph", "one", "other"] ["graph", "one", "other"] (a0E b9U):=⟨rfl,rfl,rfl,by decide +kernel,rfl,by decide +kernel,by decide +kernel⟩
theorem tied_mem {ts:List ζζ} {u v:Int}:u ∈ a1B ts v ↔ (u,v) ∈ ts\/(v,u) ∈ ts:=by
 unfold a1B
 rw [List.mem_append,List.mem_filterMap,List.mem_filterMap]
 constructor
 ·rintro (⟨t,ht,e⟩ | ⟨t,ht,e⟩)
  ·split at e
   ·rename_i c
    injection e with e
    subst e; subst c
    exact .inl ht
   ·cases e
  ·split at e
   ·rename_i c
    injection e with e
    subst e; subst c
    exact .inr ht
   ·cases e
 ·rintro (h | h)
  ·exact .inl ⟨_,h,by simp⟩
  ·exact .inr ⟨_,h,by simp⟩
def a9K (ts:List ζζ) (ps:List Int) (u:Int):Bool:=ps.any λ v=>decide (u ∈ a1B ts v)
def rimF (ts:List ζζ) (ps:List Int):List Int:=a4J (upF (a9K ts ps)) ps
def a2R (ts:List ζζ) (xs ys:List Int):Bool:=!(a0X xs ys).isEmpty || !(a0X (rimF ts xs) ys).isEmpty
theorem b9V (p:Int->Bool):a7O (upF p):=λ n hn=>by
 obtain ⟨a,b,_⟩:=mem_upF.mp hn
 exact ⟨a,b⟩
theorem b3I (p:Int->Bool):(upF p).length <= 16:=by
 unfold upF
 refine Nat.le_trans (List.length_filter_le _ _) ?_
 simp
theorem b1K {ts:List ζζ} {v:Int} (h:∀ t ∈ ts,0 <= t.1/\t.1 < 16/\0 <= t.2/\t.2 < 16):a7O (a1B ts v):=λ u hu=>by
 rcases tied_mem.mp hu with c | c
 ·have:=h _ c; exact ⟨this.1,this.2.1⟩
 ·have:=h _ c; exact this.2.2
def d2B (K:Φρ):Sp:=λ vs H Q _=>∃ (g:V) (n:Int) (ts:List ζζ) (b:Addr) (ps:List Int),vs = [g,.ref b]/\GraphV K H g n ts/\n <= 16/\ts.length <= 400/\(∀ t ∈ ts,0 <= t.1/\t.1 < 16/\0 <= t.2/\t.2 < 16)/\SqL K H b (ps.map V.int)/\(∀ v ∈ ps,0 <= v/\v < n) /\
 ∀ H0 p H',Same H H0->New H0 p (.lst ((rimF ts ps).map V.int)) H'->Q (.ref p) H'
def c7D (K:Φρ):Sp:=λ vs H Q _=>∃ (g:V) (n:Int) (ts:List ζζ) (a b:Addr) (xs ys:List Int),vs = [g,.ref a,.ref b]/\GraphV K H g n ts/\n <= 16/\ts.length <= 400/\(∀ t ∈ ts,0 <= t.1/\t.1 < 16/\0 <= t.2/\t.2 < 16)/\SqL K H a (xs.map V.int)/\(∀ v ∈ xs,0 <= v/\v < n)/\xs.length <= 1000/\SqL K H b (ys.map V.int) /\
 ∀ H',Same H H'->Q (.bl (a2R ts xs ys)) H'
section
variable {P:Program} {w:World} {K:Φρ} {mg:Str->Option Value} {base:Heap}
abbrev DZ30 (K:PySem.W.Frag) (mg:Str->Option Value):=Dn K mg "rim" c9Z ["graph", "places"]
set_option maxHeartbeats 4000000 in
theorem c4T (B:Bl mg) (dZ16:DZ16 K mg) (dZ12:DZ12 K mg) (dZ20:DZ20 K mg) (dZ17:DZ17 K mg) (dZ5:DZ5 K mg) (dZ30:DZ30 K mg):FnOk P w K mg base CX0 4 dZ30.f dZ30.fd ["graph", "places"] (d2B K):=by
 have gZ17:FnOk P w K mg base CX0 3 _ _ _ _:=(a6L B dZ17).mono (by decide)
 have gZ20:FnOk P w K mg base CX0 3 _ _ _ _:=(a5M B dZ20).mono (by decide)
 have gZ5:FnOk P w K mg base CX0 3 _ _ _ _:=a4W B dZ16 dZ12 dZ5
 refine dZ30.F.ok sc_rim (λ vs H Q E h=>?_) (λ cdv A outer s H vs Q E hr h=>?_)
 ·obtain ⟨g,n,ts,b,ps,rfl,_⟩:=h
  rfl
 obtain ⟨g,n,ts,b,ps,rfl,hG,hn,hz,ht,hB,hin,q⟩:=h
 refine ⟨_,(a0C (a0L (i:=2) sc_rim.nd rfl (Or.inl rfl) (a1G a0B))
   (a0C (a1U PassesOwn.never rfl (a0P (K:=K) rfl (pv 1)) (a0H (i:=3) sc_rim.nd rfl (Or.inl rfl))
   (a0D (a0L (i:=2) sc_rim.nd rfl (Or.inl rfl) (a0F gZ17 hr rfl dZ17.m dZ17.F.kp dZ17.b .nil a0M (a0A (pv 2) (a0A (a0F gZ5 hr rfl dZ5.m dZ5.F.kp dZ5.b .nil a0M (a0A (pv 0) (a0A (pv 3) a0B))) a0B))))))
   (a0D (a0K (a0F gZ20 hr rfl dZ20.m dZ20.F.kp dZ20.b .nil a0M (a0A (pv 2) (a0A (pv 1) a0B))))))),?_⟩
 refine ⟨(by show 0 <= 1000; decide),λ p0 H0 n0=>?_⟩
 refine ⟨_,rfl,b,rfl,⟨_,n0.same.seq hB⟩,?_⟩
 refine a3W (xs:=ps.map V.int) (λ i σ H'=>∃ (p:Addr) (pl:Option V),σ = [some g,some (.ref b),some (.ref p),pl]/\Same H H'/\H' p = some (.lst ((upF (a9K ts (ps.take i))).map V.int))) ⟨p0,none,rfl,n0.same,?_⟩ (λ i σ H' _ ⟨p,pl,_,s,_⟩=>s.seq hB) ?_ ?_
 ·rw [n0.here,List.take_zero]
  have e:upF (a9K ts []) = []:=by
   unfold upF a9K
   simp
  rw [e]
  rfl
 ·rintro i x σ H' hx ⟨p,pl,rfl,s,hp⟩
  rw [List.getElem?_map] at hx
  obtain ⟨v,hv,rfl⟩:=Option.map_eq_some_iff.mp hx
  have vm:v ∈ ps:=List.mem_of_getElem? hv
  have vi:=hin v vm
  have et:ps.take (i + 1) = ps.take i ++ [v]:=by rw [List.take_succ,hv]; rfl
  refine ⟨_,rfl,_,rfl,_,rfl,g,n,ts,v,rfl,hG.same s,vi.1,vi.2,hz,λ H1 p1 H2 s1 n1=>?_⟩
  have s2:Same H' H2:=s1.trans n1.same
  refine ⟨p,p1,_,_,rfl,SqL.of (s2 _ _ hp),SqL.of n1.here,b9V _,b1K ht,λ H3 p2 H4 s3 n3=>?_⟩
  refine ⟨p2,_,rfl,s.trans (s2.trans (s3.trans n3.same)),?_⟩
  rw [n3.here,et]
  have e:a0J (upF (a9K ts (ps.take i))) (a1B ts v) = upF (a9K ts (ps.take i ++ [v])):=b1J λ u h0 h1=>by
   unfold a9K
   rw [List.any_append,Bool.eq_iff_iff,decide_eq_true_iff,Bool.or_eq_true,mem_upF]
   simp [h0,h1]
  rw [e]
 ·rintro σ H' ⟨p,pl,rfl,s,hp⟩
  rw [List.length_map,List.take_length] at hp
  refine ⟨_,rfl,_,rfl,p,b,_,ps,rfl,SqL.of hp,s.seq hB,Nat.le_trans (b3I _) (by decide),λ H1 p1 H2 s1 n1=>?_⟩
  exact q H1 p1 H2 (s.trans s1) n1
abbrev DZ34 (K:PySem.W.Frag) (mg:Str->Option Value):=Dn K mg "touch" b9U ["graph", "one", "other"]
set_option maxHeartbeats 4000000 in
theorem b4W (B:Bl mg) (dZ16:DZ16 K mg) (dZ12:DZ12 K mg) (dZ6:DZ6 K mg) (dZ20:DZ20 K mg) (dZ17:DZ17 K mg) (dZ5:DZ5 K mg) (dZ30:DZ30 K mg) (dZ34:DZ34 K mg):FnOk P w K mg base CX0 5 dZ34.f dZ34.fd ["graph", "one", "other"] (c7D K):=by
 have gZ6:FnOk P w K mg base CX0 4 _ _ _ _:=(a3R B dZ6).mono (by decide)
 have gZ30:FnOk P w K mg base CX0 4 _ _ _ _:=c4T B dZ16 dZ12 dZ20 dZ17 dZ5 dZ30
 refine dZ34.F.ok c3B (λ vs H Q E h=>?_) (λ cdv A outer s H vs Q E hr h=>?_)
 ·obtain ⟨g,n,ts,a,b,xs,ys,rfl,_⟩:=h
  rfl
 obtain ⟨g,n,ts,a,b,xs,ys,rfl,hG,hn,hz,ht,hA,hin,hl,hB,q⟩:=h
 refine ⟨_,(a0D (a0K (a2C (a8B (K:=K) rfl) rfl B.bool (by decide +kernel) (a0A (c9D (K:=K) rfl (a0F gZ6 hr rfl dZ6.m dZ6.F.kp dZ6.b .nil a0M (a0A (pv 1) (a0A (pv 2) a0B))) (b6T (a0F gZ6 hr rfl dZ6.m dZ6.F.kp dZ6.b .nil a0M (a0A (a0F gZ30 hr rfl dZ30.m dZ30.F.kp dZ30.b .nil a0M (a0A (pv 0) (a0A (pv 1) a0B))) (a0A (pv 2) a0B))))) a0B)))),?_⟩
 refine ⟨_,rfl,_,rfl,a,b,xs,ys,rfl,hA,hB,hl,λ H1 p1 H2 s1 n1=>?_⟩
 have s2:Same H H2:=s1.trans n1.same
 refine ⟨!((a0X xs ys).map V.int).isEmpty,.inl ⟨_,SqL.of n1.here,rfl⟩,?_⟩
 have e1:((a0X xs ys).map V.int).isEmpty = (a0X xs ys).isEmpty:=List.isEmpty_map
 refine ite2 (λ c=>?_) (λ c=>?_)
 ·refine ⟨p1,_,rfl,SqL.of n1.here,?_⟩
  rw [c]
  have e:a2R ts xs ys = true:=by unfold a2R; rw [<- e1,c]; rfl
  have:=q H2 s2
  rw [e] at this
  exact this
 ·refine ⟨_,rfl,_,rfl,g,n,ts,a,xs,rfl,hG.same s2,hn,hz,ht,s2.seq hA,hin,λ H3 p3 H4 s3 n3=>?_⟩
  have s4:Same H H4:=s2.trans (s3.trans n3.same)
  refine ⟨_,rfl,p3,b,_,ys,rfl,SqL.of n3.here,s4.seq hB,?_,λ H5 p5 H6 s5 n5=>?_⟩
  ·unfold rimF a4J
   exact Nat.le_trans (List.length_filter_le _ _) (Nat.le_trans (b3I _) (by decide))
  ·refine ⟨p5,_,rfl,SqL.of n5.here,?_⟩
   have e:a2R ts xs ys = !((a0X (rimF ts xs) ys).map V.int).isEmpty:=by unfold a2R; rw [<- e1,Bool.eq_false_iff.mpr c,List.isEmpty_map]; rfl
   have:=q H6 (s4.trans (s5.trans n5.same))
   rw [e] at this
   exact this
end
abbrev natV (l:List Nat):List V:=l.map λ (x:Nat)=>V.int (x:Int)
theorem a4X:∀ {m:Nat} {l:List Nat},l.Nodup->(∀ x ∈ l,x < m)->l.length <= m
 | 0,l,_,lt=>by
  cases l with
  | nil=>exact Nat.le_refl _
  | cons x r=>exact absurd (lt x List.mem_cons_self) (Nat.not_lt_zero _)
 | m + 1,l,nd,lt=>by
  have ih:=a4X (m:=m) (nd.erase m) λ x hx=>by
   obtain ⟨h1,h2⟩:=nd.mem_erase_iff.mp hx
   have:=lt x h2
   omega
  rw [List.length_erase] at ih
  split at ih <;> omega
theorem a0S (l:List Nat):natV l = (l.map λ (x:Nat)=>(x:Int)).map V.int:=by
 unfold natV
 rw [List.map_map]
 rfl
theorem b9W {f:V->Option V} {p:Nat->Bool}:∀ {l:List Nat},(∀ x ∈ l,f (.int (x:Int)) = if p x = true then some (.int (x:Int)) else none)->(natV l).filterMap f = natV (l.filter p)
 | [],_=>rfl
 | x :: r,h=>by
  have ih:=b9W (f:=f) (p:=p) (l:=r) λ y hy=>h y (List.mem_cons_of_mem _ hy)
  have hx:=h x List.mem_cons_self
  show (V.int (x:Int) :: natV r).filterMap f = _
  rw [List.filter_cons]
  by_cases c:p x = true
  ·rw [if_pos c] at hx ⊢
   rw [List.filterMap_cons_some hx,ih]; rfl
  ·rw [if_neg c] at hx ⊢
   rw [List.filterMap_cons_none hx,ih]
theorem a4K {l:List Nat} {j:Nat} (h:j < l.length):atI (natV l) (j:Int) = some (.int ((l.getD j 0:Nat):Int)):=a2M (by
 unfold natV
 rw [List.getElem?_map,List.getElem?_eq_getElem h,τα,List.getElem?_eq_getElem h]; rfl)
end K
namespace K
open PySem L2 Lw Bg
abbrev a7E:Stmt:=top 19
theorem b1L:FnScope ["mask"] ["mask"] (a0E a7E):=⟨rfl,rfl,rfl,by decide +kernel,rfl,by decide +kernel,by decide +kernel⟩
abbrev a6A:Stmt:=top 21
theorem sc_first_bags:FnScope ["graph", "bags", "a", "b"] ["graph"] (a0E a6A):=⟨rfl,rfl,rfl,by decide +kernel,rfl,by decide +kernel,by decide +kernel⟩
abbrev a7F:Stmt:=top 22
theorem sc_taken_out:FnScope ["bags", "v", "bit", "left"] ["bags", "v"] (a0E a7F):=⟨rfl,rfl,rfl,by decide +kernel,rfl,by decide +kernel,by decide +kernel⟩
theorem a9L (l:List Nat):(natV l).length = l.length:=List.length_map _
def b6F:Sp:=λ vs H Q _=>∃ (m:Nat),vs = [.int (m:Int)]/\m < 2 ^ 10/\∀ H0 p H',Same H H0->New H0 p (.lst (natV (a2D m))) H'->Q (.ref p) H'
def c7E (K:Φρ):Sp:=λ vs H Q _=>∃ (g:V) (n:Nat) (ts:List ζζ),vs = [g]/\GraphV K H g n ts/\(∀ t ∈ ts,0 <= t.1/\t.1 < t.2/\t.2 < (n:Int))/\n <= 10 /\
 ∀ p ms H',Same H H'->H p = none->H' p = some (.lst (natV ms))->BagsM n ms (a2X n ts)->Q (.ref p) H'
def c3C (K:Φρ):Sp:=λ vs H Q _=>∃ (a:Addr) (n:Nat) (ms:List Nat) (R:Nat->Nat->Bool) (v:Nat),vs = [.ref a,.int (v:Int)]/\SqL K H a (natV ms)/\BagsM n ms R/\v < n /\
 ∀ p H',Same H H'->H p = none->H' p = some (.lst (natV (a6Y v ms)))->Q (.ref p) H'
theorem shl1 (v:Nat):((1:Int) * 2 ^ ((v:Nat):Int).toNat) = ((2 ^ v:Nat):Int):=by
 rw [Int.toNat_natCast,Int.one_mul]
 exact (Int.natCast_pow 2 v).symm
theorem b9X (n:Nat) (hn:n <= 10):BagsM n ((List.range n).map λ v=>2 ^ v) (a2X n []):=by
 refine ⟨by simp,hn,λ m hm=>?_,λ v hv u=>?_,λ v u h=>?_⟩
 ·obtain ⟨v,hv,rfl⟩:=List.mem_map.mp hm
  have:=List.mem_range.mp hv
  exact Nat.pow_lt_pow_right (by decide) (by omega)
 ·rw [τα,List.getElem?_map,List.getElem?_range hv]
  simp only [Option.map_some,Option.getD_some]
  rw [Nat.testBit_two_pow]
  unfold a2X
  by_cases c:v = u
  ·subst c; simp [hv]
  ·rw [decide_eq_false c]
   have:¬ u = v:=λ z=>c z.symm
   simp [this]
 ·unfold a2X at h
  rw [Bool.and_eq_true] at h
  exact of_decide_eq_true h.1
theorem b9Y {n:Nat} {ms:List Nat} {ts:List ζζ} {a b:Nat} (B:BagsM n ms (a2X n ts)) (ha:a < n) (hb:b < n) (ab:a ≠ b) :
  BagsM n ((ms.set a (ms.getD a 0 ||| 2 ^ b)).set b ((ms.set a (ms.getD a 0 ||| 2 ^ b)).getD b 0 ||| 2 ^ a)) (a2X n (ts ++ [((a:Int),(b:Int))])):=by
 have la:a < ms.length:=by rw [B.len]; exact ha
 have lb:b < ms.length:=by rw [B.len]; exact hb
 have gb:(ms.set a (ms.getD a 0 ||| 2 ^ b)).getD b 0 = ms.getD b 0:=by
  rw [τα,List.getElem?_set_ne ab,<- τα]
 rw [gb]
 have far:∀ v u,a2X n (ts ++ [((a:Int),(b:Int))]) v u = true->v < n/\u < n:=λ v u h=>by
  unfold a2X at h
  rw [Bool.and_eq_true] at h
  exact of_decide_eq_true h.1
 have bit:∀ v < n,∀ u,(((ms.set a (ms.getD a 0 ||| 2 ^ b)).set b (ms.getD b 0 ||| 2 ^ a)).getD v 0).testBit u = a2X n (ts ++ [((a:Int),(b:Int))]) v u:=λ v hv u=>by
  have old:=B.bit v hv u
  unfold a2X at old ⊢
  by_cases cb:v = b
  ·subst cb
   rw [τα,List.getElem?_set_self (by rw [List.length_set]; exact lb)]
   simp only [Option.getD_some]
   rw [Nat.testBit_or,old,Nat.testBit_two_pow]
   by_cases cu:u < n
   ·by_cases c:a = u
    ·subst c; simp [hv,cu]
    ·have c1:¬ u = a:=λ z=>c z.symm
     have c2:¬ ((u:Int) = (a:Int)):=by omega
     have c3:¬ ((v:Int) = (a:Int)/\(u:Int) = (v:Int)):=by omega
     have c4:¬ ((v:Int) = (a:Int)):=by omega
     simp [hv,cu,c,c2,c4]
   ·have:¬ a = u:=by omega
    simp [cu,this]
  ·rw [τα,List.getElem?_set_ne (Ne.symm cb)]
   by_cases ca:v = a
   ·subst ca
    rw [List.getElem?_set_self la]
    simp only [Option.getD_some]
    rw [Nat.testBit_or,old,Nat.testBit_two_pow]
    by_cases cu:u < n
    ·by_cases c:b = u
     ·subst c; simp [hv,cu]
     ·have c2:¬ ((u:Int) = (b:Int)):=by omega
      have c4:¬ ((v:Int) = (b:Int)):=by omega
      simp [hv,cu,c,c2,c4]
    ·have:¬ b = u:=by omega
     simp [cu,this]
   ·rw [List.getElem?_set_ne (Ne.symm ca),<- τα,old]
    have c1:¬ ((v:Int) = (a:Int)):=by omega
    have c2:¬ ((v:Int) = (b:Int)):=by omega
    simp [c1,c2]
 refine ⟨by rw [List.length_set,List.length_set]; exact B.len,B.n10,λ m hm=>?_,bit,far⟩
 obtain ⟨j,hj,ej⟩:=List.getElem_of_mem hm
 have jn:j < n:=by
  rw [List.length_set,List.length_set,B.len] at hj
  exact hj
 have e:((ms.set a (ms.getD a 0 ||| 2 ^ b)).set b (ms.getD b 0 ||| 2 ^ a)).getD j 0 = m:=by rw [τα,List.getElem?_eq_getElem hj,ej]; rfl
 refine a5K λ u hu=>?_
 rw [<- e,bit j jn] at hu
 have:=far j u hu
 have:=B.n10
 omega
theorem a9M (l:List Nat) (i x:Nat):(natV l).set i (.int (x:Int)) = natV (l.set i x):=by
 unfold natV
 rw [List.map_set]
section
variable {P:Program} {w:World} {K:Φρ} {mg:Str->Option Value} {base:Heap}
abbrev DZ28 (K:PySem.W.Frag) (mg:Str->Option Value):=Dn K mg "places_of" a7E ["mask"]
set_option maxHeartbeats 4000000 in
theorem a6B (B:Bl mg) (dZ28:DZ28 K mg):FnOk P w K mg base CX0 1 dZ28.f dZ28.fd ["mask"] b6F:=by
 refine dZ28.F.ok b1L (λ vs H Q E h=>?_) (λ cdv A outer s H vs Q E hr h=>?_)
 ·obtain ⟨m,rfl,_⟩:=h
  rfl
 obtain ⟨m,rfl,hm,q⟩:=h
 refine ⟨_,(a0D (a0K (a3K ["v", "mask"] [none,some 0]  (by kernel_rfl) rfl (a1E rfl B.range (a0A (c5Q (K:=K) rfl PySem.F.plainAttrs_int PySem.F.slot_int_bit_length PySem.F.type_int_bit_length c6A (pv 0)) a0B)) (λ _ _ _ _ _=>(a0H (i:=0) (show (["v", "mask"]:List Str).Nodup by decide +kernel) rfl (Or.inl rfl))) (λ _ _ _ _ _=>(a2O (a0W (K:=K) rfl (a0Q c4D (pv 1) (a0Q a7Y a0G (pv 0))) (λ _=>rfl)))) (λ _ _ _ _ _=>(pv 0))))),?_⟩
 have hb:=b8K hm
 refine ⟨_,rfl,rfl,m,rfl,rfl,_,rfl,by omega,by omega,?_⟩
 rw [Int.toNat_natCast]
 refine b2O (lo:=0) (n:=Builtin.Int.intBits (m:Int)) (λ j=>if m.testBit j = true then some (.int ((j:Nat):Int)) else none) (by omega) (λ j H7 N hj s7 hN=>?_) (λ H7 pd H8 s7 n8=>?_)
 ·have hN':=hN H7 s7
  have ej:(0 + (j:Int)) = ((j:Nat):Int):=by omega
  rw [ej]
  refine ⟨_,rfl,_,rfl,_,_,rfl,rfl,⟨by omega,by omega,by decide⟩,_,_,rfl,rfl,_,rfl,?_⟩
  dsimp only
  rw [shl1,b8I]
  cases c:m.testBit j with
  | true =>
   rw [if_pos c] at hN'
   have:m &&& 2 ^ j ≠ 0:=λ z=>by rw [(a9B m j).mp z] at c; cases c
   rw [show (((m &&& 2 ^ j:Nat):Int) != 0) = true by simpa using this]
   exact iteT ⟨_,rfl,hN'⟩
  | false =>
   rw [if_neg (by rw [c]; decide)] at hN'
   rw [(a9B m j).mpr c]
   exact iteF hN'
 ·have e:(List.range (Builtin.Int.intBits (m:Int))).filterMap (λ j=>if m.testBit j = true then some (V.int ((j:Nat):Int)) else none) = natV (a2D m):=by
   rw [<- b2U hm]
   unfold natV
   rw [<- List.filterMap_eq_filter,List.map_filterMap]
   congr 1
   funext j
   by_cases c:m.testBit j = true
   ·rw [if_pos c]; simp [Option.guard,c]
   ·rw [if_neg c]; simp [Option.guard,c]
  rw [e] at n8
  exact q _ _ _ s7 n8
abbrev DZ8 (K:PySem.W.Frag) (mg:Str->Option Value):=Dn K mg "first_bags" a6A ["graph"]
set_option maxHeartbeats 4000000 in
theorem a4Y (B:Bl mg) (dZ8:DZ8 K mg):FnOk P w K mg base CX0 1 dZ8.f dZ8.fd ["graph"] (c7E K):=by
 refine dZ8.F.ok sc_first_bags (λ vs H Q E h=>?_) (λ cdv A outer s H vs Q E hr h=>?_)
 ·obtain ⟨g,n,ts,rfl,_⟩:=h
  rfl
 obtain ⟨g,n,ts,rfl,hG,okt,n10,q⟩:=h
 obtain ⟨pg,ta,rfl,hP,hT⟩:=hG
 obtain ⟨ys,hy,hq,hzt⟩:=id hT
 have hlt:ys.length = ts.length:=Paired.length hq
 refine ⟨_,(a0C (a3E (i:=1) ["v"] [none] sc_first_bags.nd rfl rfl (by kernel_rfl) rfl (a1E rfl B.range (a0A (a0U (a1P (K:=K) rfl) (pv 0) a0G (λ _ _=>rfl)) a0B)) (λ _ _ _ _ _=>(a0H (i:=0) (show (["v"]:List Str).Nodup by decide +kernel) rfl (Or.inl rfl))) (λ _ _ _ _ _=>a2N) (λ _ _ _ _ _=>(a0Q a7Y a0G (pv 0))) (by rfl))
   (a0C (a1U PassesOwn.never rfl (a0P (K:=K) rfl (a0U (a1P (K:=K) rfl) (pv 0) a0G (λ _ _=>rfl))) (a2W (K:=K) (n:=2) rfl rfl (a0Y (a0H (i:=2) sc_first_bags.nd rfl (Or.inl rfl)) (a0Y (a0H (i:=3) sc_first_bags.nd rfl (Or.inl rfl)) a2V)))
   (a0C (a9Y (a0Q c5E (a0U (a0I (K:=K) rfl) (pv 1) (pv 2) (λ _ _=>rfl)) (a0Q a7Y a0G (pv 3))) (b3R (pv 1) (pv 2) a4R))
   (a0D (a9Y (a0Q c5E (a0U (a0I (K:=K) rfl) (pv 1) (pv 3) (λ _ _=>rfl)) (a0Q a7Y a0G (pv 2))) (b3R (pv 1) (pv 3) a4R)))))
   (a0D (a0K (pv 1))))),?_⟩
 refine ⟨_,rfl,pg,_,_,_,rfl,rfl,hP,rfl,_,rfl,by omega,by omega,?_⟩
 rw [Int.toNat_natCast]
 refine b2O (lo:=0) (n:=n) (λ j=>some (.int ((2 ^ j:Nat):Int))) (by omega) (λ j H7 N hj s7 hN=>?_) (λ H7 pb H8 s7 n8=>?_)
 ·have ej:(0 + (j:Int)) = ((j:Nat):Int):=by omega
  rw [ej]
  refine ⟨_,rfl,_,_,rfl,rfl,⟨by omega,by omega,by decide⟩,?_⟩
  dsimp only
  rw [shl1]
  exact hN H7 s7
 have e8:(List.range n).filterMap (λ (j:Nat)=>some (V.int ((2 ^ j:Nat):Int))) = natV ((List.range n).map λ v=>2 ^ v):=by
  unfold natV
  rw [List.map_map]
  exact a3M λ _ _=>rfl
 rw [e8] at n8
 have s8:Same H H8:=s7.trans n8.same
 refine ⟨_,rfl,pg,_,_,_,rfl,rfl,s8.tupq hP,rfl,ta,rfl,⟨_,s8.seq hy⟩,?_⟩
 have fb:H pb = none:=s7.free n8.fresh
 refine a3W (xs:=ys) (λ i σ H'=>∃ (aa bb:Option V) (ms:List Nat),σ = [some (.ref pg),some (.ref pb),aa,bb]/\Same H H'/\H' pb = some (.lst (natV ms))/\BagsM n ms (a2X n (ts.take i))) ⟨none,none,_,rfl,s8,n8.here,by rw [List.take_zero]; exact b9X n n10⟩ (λ i σ H' _ ⟨_,_,_,_,s,_⟩=>s.seq hy) ?_ ?_
 ·rintro i x σ H4 hx ⟨aa,bb,ms,rfl,s4,hb4,BM⟩
  obtain ⟨t,ht,⟨pt,rfl,hTt⟩⟩:=paired_get hq hx
  have tok:=okt t (List.mem_of_getElem? ht)
  obtain ⟨a,ea⟩:∃ a:Nat,t.1 = (a:Int):=⟨t.1.toNat,by omega⟩
  obtain ⟨b,eb⟩:∃ b:Nat,t.2 = (b:Int):=⟨t.2.toNat,by omega⟩
  rw [ea,eb] at hTt
  have an:a < n:=by omega
  have bn:b < n:=by omega
  have la:a < ms.length:=by rw [BM.len]; exact an
  have lb:b < ms.length:=by rw [BM.len]; exact bn
  refine ⟨pt,_,rfl,s4.tupq hTt,rfl,_,_,rfl,_,_,rfl,rfl,?_⟩
  refine ⟨_,rfl,_,rfl,pb,_,_,_,rfl,rfl,SqL.of hb4,a4K la,_,rfl,_,_,rfl,rfl,⟨by omega,by omega,by decide⟩,_,_,rfl,rfl,?_⟩
  dsimp only
  rw [shl1,b8J]
  refine ⟨_,rfl,_,rfl,pb,_,_,a,rfl,rfl,hb4,b2R (by rw [List.length_map]; exact la),λ H5 c5=>?_⟩
  rw [a9M] at c5
  have s5:Same H H5:=s4.chg fb c5
  have lb':b < (ms.set a (ms.getD a 0 ||| 2 ^ b)).length:=by rw [List.length_set]; exact lb
  refine ⟨_,rfl,_,rfl,pb,_,_,_,rfl,rfl,SqL.of c5.here,a4K lb',_,rfl,_,_,rfl,rfl,⟨by omega,by omega,by decide⟩,_,_,rfl,rfl,?_⟩
  dsimp only
  rw [shl1,b8J]
  refine ⟨_,rfl,_,rfl,pb,_,_,b,rfl,rfl,c5.here,b2R (by rw [List.length_map]; exact lb'),λ H6 c6=>?_⟩
  rw [a9M] at c6
  refine ⟨_,_,_,rfl,s5.chg fb c6,c6.here,?_⟩
  have et:ts.take (i + 1) = ts.take i ++ [((a:Int),(b:Int))]:=by
   rw [List.take_succ,ht]
   simp [<- ea,<- eb]
  rw [et]
  exact b9Y BM an bn (by omega)
 ·rintro σ H4 ⟨aa,bb,ms,rfl,s4,hb4,BM⟩
  rw [hlt,List.take_length] at BM
  exact ⟨_,rfl,q pb ms H4 s4 fb hb4 BM⟩
abbrev DZ33 (K:PySem.W.Frag) (mg:Str->Option Value):=Dn K mg "taken_out" a7F ["bags", "v"]
set_option maxHeartbeats 4000000 in
theorem a6C (B:Bl mg) (dZ33:DZ33 K mg):FnOk P w K mg base CX0 1 dZ33.f dZ33.fd ["bags", "v"] (c3C K):=by
 refine dZ33.F.ok sc_taken_out (λ vs H Q E h=>?_) (λ cdv A outer s H vs Q E hr h=>?_)
 ·obtain ⟨a,n,ms,R,v,rfl,_⟩:=h
  rfl
 obtain ⟨a,n,ms,R,v,rfl,hA,BM,hv,q⟩:=h
 have lv:v < ms.length:=by rw [BM.len]; exact hv
 have n10:=BM.n10
 refine ⟨_,(a0C (a0L (i:=2) sc_taken_out.nd rfl (Or.inr rfl) (a0Q a7Y a0G (pv 1)))
   (a0C (a3E (i:=3) ["bag", "bit", "bags", "v"] [none,some 2,some 0,some 1] sc_taken_out.nd rfl rfl (by kernel_rfl) rfl (a0P (K:=K) rfl (pv 0)) (λ _ _ _ _ _=>(a0H (i:=0) (show (["bag", "bit", "bags", "v"]:List Str).Nodup by decide +kernel) rfl (Or.inl rfl))) (λ _ _ _ _ _=>a2N) (λ _ _ _ _ _=>(a8Q (a0W (K:=K) rfl (a0Q c4D (pv 0) (pv 1)) (λ _=>rfl)) (a0Q a5T (a0Q c5E (pv 0) (a0U (a0I (K:=K) rfl) (pv 2) (pv 3) (λ _ _=>rfl))) (pv 1)) (pv 0))) (by rfl))
   (a0C (a9Y a0G (b3R (pv 3) (pv 1) a4R))
   (a0D (a0K (pv 3)))))),?_⟩
 refine ⟨_,rfl,_,_,rfl,rfl,⟨by omega,by omega,by decide⟩,?_⟩
 dsimp only
 rw [shl1]
 refine ⟨_,rfl,a,rfl,⟨_,hA⟩,?_⟩
 refine a5W (λ x=>match x with | .int z=>some (.int ((if z.toNat &&& 2 ^ v = 0 then z.toNat else (z.toNat ||| ms.getD v 0) - 2 ^ v:Nat):Int)) | _=>none) hA (by rw [List.length_map,BM.len]; omega) (λ x H1 N hx s1 hN=>?_) (λ H1 p H2 s1 n2=>?_)
 ·obtain ⟨m,hm,rfl⟩:=List.mem_map.mp hx
  have hN':=hN H1 s1
  dsimp only at hN'
  rw [Int.toNat_natCast] at hN'
  refine ⟨_,rfl,_,rfl,_,_,rfl,rfl,_,rfl,?_⟩
  rw [b8I]
  by_cases c:m &&& 2 ^ v = 0
  ·rw [if_pos c] at hN'
   rw [c]
   exact iteF ⟨_,rfl,hN'⟩
  ·rw [if_neg c] at hN'
   rw [show (((m &&& 2 ^ v:Nat):Int) != 0) = true by simpa using c]
   refine iteT ⟨_,rfl,_,rfl,_,rfl,a,_,_,_,rfl,rfl,s1.seq hA,a4K lv,_,_,rfl,rfl,_,rfl,_,_,rfl,rfl,?_⟩
   rw [b8J]
   have tb:(m ||| ms.getD v 0).testBit v = true:=by
    rw [Nat.testBit_or]
    have:m.testBit v = true:=by
     cases e:m.testBit v with
     | true=>rfl
     | false=>exact absurd ((a9B m v).mpr e) c
    rw [this]; rfl
   have ge:=Nat.ge_two_pow_of_testBit tb
   have e:(((m ||| ms.getD v 0:Nat):Int) - ((2 ^ v:Nat):Int)) = (((m ||| ms.getD v 0) - 2 ^ v:Nat):Int):=by omega
   dsimp only
   rw [e]
   exact hN'
 have ez:(natV ms).filterMap (λ x=>match x with | .int z=>some (V.int ((if z.toNat &&& 2 ^ v = 0 then z.toNat else (z.toNat ||| ms.getD v 0) - 2 ^ v:Nat):Int)) | _=>none) = natV (ms.map λ m=>if m &&& 2 ^ v = 0 then m else (m ||| ms.getD v 0) - 2 ^ v):=by
  unfold natV
  rw [List.filterMap_map,List.map_map]
  refine a3M λ m _=>?_
  simp only [Function.comp_apply,Int.toNat_natCast]
 rw [ez] at n2
 have lz:v < (ms.map λ m=>if m &&& 2 ^ v = 0 then m else (m ||| ms.getD v 0) - 2 ^ v).length:=by rw [List.length_map]; exact lv
 refine ⟨_,rfl,_,rfl,p,_,_,v,rfl,rfl,n2.here,b2R (by rw [List.length_map]; exact lz),λ H3 c3=>?_⟩
 have c3':=c3.here
 rw [show (V.int 0) = V.int ((0:Nat):Int) from rfl,a9M] at c3'
 exact ⟨_,rfl,q p H3 ((s1.trans n2.same).chg (s1.free n2.fresh) c3) (s1.free n2.fresh) c3'⟩
end
abbrev a6D:Stmt:=top 20
theorem sc_mask_sizes:FnScope ["n", "sizes", "mask"] ["n"] (a0E a6D):=⟨rfl,rfl,rfl,by decide +kernel,rfl,by decide +kernel,by decide +kernel⟩
def popF (m:Nat):Nat:=(a2D m).length
theorem b9Z:popF 0 = 0:=by decide
theorem c0A {m:Nat} (h:m < 2 ^ 10):popF m = popF (m / 2) + m % 2:=by
 have c:∀ k:Nat,popF k = (List.range 10).countP k.testBit:=λ k=>by
  unfold popF a2D
  rw [List.countP_eq_length_filter]
 rw [c m,c (m / 2)]
 have e1:(List.range 10).countP m.testBit = (if m.testBit 0 = true then 1 else 0) + (List.range 9).countP (m / 2).testBit:=by
  rw [show List.range 10 = 0 :: (List.range 9).map Nat.succ from by decide,List.countP_cons,List.countP_map]
  rw [Nat.add_comm]
  congr 1
 have e2:(List.range 10).countP (m / 2).testBit = (List.range 9).countP (m / 2).testBit:=by
  rw [show List.range 10 = List.range 9 ++ [9] from by decide,List.countP_append]
  have z:(m / 2).testBit 9 = false:=Nat.testBit_lt_two_pow (by omega)
  simp [z]
 rw [e1,e2,Nat.testBit_zero]
 by_cases d:m % 2 = 1
 ·rw [decide_eq_true d,if_pos rfl,d]; omega
 ·rw [decide_eq_false d,if_neg Bool.false_ne_true]; omega
def a3C (k:Nat):List V:=(List.range k).map λ m=>V.int ((popF m:Nat):Int)
theorem b1M {k m:Nat} (h:m < k):atI (a3C k) (m:Int) = some (.int ((popF m:Nat):Int)):=a2M (by
 unfold a3C
 rw [List.getElem?_map,List.getElem?_range h]; rfl)
theorem b6G (k:Nat):(a3C k).length = k:=by unfold a3C; simp
def c7F:Sp:=λ vs H Q _=>∃ (n:Nat),vs = [.int n]/\n <= 10/\∀ p H',New H p (.lst (a3C (2 ^ n))) H'->Q (.ref p) H'
section
variable {P:Program} {w:World} {K:Φρ} {mg:Str->Option Value} {base:Heap}
abbrev DZ23 (K:PySem.W.Frag) (mg:Str->Option Value):=Dn K mg "mask_sizes" a6D ["n"]
set_option maxHeartbeats 4000000 in
theorem a9N (B:Bl mg) (dZ23:DZ23 K mg):FnOk P w K mg base CX0 1 dZ23.f dZ23.fd ["n"] c7F:=by
 refine dZ23.F.ok sc_mask_sizes (λ vs H Q E h=>?_) (λ cdv A outer s H vs Q E hr h=>?_)
 ·obtain ⟨n,rfl,_⟩:=h
  rfl
 obtain ⟨n,rfl,n10,q⟩:=h
 have p10:2 ^ n <= 2 ^ 10:=Nat.pow_le_pow_right (by decide) n10
 have p0:0 < 2 ^ n:=Nat.pow_pos (by decide)
 refine ⟨_,(a0C (a0L (i:=1) sc_mask_sizes.nd rfl (Or.inl rfl) (a1G (a0A a0G a0B)))
   (a0C (a1U PassesOwn.never rfl (a6Q rfl B.range (a0A a0G (a0A (a0Q a7Y a0G (pv 0)) a0B))) (a0H (i:=2) sc_mask_sizes.nd rfl (Or.inl rfl))
   (a0D (a2L (a3A (K:=K) rfl PySem.F.plainAttrs_list PySem.F.slot_list_append PySem.F.type_list_append b6C (pv 1) (a0A (a0Q a3I (a0U (a0I (K:=K) rfl) (pv 1) (a0Q c8P (pv 2) a0G) (λ _ _=>rfl)) (a0Q a2Z (pv 2) a0G)) a0B)))))
   (a0D (a0K (pv 1))))),?_⟩
 refine ⟨(by show 1 <= 1000; decide),λ p H1 n1=>?_⟩
 have e1:[V.int 0] = a3C 1:=by
  unfold a3C
  show _ = [V.int ((popF 0:Nat):Int)]
  rw [b9Z]; rfl
 rw [e1] at n1
 have sh:=shl1 n
 obtain ⟨N,hN⟩:∃ N,N = 2 ^ n - 1:=⟨_,rfl⟩
 refine ⟨_,rfl,_,_,rfl,rfl,⟨by omega,by omega,by decide⟩,_,_,rfl,⟨by decide,by decide,by rw [sh]; omega,by rw [sh]; omega⟩,?_⟩
 rw [show ((1:Int) * 2 ^ ((n:Nat):Int).toNat - 1).toNat = N by rw [sh]; omega]
 refine a1R (lo:=1) (n:=N) (λ i σ H'=>∃ m:Option V,σ = [some (.int n),some (.ref p),m]/\New H p (.lst (a3C (i + 1))) H') ⟨none,rfl,n1⟩ ?_ ?_
 ·rintro i σ H2 hi ⟨m,rfl,n2⟩
  have ei:(1:Int) + (i:Int) = ((i + 1:Nat):Int):=by omega
  rw [ei]
  have eh:((i + 1:Nat):Int) / 2 ^ (1:Int).toNat = (((i + 1) / 2:Nat):Int):=by
   rw [show (1:Int).toNat = 1 from rfl]
   omega
  have em:((popF ((i + 1) / 2):Nat):Int) + ((i + 1:Nat):Int) % 2 = ((popF (i + 1):Nat):Int):=by
   rw [c0A (m:=i + 1) (by omega)]
   omega
  refine ⟨_,rfl,.inl ⟨rfl,_,SqL.of n2.here⟩,_,rfl,_,rfl,_,_,rfl,rfl,(show (0:Int) <= 1 by decide),p,_,_,V.int ((popF ((i + 1) / 2):Nat):Int),rfl,rfl,SqL.of n2.here,(by rw [eh]; exact b1M (by omega)),_,rfl,_,_,rfl,rfl,(show (0:Int) < _ by decide),_,_,rfl,rfl,?_⟩
  dsimp only
  rw [em]
  refine ⟨p,_,_,rfl,rfl,n2.here,by rw [b6G]; omega,λ H3 c3=>?_⟩
  refine ⟨_,rfl,n2.fresh,?_,λ b hb=>(c3.rest b hb).trans (n2.rest b hb)⟩
  rw [c3.here]
  unfold a3C
  rw [List.range_succ (n:=i + 1),List.map_append]
  rfl
 ·rintro σ H2 ⟨m,rfl,n2⟩
  rw [show N + 1 = 2 ^ n by omega] at n2
  exact ⟨_,rfl,q p H2 n2⟩
end
structure NearL (H:Hp) (qs:List Addr) (f:Nat->List Nat):Prop where
 nd:qs.Nodup
 at_:∀ (j:Nat) q,qs[j]? = some q->H q = some (.lst (natV (f j)))
abbrev c0B:Stmt:=top 39
theorem sc_later:FnScope ["graph", "order", "bags", "told", "v"] ["graph", "order"] (a0E c0B):=⟨rfl,rfl,rfl,by decide +kernel,rfl,by decide +kernel,by decide +kernel⟩
abbrev a3D:Stmt:=top 40
theorem a4Z:FnScope ["n", "order"] ["n", "order"] (a0E a3D):=⟨rfl,rfl,rfl,by decide +kernel,rfl,by decide +kernel,by decide +kernel⟩
def runR (n:Nat) (ts:List ζζ) (os:List Nat):Nat->Nat->Bool:=os.foldl (λ R v=>a6G v R) (a2X n ts)
theorem a2S (n:Nat) (ts:List ζζ) (os:List Nat) (v:Nat):runR n ts (os ++ [v]) = a6G v (runR n ts os):=by
 unfold runR
 rw [List.foldl_append]
 rfl
def a1K (n:Nat) (R:Nat->Nat->Bool) (v:Nat):List Nat:=(List.range n).filter λ u=>R v u && !decide (u = v)
def a1A (n:Nat) (ts:List ζζ) (os:List Nat) (j:Nat):List Nat:=a1K n (runR n ts (os.take j)) (os.getD j 0)
theorem c0C (n:Nat) (R:Nat->Nat->Bool) (v:Nat):(a1K n R v).length <= n:=by
 unfold a1K
 refine Nat.le_trans (List.length_filter_le _ _) ?_
 simp
theorem b4X (l:List Nat) (v:Nat):a4J (l.map λ (x:Nat)=>(x:Int)) [(v:Int)] = (l.filter λ u=>!decide (u = v)).map λ (x:Nat)=>(x:Int):=by
 unfold a4J
 induction l with
 | nil=>rfl
 | cons a r ih =>
  rw [List.map_cons,List.filter_cons,List.filter_cons,ih]
  by_cases c:a = v
  ·subst c; simp
  ·have:¬ ((a:Int) = (v:Int)):=by omega
   simp [c,this]
def c7G (K:Φρ):Sp:=λ vs H Q _=>∃ (n:Nat) (a:Addr) (os:List Nat),vs = [.int (n:Int),.ref a]/\SqL K H a (natV os)/\os.Perm (List.range n)/\n <= 10/\∀ H',Same H H'->Q .non H'
def c7H (K:Φρ):Sp:=λ vs H Q _=>∃ (g:V) (n:Nat) (ts:List ζζ) (a:Addr) (os:List Nat),vs = [g,.ref a]/\GraphV K H g n ts/\(∀ t ∈ ts,0 <= t.1/\t.1 < t.2/\t.2 < (n:Int))/\SqL K H a (natV os)/\os.Perm (List.range n)/\n <= 10 /\
 ∀ p qs H',Same H H'->H p = none->H' p = some (.lst (qs.map V.ref))->qs.length = n->(∀ q ∈ qs,H q = none)->p ∉ qs->NearL H' qs (a1A n ts os)->Q (.ref p) H'
section
variable {P:Program} {w:World} {K:Φρ} {mg:Str->Option Value} {base:Heap}
abbrev DZ29 (K:PySem.W.Frag) (mg:Str->Option Value):=Dn K mg "refuse_no_order" a3D ["n", "order"]
set_option maxHeartbeats 4000000 in
theorem a5A (B:Bl mg) (dZ16:DZ16 K mg) (dZ12:DZ12 K mg) (dZ15:DZ15 K mg) (dZ29:DZ29 K mg):FnOk P w K mg base CX0 4 dZ29.f dZ29.fd ["n", "order"] (c7G K):=by
 have gZ15:FnOk P w K mg base CX0 3 _ _ _ _:=b9P B dZ16 dZ12 dZ15
 refine dZ29.F.ok a4Z (λ vs H Q E h=>?_) (λ cdv A outer s H vs Q E hr h=>?_)
 ·obtain ⟨n,a,os,rfl,_⟩:=h
  rfl
 obtain ⟨n,a,os,rfl,hA,hp,n10,q⟩:=h
 have ln:os.length = n:=by have:=hp.length_eq; simpa using this
 refine ⟨_,(a0D (a2Y (PW.pt (a9X (a0O c1P (a0N (a0T (K:=K) rfl) rfl B.len (by decide +kernel) (a0A (pv 1) a0B)) (pv 0) (a1J _)) (a7V (a7W (a0W (K:=K) rfl (a0F gZ15 hr rfl dZ15.m dZ15.F.kp dZ15.b .nil a0M (a0A (pv 0) (a0A (a0N (b1F (K:=K) rfl) rfl B.sorted (by decide +kernel) (a0A (pv 1) a0B)) a0B))) (λ _=>rfl))))))
   (a0D b3Q)
   a1O)),?_⟩
 refine ⟨_,rfl,a,_,rfl,.inl hA,_,rfl,rfl,_,rfl,?_⟩
 rw [show (!decide (V.int (((natV os).length:Nat):Int) = V.int (n:Int))) = false by rw [List.length_map,ln]; simp]
 refine iteF ?_
 rw [a0S] at hA
 refine ⟨_,rfl,_,rfl,a,_,rfl,hA,by rw [List.length_map]; omega,λ p H1 zs n1 zp zl=>?_⟩
 refine ⟨(n:Int),p,zs,rfl,SqL.of n1.here,?_,λ H2 s2=>⟨_,rfl,?_⟩⟩
 ·have:=zp.length_eq
  rw [List.length_map] at this
  omega
 have hs:setF (n:Int) zs = true:=by
  refine (b7T _ _).mpr ⟨λ v hv=>?_,?_⟩
  ·obtain ⟨x,hx,rfl⟩:=List.mem_map.mp (zp.mem_iff.mp hv)
   have:=List.mem_range.mp (hp.mem_iff.mp hx)
   omega
  ·have nd:zs.Nodup:=by
    refine zp.nodup_iff.mpr ?_
    have:os.Nodup:=hp.nodup_iff.mpr List.nodup_range
    rw [List.nodup_iff_pairwise_ne] at this ⊢
    rw [List.pairwise_map]
    exact this.imp λ h=>by omega
   exact (zl.and nd).imp λ ⟨h1,h2⟩=>by omega
 rw [hs]
 exact iteF (q H2 (n1.same.trans s2))
abbrev DZ18 (K:PySem.W.Frag) (mg:Str->Option Value):=Dn K mg "later" c0B ["graph", "order"]
set_option maxHeartbeats 8000000 in
theorem b4Y (B:Bl mg) (dZ16:DZ16 K mg) (dZ12:DZ12 K mg) (dZ15:DZ15 K mg) (dZ20:DZ20 K mg) (dZ28:DZ28 K mg) (dZ8:DZ8 K mg) (dZ33:DZ33 K mg) (dZ29:DZ29 K mg) (dZ18:DZ18 K mg):FnOk P w K mg base CX0 5 dZ18.f dZ18.fd ["graph", "order"] (c7H K):=by
 have gZ29:FnOk P w K mg base CX0 4 _ _ _ _:=a5A B dZ16 dZ12 dZ15 dZ29
 have gZ8:FnOk P w K mg base CX0 4 _ _ _ _:=(a4Y B dZ8).mono (by decide)
 have gZ33:FnOk P w K mg base CX0 4 _ _ _ _:=(a6C B dZ33).mono (by decide)
 have gZ28:FnOk P w K mg base CX0 4 _ _ _ _:=(a6B B dZ28).mono (by decide)
 have gZ20:FnOk P w K mg base CX0 4 _ _ _ _:=(a5M B dZ20).mono (by decide)
 refine dZ18.F.ok sc_later (λ vs H Q E h=>?_) (λ cdv A outer s H vs Q E hr h=>?_)
 ·obtain ⟨g,n,ts,a,os,rfl,_⟩:=h
  rfl
 obtain ⟨g,n,ts,a,os,rfl,hG,okt,hA,hp,n10,q⟩:=h
 have ln:os.length = n:=by have:=hp.length_eq; simpa using this
 obtain ⟨pg,ta,rfl,hP,hT⟩:=id hG
 refine ⟨_,(a0C (a2L (a0F gZ29 hr rfl dZ29.m dZ29.F.kp dZ29.b .nil a0M (a0A (a0U (a1P (K:=K) rfl) (pv 0) a0G (λ _ _=>rfl)) (a0A (pv 1) a0B))))
   (a0C (a0L (i:=2) sc_later.nd rfl (Or.inl rfl) (a0F gZ8 hr rfl dZ8.m dZ8.F.kp dZ8.b .nil a0M (a0A (pv 0) a0B)))
   (a0C (a0L (i:=3) sc_later.nd rfl (Or.inl rfl) (a1G a0B))
   (a0C (a1U PassesOwn.never rfl (a0P (K:=K) rfl (pv 1)) (a0H (i:=4) sc_later.nd rfl (Or.inl rfl))
   (a0C (a2L (a3A (K:=K) rfl PySem.F.plainAttrs_list PySem.F.slot_list_append PySem.F.type_list_append a2A (pv 3) (a0A (a0F gZ20 hr rfl dZ20.m dZ20.F.kp dZ20.b .nil a0M (a0A (a0F gZ28 hr rfl dZ28.m dZ28.F.kp dZ28.b .nil a0M (a0A (a0U (a0I (K:=K) rfl) (pv 2) (pv 4) (λ _ _=>rfl)) a0B)) (a0A (a1G (a0A (pv 4) a0B)) a0B))) a0B)))
   (a0D (a0L (i:=2) sc_later.nd rfl (Or.inl rfl) (a0F gZ33 hr rfl dZ33.m dZ33.F.kp dZ33.b .nil a0M (a0A (pv 2) (a0A (pv 4) a0B)))))))
   (a0D (a0K (pv 3))))))),?_⟩
 refine ⟨_,rfl,pg,_,_,_,rfl,rfl,hP,rfl,_,rfl,n,a,os,rfl,hA,hp,n10,λ H1 s1=>?_⟩
 refine ⟨_,rfl,.ref pg,n,ts,rfl,hG.same s1,okt,n10,λ pb ms H2 s2 f2 hb2 BM=>?_⟩
 refine ⟨(by show 0 <= 1000; decide),λ pt H3 n3=>?_⟩
 have s3:Same H H3:=s1.trans (s2.trans n3.same)
 have ft:H pt = none:=(s1.trans s2).free n3.fresh
 refine ⟨_,rfl,a,rfl,⟨_,s3.seq hA⟩,?_⟩
 refine a3W (xs:=natV os) (λ i σ H'=>∃ (pb:Addr) (vv:Option V) (ms:List Nat) (qs:List Addr),σ = [some (.ref pg),some (.ref a),some (.ref pb),some (.ref pt),vv]/\Same H H'/\H' pb = some (.lst (natV ms))/\BagsM n ms (runR n ts (os.take i)) /\
   H' pt = some (.lst (qs.map V.ref))/\qs.length = i/\(∀ q ∈ qs,H q = none)/\pt ∉ qs/\pb ≠ pt/\NearL H' qs (a1A n ts os)) ⟨pb,none,ms,[],rfl,s3,n3.same _ _ hb2,BM,n3.here,rfl,λ q h=>absurd h List.not_mem_nil,List.not_mem_nil,n3.ne hb2,.nil,λ j q e=>by simp at e⟩ (λ i σ H' _ ⟨_,_,_,_,_,s,_⟩=>s.seq hA) ?_ ?_
 ·rintro i x σ H4 hx ⟨pb,vv,ms,qs,rfl,s4,hb4,BM,ht4,lq,fq,pq,nbt,nl⟩
  rw [List.getElem?_map] at hx
  obtain ⟨v,hv,rfl⟩:=Option.map_eq_some_iff.mp hx
  have il:i < os.length:=(List.getElem?_eq_some_iff.mp hv).1
  have vn:v < n:=List.mem_range.mp (hp.mem_iff.mp (List.mem_of_getElem? hv))
  have lv:v < ms.length:=by rw [BM.len]; exact vn
  have ev:os.getD i 0 = v:=by rw [τα,hv]; rfl
  have et:os.take (i + 1) = os.take i ++ [v]:=by rw [List.take_succ,hv]; rfl
  refine ⟨_,rfl,.inl ⟨rfl,_,SqL.of ht4⟩,_,rfl,_,rfl,pb,_,_,_,rfl,rfl,SqL.of hb4,a4K lv,_,rfl,BM.mlt vn,λ H5 pp H6 s5 n6=>?_⟩
  have s46:Same H4 H6:=s5.trans n6.same
  refine ⟨_,rfl,(by show 1 <= 1000; decide),λ p7 H7 n7=>?_⟩
  have hpp:SqL K H7 pp ((a2D (ms.getD v 0)).map (λ (x:Nat)=>(x:Int)) |>.map V.int):=by rw [<- a0S]; exact SqL.of (n7.same _ _ n6.here)
  have hz:(a2D (ms.getD v 0)).length <= 10:=by
   unfold a2D
   refine Nat.le_trans (List.length_filter_le _ _) ?_
   simp
  refine ⟨pp,p7,_,[(v:Int)],rfl,hpp,SqL.of n7.here,by rw [List.length_map]; omega,λ H8 p9 H9 s8 n9=>?_⟩
  rw [b4X,a4H BM vn,List.filter_filter,<- a0S] at n9
  have el:(List.range n).filter (λ u=>!decide (u = v) && runR n ts (os.take i) v u) = a1A n ts os i:=by
   unfold a1A a1K
   rw [ev]
   exact List.filter_congr λ u _=>Bool.and_comm _ _
  rw [el] at n9
  have s49:Same H4 H9:=s46.trans (n7.same.trans (s8.trans n9.same))
  refine ⟨pt,_,_,rfl,rfl,s49 _ _ ht4,by rw [List.length_map]; omega,λ H10 c10=>?_⟩
  have s10:Same H H10:=(s4.trans s49).chg ft c10
  have hb10:H10 pb = some (.lst (natV ms)):=(c10.rest pb nbt).trans (s49 _ _ hb4)
  refine ⟨_,rfl,_,rfl,pb,n,ms,_,v,rfl,SqL.of hb10,BM,vn,λ p11 H11 s11 f11 hb11=>?_⟩
  have f9:H p9 = none:=(s4.trans (s46.trans (n7.same.trans s8))).free n9.fresh
  have np9:p9 ≠ pt:=(n9.ne (s8 _ _ (n7.same _ _ (s46 _ _ ht4)))).symm
  refine ⟨p11,_,a6Y v ms,qs ++ [p9],rfl,s10.trans s11,hb11,?_,?_,by rw [List.length_append,lq]; rfl,λ q hq=>?_,λ hq=>?_,?_,?_,λ j q ej=>?_⟩
  ·rw [et,a2S]
   exact b8M BM vn
  ·rw [s11 _ _ c10.here,List.map_append]
   rfl
  ·rcases List.mem_append.mp hq with hq | hq
   ·exact fq q hq
   ·rw [List.mem_singleton.mp hq]; exact f9
  ·rcases List.mem_append.mp hq with hq | hq
   ·exact pq hq
   ·exact np9 (List.mem_singleton.mp hq).symm
  ·intro z
   rw [z] at f11
   rw [c10.here] at f11; cases f11
  ·refine List.nodup_append.mpr ⟨nl.nd,List.nodup_cons.mpr ⟨List.not_mem_nil,.nil⟩,λ x hx y hy z=>?_⟩
   rw [List.mem_singleton.mp hy] at z
   obtain ⟨j,hj,ej⟩:=List.getElem_of_mem hx
   have:=nl.at_ j x (by rw [<- ej]; exact List.getElem?_eq_getElem hj)
   have g:=n9.fresh
   rw [<- z,s8 _ _ (n7.same _ _ (s46 _ _ this))] at g; cases g
  ·have keep:∀ b u,b ≠ pt->H9 b = some u->H11 b = some u:=λ b u hb e=>s11 _ _ ((c10.rest b hb).trans e)
   by_cases c:j < qs.length
   ·rw [List.getElem?_append_left c] at ej
    exact keep _ _ (λ z=>pq (by rw [<- z]; exact List.mem_of_getElem? ej)) (s49 _ _ (nl.at_ j q ej))
   ·rw [List.getElem?_append_right (by omega)] at ej
    cases z:j - qs.length with
    | zero =>
     rw [z] at ej
     simp at ej
     have:j = i:=by omega
     subst this
     rw [<- ej]
     exact keep _ _ np9 n9.here
    | succ k=>rw [z] at ej; simp at ej
 ·rintro σ H4 ⟨pb,vv,ms,qs,rfl,s4,hb4,BM,ht4,lq,fq,pq,nbt,nl⟩
  rw [List.length_map,ln] at lq
  exact ⟨_,rfl,q pt qs H4 s4 ft ht4 lq fq pq nl⟩
end
def tieT (ts:List ζζ) (x y:Nat):Bool:=decide (((x:Int),(y:Int)) ∈ ts) || decide (((y:Int),(x:Int)) ∈ ts)
inductive PathT (ts:List ζζ) (S:List Nat) (x:Nat):Nat->Prop
 | one {u:Nat} (h:tieT ts x u = true):PathT ts S x u
 | step {a u:Nat} (p:PathT ts S x a) (m:a ∈ S) (h:tieT ts a u = true):PathT ts S x u
theorem PathT.mono {ts:List ζζ} {S S':List Nat} {x u:Nat} (h:PathT ts S x u) (s:∀ a ∈ S,a ∈ S'):PathT ts S' x u:=by
 induction h with
 | one h=>exact .one h
 | step p m h ih=>exact .step ih (s _ m) h
theorem PathT.glue {ts:List ζζ} {S:List Nat} {x w u:Nat} (hw:w ∈ S) (a:PathT ts S x w) (b:PathT ts S w u):PathT ts S x u:=by
 induction b with
 | one h=>exact .step a hw h
 | step p m h ih=>exact .step ih m h
theorem PathT.split {ts:List ζζ} {S:List Nat} {x w u:Nat} (h:PathT ts (S ++ [w]) x u):PathT ts S x u\/(PathT ts S x w/\PathT ts S w u):=by
 induction h with
 | one h=>exact .inl (.one h)
 | @step a u p m h ih =>
  rcases List.mem_append.mp m with m | m
  ·rcases ih with ih | ⟨i1,i2⟩
   ·exact .inl (.step ih m h)
   ·exact .inr ⟨i1,.step i2 m h⟩
  ·have e:=List.mem_singleton.mp m
   subst e
   rcases ih with ih | ⟨i1,_⟩
   ·exact .inr ⟨ih,.one h⟩
   ·exact .inr ⟨i1,.one h⟩
structure RunP (n:Nat) (ts:List ζζ) (S:List Nat):Prop where
 path:∀ x u,x < n->u < n->x ∉ S->u ∉ S->(runR n ts S x u = true ↔ x = u\/PathT ts S x u)
 gone:∀ x u,x < n->x ∉ S->u ∈ S->runR n ts S x u = false
theorem b4Z {n:Nat} {ts:List ζζ}:∀ (k:Nat) (S:List Nat),S.length = k->S.Nodup->(∀ a ∈ S,a < n)->RunP n ts S
 | 0,S,hl,_,_=>by
  have e:S = []:=List.eq_nil_of_length_eq_zero hl
  subst e
  refine ⟨λ x u hx hu _ _=>?_,λ x u _ _ h=>absurd h List.not_mem_nil⟩
  show a2X n ts x u = true ↔ _
  unfold a2X
  rw [decide_eq_true (show x < n/\u < n from ⟨hx,hu⟩),Bool.true_and,Bool.or_assoc,Bool.or_eq_true,decide_eq_true_iff]
  constructor
  ·rintro (h | h)
   ·exact .inl h.symm
   ·exact .inr (.one h)
  ·rintro (h | h)
   ·exact .inl h.symm
   ·cases h with
    | one h=>exact .inr h
    | step p m h=>exact absurd m List.not_mem_nil
 | k + 1,S,hl,nd,hn=>by
  have hne:S ≠ []:=λ z=>by rw [z] at hl; cases hl
  obtain ⟨S',w,rfl⟩:∃ S' w,S = S' ++ [w]:=⟨S.dropLast,S.getLast hne,(List.dropLast_concat_getLast hne).symm⟩
  obtain ⟨nd',_,dis⟩:=List.nodup_append.mp nd
  have wS:w ∉ S':=λ h=>dis w h w (List.mem_singleton.mpr rfl) rfl
  have wn:w < n:=hn w (List.mem_append_right _ (List.mem_singleton.mpr rfl))
  have ih:=b4Z (ts:=ts) k S' (by rw [List.length_append] at hl; exact Nat.succ.inj hl) nd' λ a ha=>hn a (List.mem_append_left _ ha)
  have out:∀ {x},x ∉ S' ++ [w]->x ∉ S'/\x ≠ w:=λ {x} h=>⟨λ z=>h (List.mem_append_left _ z),λ z=>h (List.mem_append_right _ (List.mem_singleton.mpr z))⟩
  refine ⟨λ x u hx hu h1 h2=>?_,λ x u hx h1 h2=>?_⟩
  ·obtain ⟨g1,n1⟩:=out h1
   obtain ⟨g2,n2⟩:=out h2
   rw [a2S]
   have q1:=ih.path x u hx hu g1 g2
   have q2:=ih.path x w hx wn g1 wS
   have q3:=ih.path w u wn hu wS g2
   have big:∀ a ∈ S',a ∈ S' ++ [w]:=λ a ha=>List.mem_append_left _ ha
   have wm:w ∈ S' ++ [w]:=List.mem_append_right _ (List.mem_singleton.mpr rfl)
   unfold a6G
   rw [if_neg n1]
   constructor
   ·intro h
    split at h
    ·rename_i c
     rw [Bool.and_eq_true,Bool.or_eq_true] at h
     rcases h.1 with z | z
     ·exact (q1.mp z).imp_right λ p=>p.mono big
     ·have p1:=(q2.mp c).resolve_left n1
      have p2:=(q3.mp z).resolve_left λ y=>n2 y.symm
      exact .inr (PathT.glue wm (p1.mono big) (p2.mono big))
    ·exact (q1.mp h).imp_right λ p=>p.mono big
   ·intro h
    have main:runR n ts S' x u = true\/(runR n ts S' x w = true/\runR n ts S' w u = true):=by
     rcases h with h | h
     ·exact .inl (q1.mpr (.inl h))
     ·rcases h.split with p | ⟨p1,p2⟩
      ·exact .inl (q1.mpr (.inr p))
      ·exact .inr ⟨q2.mpr (.inr p1),q3.mpr (.inr p2)⟩
    rcases main with m | ⟨m1,m2⟩
    ·rw [m]
     split
     ·rw [decide_eq_false n2]; rfl
     ·rfl
    ·rw [if_pos m1,m2,decide_eq_false n2]; simp
  ·obtain ⟨g1,n1⟩:=out h1
   rw [a2S]
   unfold a6G
   rw [if_neg n1]
   rcases List.mem_append.mp h2 with h2 | h2
   ·rw [ih.gone x u hx g1 h2,ih.gone w u wn wS h2]
    split <;> rfl
   ·have e:=List.mem_singleton.mp h2
    subst e
    split
    ·simp
    ·rename_i c; simpa using c
theorem b1N {n:Nat} {ts:List ζζ} {S:List Nat} (nd:S.Nodup) (hn:∀ a ∈ S,a < n):RunP n ts S:=b4Z S.length S rfl nd hn
end K
namespace K
open PySem L2 Lw Bg
theorem b5A (p:Nat->Bool):∀ l:List Nat,l.filterMap (λ u=>if p u = true then some (V.int ((u:Nat):Int)) else none) = natV (l.filter p)
 | []=>rfl
 | a :: r=>by
  have ih:=b5A p r
  rw [List.filter_cons]
  by_cases c:p a = true
  ·rw [if_pos c,List.filterMap_cons_some (by rw [if_pos c]),ih]; rfl
  ·rw [if_neg c,List.filterMap_cons_none (by rw [if_neg c]),ih]
theorem b1O {α β:Type} {f g:α->Option β}:∀ {l:List α},(∀ a ∈ l,f a = g a)->l.filterMap f = l.filterMap g
 | [],_=>rfl
 | a :: r,h=>by
  have ih:=b1O (f:=f) (g:=g) (l:=r) λ x hx=>h x (List.mem_cons_of_mem _ hx)
  rw [List.filterMap_cons,List.filterMap_cons,h a List.mem_cons_self,ih]
abbrev c0D:Stmt:=top 29
theorem sc_folds:FnScope ["graph", "bags", "sizes", "steps", "v"] ["graph"] (a0E c0D):=⟨rfl,rfl,rfl,by decide +kernel,rfl,by decide +kernel,by decide +kernel⟩
abbrev a3S:Stmt:=top 30
theorem sc_first_to_fold:FnScope ["bags", "sizes", "v", "bag"] ["bags", "sizes"] (a0E a3S):=⟨rfl,rfl,rfl,by decide +kernel,rfl,by decide +kernel,by decide +kernel⟩
def a1Y (ms:List Nat) (v:Nat):Bool:=decide (ms.getD v 0 ≠ 0) && decide (popF (ms.getD v 0) <= 3)
def c7I (n:Nat) (ms:List Nat) (x:V):Prop:=(∃ v:Nat,v < n/\x = .int (v:Int)/\a1Y ms v = true/\∀ u < v,a1Y ms u = false)\/(x = .non/\∀ u < n,a1Y ms u = false)
theorem c0E {v:Nat}:∀ {l:List Nat},l.Nodup->v ∈ l->(l.filter λ u=>!decide (u = v)).length + 1 = l.length
 | [],_,h=>absurd h List.not_mem_nil
 | a :: r,nd,h=>by
  obtain ⟨n1,n2⟩:=List.nodup_cons.mp nd
  rw [List.filter_cons]
  by_cases c:a = v
  ·subst c
   have e:r.filter (λ u=>!decide (u = a)) = r:=List.filter_eq_self.mpr λ x hx=>by
    have:x ≠ a:=λ z=>n1 (by rw [<- z]; exact hx)
    simpa using this
   rw [decide_eq_true rfl,if_neg (by decide),e]; rfl
  ·have hr:v ∈ r:=(List.mem_cons.mp h).resolve_left λ z=>c z.symm
   have ih:=c0E n2 hr
   rw [decide_eq_false c,if_pos (show (!false) = true from rfl)]
   show (r.filter _).length + 1 + 1 = r.length + 1
   omega
theorem a7G {n:Nat} {ms:List Nat} {R:Nat->Nat->Bool} {v:Nat} (b:BagsM n ms R) (hv:v < n) (hR:R v v = true):popF (ms.getD v 0) = (a1K n R v).length + 1:=by
 unfold popF
 rw [a4H b hv]
 have h:=c0E (v:=v) (l:=(List.range n).filter λ u=>R v u) (List.nodup_range.sublist List.filter_sublist) (List.mem_filter.mpr ⟨List.mem_range.mpr hv,hR⟩)
 rw [List.filter_filter] at h
 have e:(List.range n).filter (λ u=>!decide (u = v) && R v u) = a1K n R v:=by
  unfold a1K
  exact List.filter_congr λ u _=>Bool.and_comm _ _
 rw [e] at h
 exact h.symm
theorem a6M {n:Nat} {ts:List ζζ}:∀ (k:Nat) (S:List Nat),S.length = k->∀ x ∈ S,∀ u,runR n ts S x u = false
 | 0,S,hl,x,hx,_=>by rw [List.eq_nil_of_length_eq_zero hl] at hx; exact absurd hx List.not_mem_nil
 | k + 1,S,hl,x,hx,u=>by
  have hne:S ≠ []:=λ z=>by rw [z] at hl; cases hl
  obtain ⟨S',w,rfl⟩:∃ S' w,S = S' ++ [w]:=⟨S.dropLast,S.getLast hne,(List.dropLast_concat_getLast hne).symm⟩
  rw [a2S]
  unfold a6G
  by_cases c:x = w
  ·rw [if_pos c]
  ·have hx':x ∈ S':=by
    rcases List.mem_append.mp hx with h | h
    ·exact h
    ·exact absurd (List.mem_singleton.mp h) c
   have ih:=a6M (n:=n) (ts:=ts) k S' (by rw [List.length_append] at hl; exact Nat.succ.inj hl) x hx'
   rw [if_neg c,ih w,if_neg Bool.false_ne_true]
   exact ih u
theorem live {n:Nat} {ts:List ζζ} {S ms:List Nat} (b:BagsM n ms (runR n ts S)) (nd:S.Nodup) (hS:∀ x ∈ S,x < n) {v:Nat} (hv:v < n):ms.getD v 0 ≠ 0 ↔ v ∉ S:=by
 constructor
 ·intro h hm
  refine h (Nat.eq_of_testBit_eq λ i=>?_)
  rw [b.bit v hv i,a6M S.length S rfl v hm i,Nat.zero_testBit]
 ·intro h z
  have:=b.bit v hv v
  rw [z,Nat.zero_testBit,((b1N nd hS).path v v hv hv h h).mpr (.inl rfl)] at this
  cases this
theorem b5B {n:Nat} {ts:List ζζ} {S T:List Nat} {j:Nat} (h:j < S.length):a1A n ts (S ++ T) j = a1A n ts S j:=by
 unfold a1A
 rw [List.take_append_of_le_length (by omega),τα,List.getElem?_append_left h,<- τα]
theorem b1P {n:Nat} {ts:List ζζ} {S:List Nat} {v:Nat}:a1A n ts (S ++ [v]) S.length = a1K n (runR n ts S) v:=by
 unfold a1A
 rw [List.take_left',τα,List.getElem?_append_right (Nat.le_refl _),Nat.sub_self]
 ·rfl
 ·rfl
structure StepL (H:Hp) (ps qs:List Addr) (n:Nat) (ts:List ζζ) (S:List Nat):Prop where
 lp:ps.length = S.length
 lq:qs.length = S.length
 tup:∀ (j:Nat) p,ps[j]? = some p->∀ v q,S[j]? = some v->qs[j]? = some q->H p = some (.tup [.int (v:Int),.ref q])/\H q = some (.lst (natV (a1A n ts S j)))
theorem StepL.mono {H H':Hp} {ps qs:List Addr} {n:Nat} {ts:List ζζ} {S:List Nat} (st:StepL H ps qs n ts S) (k:∀ b u,H b = some u->(∃ j:Nat,ps[j]? = some b\/qs[j]? = some b)->H' b = some u):StepL H' ps qs n ts S :=
 ⟨st.lp,st.lq,λ j p hp v q hv hq=>⟨k _ _ (st.tup j p hp v q hv hq).1 ⟨j,.inl hp⟩,k _ _ (st.tup j p hp v q hv hq).2 ⟨j,.inr hq⟩⟩⟩
theorem StepL.snoc {H:Hp} {ps qs:List Addr} {n:Nat} {ts:List ζζ} {S:List Nat} {p q:Addr} {v:Nat} (st:StepL H ps qs n ts S) (h1:H p = some (.tup [.int (v:Int),.ref q])) (h2:H q = some (.lst (natV (a1K n (runR n ts S) v)))):StepL H (ps ++ [p]) (qs ++ [q]) n ts (S ++ [v]):=by
 have lp:=st.lp
 have lq:=st.lq
 refine ⟨by rw [List.length_append,List.length_append,st.lp]; rfl,by rw [List.length_append,List.length_append,st.lq]; rfl,λ j p' hp w q' hw hq=>?_⟩
 by_cases c:j < S.length
 ·rw [List.getElem?_append_left (by omega)] at hp hw hq
  rw [b5B c]
  exact st.tup j p' hp w q' hw hq
 ·rw [List.getElem?_append_right (by omega)] at hp hw hq
  cases z:j - S.length with
  | zero =>
   rw [lp,z] at hp
   rw [z] at hw
   rw [lq,z] at hq
   simp at hp hw hq
   have:j = S.length:=by omega
   subst this
   rw [b1P,<- hp,<- hw,<- hq]
   exact ⟨h1,h2⟩
  | succ k=>rw [z] at hw; simp at hw
def a5N (n:Nat) (S:List Nat):List Nat:=(List.range n).filter λ u=>!decide (u ∈ S)
structure FoldRun (n:Nat) (ts:List ζζ) (S:List Nat):Prop where
 nd:S.Nodup
 lt:∀ x ∈ S,x < n
 few:∀ j < S.length,(a1A n ts S j).length <= 2
 least:∀ (j v:Nat),S[j]? = some v->∀ u < v,u ∉ S.take j->3 <= (a1K n (runR n ts (S.take j)) u).length
def b3J (K:Φρ):Sp:=λ vs H Q _=>∃ (a z:Addr) (n:Nat) (ms:List Nat) (R:Nat->Nat->Bool),vs = [.ref a,.ref z]/\SqL K H a (natV ms)/\BagsM n ms R/\SqL K H z (a3C (2 ^ n))/\∀ x H',Same H H'->c7I n ms x->Q x H'
def c7J (K:Φρ):Sp:=λ vs H Q _=>∃ (g:V) (n:Nat) (ts:List ζζ),vs = [g]/\GraphV K H g n ts/\(∀ t ∈ ts,0 <= t.1/\t.1 < t.2/\t.2 < (n:Int))/\n <= 10 /\
 ∀ p pst pl ps qs S H',Same H H'->H' p = some (.tup [.ref pst,.ref pl])->H' pst = some (.lst (ps.map V.ref))->StepL H' ps qs n ts S->H' pl = some (.lst (natV (a5N n S)))->FoldRun n ts S->(∀ v < n,v ∉ S->3 <= (a1K n (runR n ts S) v).length)->(∀ q ∈ qs,H q = none)->H pl = none->Q (.ref p) H'
theorem d0A {n:Nat} {ms:List Nat} {R:Nat->Nat->Bool} (b:BagsM n ms R) {v:Nat} (hv:v < n):ms.getD v 0 < 2 ^ n:=a5K λ u hu=>by
 rw [b.bit v hv u] at hu
 exact (b.far v u hu).2
section
variable {P:Program} {w:World} {K:Φρ} {mg:Str->Option Value} {base:Heap}
abbrev DZ9 (K:PySem.W.Frag) (mg:Str->Option Value):=Dn K mg "first_to_fold" a3S ["bags", "sizes"]
set_option maxHeartbeats 4000000 in
theorem a6H (B:Bl mg) (dZ9:DZ9 K mg):FnOk P w K mg base CX0 1 dZ9.f dZ9.fd ["bags", "sizes"] (b3J K):=by
 refine dZ9.F.ok sc_first_to_fold (λ vs H Q E h=>?_) (λ cdv A outer s H vs Q E hr h=>?_)
 ·obtain ⟨a,z,n,ms,R,rfl,_⟩:=h
  rfl
 obtain ⟨a,z,n,ms,R,rfl,hA,BM,hZ,q⟩:=h
 have lm:=BM.len
 refine ⟨_,(a0C (a1U PassesOwn.never rfl (b2P (K:=K) rfl rfl B.enumerate (a0A (pv 0) a0B)) (a2W (K:=K) (n:=2) rfl rfl (a0Y (a0H (i:=2) sc_first_to_fold.nd rfl (Or.inl rfl)) (a0Y (a0H (i:=3) sc_first_to_fold.nd rfl (Or.inl rfl)) a2V)))
   (a0D (a2Y (PW.pt (c8I (a0W (K:=K) rfl (pv 3) (λ _=>rfl)) (c5C (a0O c8Q (a0U (a0I (K:=K) rfl) (pv 1) (pv 3) (λ _ _=>rfl)) a0G (a1J _)))))
   (a0D (a0K (pv 2)))
   a1O)))
   (a0D (a0K a5S))),?_⟩
 refine ⟨_,rfl,a,rfl,⟨_,hA⟩,?_⟩
 refine b3V (xs:=natV ms) (λ i σ H'=>∃ (vv bb:Option V),σ = [some (.ref a),some (.ref z),vv,bb]/\Same H H'/\∀ u < i,a1Y ms u = false) ⟨none,none,rfl,Same.refl _,λ u h=>absurd h (Nat.not_lt_zero _)⟩ (λ i σ H' _ ⟨_,_,_,s,_⟩=>s.seq hA) ?_ ?_
 ·rintro i x σ H1 p H2 hx ⟨vv,bb,rfl,s1,no⟩ n2
  rw [List.getElem?_map] at hx
  obtain ⟨m,hm,rfl⟩:=Option.map_eq_some_iff.mp hx
  have il:i < ms.length:=(List.getElem?_eq_some_iff.mp hm).1
  have em:ms.getD i 0 = m:=by rw [τα,hm]; rfl
  have ml:m < 2 ^ n:=by rw [<- em]; exact d0A BM (by omega)
  have s2:=s1.trans n2.same
  refine ⟨p,_,rfl,SqT.of n2.here,rfl,_,_,rfl,_,_,rfl,rfl,?_⟩
  have next:a1Y ms i = false->∀ u < i + 1,a1Y ms u = false:=λ f u hu=>by
   by_cases c:u = i
   ·rw [c]; exact f
   ·exact no u (by omega)
  refine ⟨_,rfl,_,rfl,?_⟩
  by_cases c:m = 0
  ·rw [show (((m:Nat):Int) != 0) = false by rw [c]; rfl]
   exact iteF ⟨_,_,rfl,s2,next (by unfold a1Y; rw [em,c]; rfl)⟩
  ·rw [show (((m:Nat):Int) != 0) = true by simpa using c]
   refine iteT ?_
   refine ⟨_,rfl,_,rfl,z,_,_,_,rfl,rfl,s2.seq hZ,b1M ml,_,_,rfl,rfl,_,rfl,?_⟩
   refine ite2 (λ d=>?_) (λ d=>?_)
   ·have d':((popF m:Nat):Int) <= 3:=of_decide_eq_true d
    exact ⟨_,rfl,q _ H2 s2 (.inl ⟨i,by omega,rfl,by unfold a1Y; rw [em,decide_eq_true c,decide_eq_true (show popF m <= 3 by omega)]; rfl,no⟩)⟩
   ·have d':¬ ((popF m:Nat):Int) <= 3:=of_decide_eq_false (Bool.eq_false_iff.mpr d)
    exact ⟨_,_,rfl,s2,next (by unfold a1Y; rw [em,decide_eq_false (show ¬ popF m <= 3 by omega),Bool.and_false])⟩
 ·rintro σ H1 ⟨vv,bb,rfl,s1,no⟩
  rw [List.length_map,lm] at no
  exact q _ H1 s1 (.inr ⟨rfl,no⟩)
abbrev DZ10 (K:PySem.W.Frag) (mg:Str->Option Value):=Dn K mg "folds" c0D ["graph"]
set_option maxHeartbeats 8000000 in
theorem b5C (B:Bl mg) (dZ20:DZ20 K mg) (dZ28:DZ28 K mg) (dZ23:DZ23 K mg) (dZ8:DZ8 K mg) (dZ33:DZ33 K mg) (dZ10:DZ10 K mg) (dZ9:DZ9 K mg):FnOk P w K mg base CX0 3 dZ10.f dZ10.fd ["graph"] (c7J K):=by
 have gZ8:FnOk P w K mg base CX0 2 _ _ _ _:=(a4Y B dZ8).mono (by decide)
 have gZ23:FnOk P w K mg base CX0 2 _ _ _ _:=(a9N B dZ23).mono (by decide)
 have gZ33:FnOk P w K mg base CX0 2 _ _ _ _:=(a6C B dZ33).mono (by decide)
 have gZ28:FnOk P w K mg base CX0 2 _ _ _ _:=(a6B B dZ28).mono (by decide)
 have gZ20:FnOk P w K mg base CX0 2 _ _ _ _:=(a5M B dZ20).mono (by decide)
 have gZ9:FnOk P w K mg base CX0 2 _ _ _ _:=(a6H B dZ9).mono (by decide)
 refine dZ10.F.ok sc_folds (λ vs H Q E h=>?_) (λ cdv A outer s H vs Q E hr h=>?_)
 ·obtain ⟨g,n,ts,rfl,_⟩:=h
  rfl
 obtain ⟨g,n,ts,rfl,hG,okt,n10,q⟩:=h
 obtain ⟨pg,ta,rfl,hP,hT⟩:=id hG
 refine ⟨_,(a0C (a0L (i:=1) sc_folds.nd rfl (Or.inl rfl) (a0F gZ8 hr rfl dZ8.m dZ8.F.kp dZ8.b .nil a0M (a0A (pv 0) a0B)))
   (a0C (a0L (i:=2) sc_folds.nd rfl (Or.inl rfl) (a0F gZ23 hr rfl dZ23.m dZ23.F.kp dZ23.b .nil a0M (a0A (a0U (a1P (K:=K) rfl) (pv 0) a0G (λ _ _=>rfl)) a0B)))
   (a0C (a0L (i:=3) sc_folds.nd rfl (Or.inl rfl) (a1G a0B))
   (a0C (a0L (i:=4) sc_folds.nd rfl (Or.inl rfl) (a0F gZ9 hr rfl dZ9.m dZ9.F.kp dZ9.b .nil a0M (a0A (pv 1) (a0A (pv 2) a0B))))
   (a0C (a4N PassesOwn.never (a0O c5F (pv 4) a5S (a1J _))
   (a0C (a2L (a3A (K:=K) rfl PySem.F.plainAttrs_list PySem.F.slot_list_append PySem.F.type_list_append a2A (pv 3) (a0A (a1W (a0A (pv 4) (a0A (a0F gZ20 hr rfl dZ20.m dZ20.F.kp dZ20.b .nil a0M (a0A (a0F gZ28 hr rfl dZ28.m dZ28.F.kp dZ28.b .nil a0M (a0A (a0U (a0I (K:=K) rfl) (pv 1) (pv 4) (λ _ _=>rfl)) a0B)) (a0A (a1G (a0A (pv 4) a0B)) a0B))) a0B))) a0B)))
   (a0C (a0L (i:=1) sc_folds.nd rfl (Or.inl rfl) (a0F gZ33 hr rfl dZ33.m dZ33.F.kp dZ33.b .nil a0M (a0A (pv 1) (a0A (pv 4) a0B))))
   (a0D (a0L (i:=4) sc_folds.nd rfl (Or.inl rfl) (a0F gZ9 hr rfl dZ9.m dZ9.F.kp dZ9.b .nil a0M (a0A (pv 1) (a0A (pv 2) a0B))))))))
   (a0D (a0K (a1W (a0A (pv 3) (a0A (a3K ["u", "bag"] [none,none]  (by kernel_rfl) rfl (b2P (K:=K) rfl rfl B.enumerate (a0A (pv 1) a0B)) (λ _ _ _ _ _=>(a2W (K:=K) (n:=2) rfl rfl (a0Y (a0H (i:=0) (show (["u", "bag"]:List Str).Nodup by decide +kernel) rfl (Or.inl rfl)) (a0Y (a0H (i:=1) (show (["u", "bag"]:List Str).Nodup by decide +kernel) rfl (Or.inl rfl)) a2V)))) (λ _ _ _ _ _=>(a2O (a0W (K:=K) rfl (pv 1) (λ _=>rfl)))) (λ _ _ _ _ _=>(pv 0))) a0B)))))))))),?_⟩
 refine ⟨_,rfl,.ref pg,n,ts,rfl,hG,okt,n10,λ pb ms H2 s2 f2 hb2 BM=>?_⟩
 refine ⟨_,rfl,pg,_,_,_,rfl,rfl,s2.tupq hP,rfl,n,rfl,n10,λ pz H3 n3=>?_⟩
 refine ⟨(by show 0 <= 1000; decide),λ pst H4 n4=>?_⟩
 have s4:Same H H4:=s2.trans (n3.same.trans n4.same)
 have hz4:H4 pz = some (.lst (a3C (2 ^ n))):=n4.same _ _ n3.here
 have hb4:H4 pb = some (.lst (natV ms)):=n4.same _ _ (n3.same _ _ hb2)
 have fst:H pst = none:=(s2.trans n3.same).free n4.fresh
 have nzs:pz ≠ pst:=n4.ne n3.here
 refine ⟨_,rfl,_,rfl,pb,pz,n,ms,_,rfl,SqL.of hb4,BM,SqL.of hz4,λ x0 H5 s5 fr5=>?_⟩
 refine ⟨λ m σ H'=>∃ (pb:Addr) (x:V) (S ms:List Nat) (ps qs:List Addr),m = n - S.length/\σ = [some (.ref pg),some (.ref pb),some (.ref pz),some (.ref pst),some x]/\Same H H'/\H' pb = some (.lst (natV ms))/\pb ≠ pst/\BagsM n ms (runR n ts S)/\FoldRun n ts S/\c7I n ms x /\
   H' pz = some (.lst (a3C (2 ^ n)))/\H' pst = some (.lst (ps.map V.ref))/\StepL H' ps qs n ts S/\(∀ p ∈ ps,p ≠ pst)/\∀ p ∈ qs,p ≠ pst/\H p = Option.none,
  ⟨_,pb,x0,[],ms,[],[],rfl,rfl,s4.trans s5,s5 _ _ hb4,n4.ne (n3.same _ _ hb2),BM,⟨.nil,λ x h=>absurd h List.not_mem_nil,λ j h=>absurd h (Nat.not_lt_zero _),λ j v e=>by simp at e⟩,fr5,s5 _ _ hz4,s5 _ _ n4.here,⟨rfl,rfl,λ j p e=>by simp at e⟩,λ p h=>absurd h List.not_mem_nil,λ p h=>absurd h List.not_mem_nil⟩,?_⟩
 rintro m σ H6 ⟨pb,x,S,ms,ps,qs,rfl,rfl,s6,hb6,nbs,BM,FR,fr,hz6,hst6,st,pps,pqs⟩
 have nd:=FR.nd
 have hS:=FR.lt
 have few:=FR.few
 refine ⟨_,rfl,rfl,_,rfl,?_⟩
 rcases fr with ⟨v,vn,rfl,fv,leastv⟩ | ⟨rfl,nofold⟩
 ·refine iteT ?_
  unfold a1Y at fv
  rw [Bool.and_eq_true,decide_eq_true_iff,decide_eq_true_iff] at fv
  have vS:v ∉ S:=(live BM nd hS vn).mp fv.1
  have hR:runR n ts S v v = true:=((b1N nd hS).path v v vn vn vS vS).mpr (.inl rfl)
  have pl:=a7G BM vn hR
  have BM0:=BM
  have nd':(S ++ [v]).Nodup:=List.nodup_append.mpr ⟨nd,List.nodup_cons.mpr ⟨List.not_mem_nil,.nil⟩,λ a ha b hb z=>vS (by rw [<- List.mem_singleton.mp hb,<- z]; exact ha)⟩
  have hS':∀ x ∈ S ++ [v],x < n:=λ x hx=>by
   rcases List.mem_append.mp hx with h | h
   ·exact hS x h
   ·rw [List.mem_singleton.mp h]; exact vn
  have ln':=a4X nd' hS'
  rw [List.length_append] at ln'
  have ln'':S.length + 1 <= n:=ln'
  refine ⟨λ σ' H'=>∃ (pb:Addr) (x:V) (ms:List Nat) (ps qs:List Addr),σ' = [some (.ref pg),some (.ref pb),some (.ref pz),some (.ref pst),some x]/\Same H H'/\H' pb = some (.lst (natV ms))/\pb ≠ pst/\BagsM n ms (runR n ts (S ++ [v]))/\c7I n ms x /\
   H' pz = some (.lst (a3C (2 ^ n)))/\H' pst = some (.lst (ps.map V.ref))/\StepL H' ps qs n ts (S ++ [v])/\(∀ p ∈ ps,p ≠ pst)/\∀ p ∈ qs,p ≠ pst/\H p = Option.none,?_,?_⟩
  ·rintro σ' H' ⟨pb,x,ms,ps,qs,rfl,h1,h2,h3,h4,h5,h6,h7,h8,h9,h10⟩
   refine ⟨n - (S ++ [v]).length,by rw [List.length_append]; show n - (S.length + 1) < n - S.length; omega,pb,x,S ++ [v],ms,ps,qs,rfl,rfl,h1,h2,h3,h4,⟨nd',hS',λ j hj=>?_,λ j w hw u hu hg=>?_⟩,h5,h6,h7,h8,h9,h10⟩
   ·by_cases c:j < S.length
    ·rw [b5B c]; exact few j c
    ·rw [List.length_append] at hj
     have:j = S.length:=by
      have:j < S.length + 1:=hj
      omega
     rw [this,b1P]
     omega
   ·by_cases c:j < S.length
    ·rw [List.take_append_of_le_length (by omega)] at hg ⊢
     rw [List.getElem?_append_left c] at hw
     exact FR.least j w hw u hu hg
    ·have hj2:=(List.getElem?_eq_some_iff.mp hw).1
     rw [List.length_append] at hj2
     have ej:j = S.length:=by
      have:j < S.length + 1:=hj2
      omega
     subst ej
     rw [List.take_left' rfl] at hg ⊢
     rw [List.getElem?_append_right (Nat.le_refl _),Nat.sub_self] at hw
     simp at hw
     subst hw
     have un:u < n:=by omega
     have hRu:runR n ts S u u = true:=((b1N nd hS).path u u un un hg hg).mpr (.inl rfl)
     have plu:=a7G BM0 un hRu
     have nf:=leastv u hu
     unfold a1Y at nf
     rw [decide_eq_true ((live BM0 nd hS un).mpr hg),Bool.true_and] at nf
     have:=of_decide_eq_false nf
     omega
  have lv:v < ms.length:=by rw [BM.len]; exact vn
  refine ⟨_,rfl,.inl ⟨rfl,_,SqL.of hst6⟩,_,rfl,_,rfl,_,rfl,pb,_,_,_,rfl,rfl,SqL.of hb6,a4K lv,_,rfl,BM.mlt vn,λ H7 pp H8 s7 n8=>?_⟩
  refine ⟨_,rfl,(by show 1 <= 1000; decide),λ p9 H9 n9=>?_⟩
  have hpp:SqL K H9 pp ((a2D (ms.getD v 0)).map (λ (x:Nat)=>(x:Int)) |>.map V.int):=by rw [<- a0S]; exact SqL.of (n9.same _ _ n8.here)
  have hz:(a2D (ms.getD v 0)).length <= 10:=by
   unfold a2D
   refine Nat.le_trans (List.length_filter_le _ _) ?_
   simp
  refine ⟨pp,p9,_,[(v:Int)],rfl,hpp,SqL.of n9.here,by rw [List.length_map]; omega,λ H10 pq H11 s10 n11=>?_⟩
  rw [b4X,a4H BM vn,List.filter_filter,<- a0S] at n11
  have el:(List.range n).filter (λ u=>!decide (u = v) && runR n ts S v u) = a1K n (runR n ts S) v:=by
   unfold a1K
   exact List.filter_congr λ u _=>Bool.and_comm _ _
  rw [el] at n11
  refine ⟨(by show 2 <= 1000; decide),λ pt H12 n12=>?_⟩
  have s612:Same H6 H12:=s7.trans (n8.same.trans (n9.same.trans (s10.trans (n11.same.trans n12.same))))
  have hst12:=s612 _ _ hst6
  have lps:=st.lp
  refine ⟨pst,_,_,rfl,rfl,hst12,by rw [List.length_map]; omega,λ H13 c13=>?_⟩
  have keep:∀ b u,b ≠ pst->H6 b = some u->H13 b = some u:=λ b u hb e=>(c13.rest b hb).trans (s612 _ _ e)
  have s13:Same H H13:=(s6.trans s612).chg fst c13
  have npq:pq ≠ pst:=(n11.ne (s10 _ _ (n9.same _ _ (n8.same _ _ (s7 _ _ hst6))))).symm
  have npt:pt ≠ pst:=(n12.ne (n11.same _ _ (s10 _ _ (n9.same _ _ (n8.same _ _ (s7 _ _ hst6)))))).symm
  refine ⟨_,rfl,_,rfl,pb,n,ms,_,v,rfl,SqL.of (keep _ _ nbs hb6),BM,vn,λ pb2 H14 s14 f14 hb14=>?_⟩
  have BM2:BagsM n (a6Y v ms) (runR n ts (S ++ [v])):=by rw [a2S]; exact b8M BM vn
  have hz14:=s14 _ _ (keep _ _ nzs hz6)
  refine ⟨_,rfl,_,rfl,pb2,pz,n,a6Y v ms,_,rfl,SqL.of hb14,BM2,SqL.of hz14,λ x1 H15 s15 fr15=>?_⟩
  have s1315:=s14.trans s15
  refine ⟨pb2,x1,a6Y v ms,ps ++ [pt],qs ++ [pq],rfl,s13.trans s1315,s15 _ _ hb14,λ z=>?_,BM2,fr15,s15 _ _ hz14,?_,?_,λ p hp=>?_,λ p hp=>?_⟩
  ·rw [z,c13.here] at f14; cases f14
  ·rw [s1315 _ _ c13.here,List.map_append]; rfl
  ·refine StepL.snoc (st.mono λ b u e hj=>?_) (s1315 _ _ ((c13.rest pt npt).trans n12.here)) (s1315 _ _ ((c13.rest pq npq).trans (n12.same _ _ n11.here)))
   refine s1315 _ _ (keep b u ?_ e)
   obtain ⟨j,hj | hj⟩:=hj
   ·exact pps b (List.mem_of_getElem? hj)
   ·exact (pqs b (List.mem_of_getElem? hj)).1
  ·rcases List.mem_append.mp hp with h | h
   ·exact pps p h
   ·rw [List.mem_singleton.mp h]; exact npt
  ·rcases List.mem_append.mp hp with h | h
   ·exact pqs p h
   ·rw [List.mem_singleton.mp h]; exact ⟨npq,(s6.trans (s7.trans (n8.same.trans (n9.same.trans s10)))).free n11.fresh⟩
 ·refine iteF ?_
  refine ⟨_,rfl,_,rfl,pb,rfl,⟨_,SqL.of hb6⟩,?_⟩
  refine c5U (λ i x=>if decide (x ≠ .int 0) = true then some (.int ((i:Nat):Int)) else none) (SqL.of hb6) (by rw [List.length_map,BM.len]; omega) (λ i x H7 p H8 N hx s7 n8 hN=>?_) (λ H7 pl H8 s7 n8=>?_)
  ·rw [List.getElem?_map] at hx
   obtain ⟨y,hy,rfl⟩:=Option.map_eq_some_iff.mp hx
   have hN':=hN H8 (s7.trans n8.same)
   refine ⟨p,_,rfl,SqT.of n8.here,rfl,_,_,rfl,_,_,rfl,rfl,?_⟩
   refine ⟨_,rfl,_,rfl,?_⟩
   by_cases c:y = 0
   ·rw [show decide (V.int ((y:Nat):Int) ≠ .int 0) = false by rw [c]; decide] at hN'
    rw [show (((y:Nat):Int) != 0) = false by rw [c]; rfl]
    exact iteF hN'
   ·rw [show decide (V.int ((y:Nat):Int) ≠ .int 0) = true from decide_eq_true λ z=>c (by have:=V.int.inj z; omega)] at hN'
    rw [show (((y:Nat):Int) != 0) = true by simpa using c]
    exact iteT ⟨_,rfl,hN'⟩
  ·have e8:(List.range (natV ms).length).filterMap (λ i=>((natV ms)[i]?).bind ((λ (i:Nat) (x:V)=>if decide (x ≠ .int 0) = true then some (V.int ((i:Nat):Int)) else none) i)) = natV (a5N n S):=by
    rw [List.length_map,BM.len]
    unfold a5N
    rw [<- b5A]
    refine b1O λ i hi=>?_
    have hin:=List.mem_range.mp hi
    have hl:i < ms.length:=by rw [BM.len]; exact hin
    rw [List.getElem?_map,List.getElem?_eq_getElem hl]
    show (if decide (V.int ((ms[i]:Nat):Int) ≠ .int 0) = true then some (V.int ((i:Nat):Int)) else none) = _
    have eg:ms.getD i 0 = ms[i]:=by rw [τα,List.getElem?_eq_getElem hl]; rfl
    have lv:=live BM nd hS hin
    rw [eg] at lv
    have ed:decide (V.int ((ms[i]:Nat):Int) ≠ .int 0) = !decide (i ∈ S):=by
     rw [Bool.eq_iff_iff,decide_eq_true_iff]
     constructor
     ·intro h
      have:i ∉ S:=lv.mp λ z=>h (by rw [z]; rfl)
      simpa using this
     ·intro h z
      have h1:i ∉ S:=by simpa using h
      exact lv.mpr h1 (by have:=V.int.inj z; omega)
    rw [ed]
   rw [e8] at n8
   refine ⟨(by show 2 <= 1000; decide),λ p9 H9 n9=>?_⟩
   have s69:Same H6 H9:=s7.trans (n8.same.trans n9.same)
   refine q p9 pst pl ps qs S H9 (s6.trans s69) n9.here (s69 _ _ hst6) (st.mono λ b u e _=>s69 _ _ e) (n9.same _ _ n8.here) FR (λ v vn vS=>?_) (λ p hp=>(pqs p hp).2) ((s6.trans s7).free n8.fresh)
   have hR:runR n ts S v v = true:=((b1N nd hS).path v v vn vn vS vS).mpr (.inl rfl)
   have pl:=a7G BM vn hR
   have nf:=nofold v vn
   unfold a1Y at nf
   rw [decide_eq_true ((live BM nd hS vn).mpr vS),Bool.true_and] at nf
   have:=of_decide_eq_false nf
   omega
end
end K
namespace K
open PySem L2 Lw Bg
theorem b1Q {α β:Type} {l:List α} {f:α->β} (nd:l.Nodup) (inj:∀ x y,x ∈ l->y ∈ l->f x = f y->x = y):(l.map f).Nodup:=by
 induction l with
 | nil=>exact .nil
 | cons a r ih =>
  obtain ⟨n1,n2⟩:=List.nodup_cons.mp nd
  refine List.nodup_cons.mpr ⟨λ z=>?_,ih n2 λ x y hx hy=>inj x y (List.mem_cons_of_mem _ hx) (List.mem_cons_of_mem _ hy)⟩
  obtain ⟨b,hb,e⟩:=List.mem_map.mp z
  have:=inj b a (List.mem_cons_of_mem _ hb) List.mem_cons_self e
  exact n1 (this ▸ hb)
theorem pigN {α:Type} [DecidableEq α] {l U:List α} (nd:l.Nodup) (h:∀ x ∈ l,x ∈ U):l.length <= U.length:=by
 induction l generalizing U with
 | nil=>exact Nat.zero_le _
 | cons a r ih =>
  obtain ⟨n1,n2⟩:=List.nodup_cons.mp nd
  have am:=h a List.mem_cons_self
  have:=ih (U:=U.erase a) n2 λ x hx=>(List.mem_erase_of_ne (λ e=>n1 (by rw [<- e]; exact hx))).mpr (h x (List.mem_cons_of_mem _ hx))
  rw [List.length_erase_of_mem am] at this
  have:=List.length_pos_of_mem am
  rw [List.length_cons]; omega
theorem c0F {α:Type} [DecidableEq α] {l:List α} {v:α} (nd:l.Nodup):l.length <= (l.filter λ x=>!decide (x = v)).length + 1:=by
 have:=pigN (l:=l) (U:=v :: l.filter λ x=>!decide (x = v)) nd λ x hx=>by
  by_cases c:x = v
  ·rw [c]; exact List.mem_cons_self
  ·exact List.mem_cons_of_mem _ (List.mem_filter.mpr ⟨hx,by simp [c]⟩)
 rwa [List.length_cons] at this
section
variable {α β:Type} [DecidableEq α] [DecidableEq β]
def Few (V:α->Prop) (R:α->α->Prop) (v:α):Prop:=∀ U:List α,U.Nodup->(∀ u ∈ U,V u/\u ≠ v/\R v u)->U.length <= 2
def Wo (V:α->Prop) (v:α):α->Prop:=λ x=>V x/\x ≠ v
def El (R:α->α->Prop) (v:α):α->α->Prop:=λ x y=>R x y\/(R x v/\R v y)
def Mg (R:α->α->Prop) (a b:α):α->α->Prop:=λ x y=>R x y\/(x = a/\R b y)\/(y = a/\R x b)
inductive Fo:(α->Prop)->(α->α->Prop)->Prop
 | nil {V:α->Prop} {R:α->α->Prop}:(∀ x,¬ V x)->Fo V R
 | step {V:α->Prop} {R:α->α->Prop} (v:α):V v->Few V R v->Fo (Wo V v) (El R v)->Fo V R
theorem Fo.map {V:α->Prop} {R:α->α->Prop} (h:Fo V R):∀ {V':β->Prop} {R':β->β->Prop} (f:β->α),(∀ x,V' x->V (f x))->(∀ x y,V' x->V' y->f x = f y->x = y)->(∀ x y,V' x->V' y->x ≠ y->R' x y->R (f x) (f y))->Fo V' R':=by
 induction h with
 | nil e=>exact λ f hv _ _=>.nil λ x hx=>e _ (hv x hx)
 | @step V R v hv few _ ih =>
  intro V' R' f fV inj fR
  by_cases c:∃ x,V' x/\f x = v
  ·obtain ⟨x0,hx0,e0⟩:=c
   refine .step x0 hx0 (λ U nd hU=>?_) (ih f (λ x hx=>⟨fV x hx.1,λ z=>hx.2 (inj x x0 hx.1 hx0 (z.trans e0.symm))⟩) (λ x y hx hy=>inj x y hx.1 hy.1) λ x y hx hy ne h=>?_)
   ·have:=few (U.map f) (b1Q nd λ a b ha hb=>inj a b (hU a ha).1 (hU b hb).1) λ u hu=>by
     obtain ⟨w,hw,rfl⟩:=List.mem_map.mp hu
     obtain ⟨w1,w2,w3⟩:=hU w hw
     exact ⟨fV w w1,λ z=>w2 (inj w x0 w1 hx0 (z.trans e0.symm)),e0 ▸ fR x0 w hx0 w1 (Ne.symm w2) w3⟩
    rwa [List.length_map] at this
   ·rcases h with h | ⟨h1,h2⟩
    ·exact .inl (fR x y hx.1 hy.1 ne h)
    ·exact .inr ⟨e0 ▸ fR x x0 hx.1 hx0 hx.2 h1,e0 ▸ fR x0 y hx0 hy.1 (Ne.symm hy.2) h2⟩
  ·refine ih f (λ x hx=>⟨fV x hx,λ z=>c ⟨x,hx,z⟩⟩) inj λ x y hx hy ne h=>.inl (fR x y hx hy ne h)
theorem Fo.sub {V V':α->Prop} {R R':α->α->Prop} (h:Fo V R) (hV:∀ x,V' x->V x) (hR:∀ x y,V' x->V' y->x ≠ y->R' x y->R x y):Fo V' R' :=
 h.map id hV (λ _ _ _ _ e=>e) hR
theorem Fo.merge {V:α->Prop} {R:α->α->Prop} (h:Fo V R):∀ {a b:α},(∀ x y,R x y->R y x)->V a->V b->a ≠ b->R a b->Fo (Wo V b) (Mg R a b):=by
 induction h with
 | nil e=>exact λ _ ha=>absurd ha (e _)
 | @step V R v hv few hF ih =>
  intro a b sym ha hb ne hab
  by_cases vb:v = b
  ·subst vb
   refine hF.sub (λ x hx=>hx) λ x y hx hy nxy h=>?_
   rcases h with h | ⟨rfl,h⟩ | ⟨rfl,h⟩
   ·exact .inl h
   ·exact .inr ⟨hab,h⟩
   ·exact .inr ⟨h,sym _ _ hab⟩
  by_cases va:v = a
  ·subst va
   refine hF.map (λ x=>if x = v then b else x) (λ x hx=>?_) (λ x y hx hy e=>?_) λ x y hx hy nxy h=>?_
   ·skip
    split
    ·exact ⟨hb,Ne.symm ne⟩
    ·rename_i c
     exact ⟨hx.1,c⟩
   ·skip
    split at e <;> split at e
    ·rename_i c d; rw [c,d]
    ·exact absurd e.symm hy.2
    ·exact absurd e hx.2
    ·exact e
   ·skip
    by_cases c:x = v
    ·rw [if_pos c]
     have ny:y ≠ v:=λ z=>nxy (c.trans z.symm)
     rw [if_neg ny]
     rcases h with h | ⟨_,h⟩ | ⟨h,_⟩
     ·rw [c] at h
      exact .inr ⟨sym _ _ hab,h⟩
     ·exact .inl h
     ·exact absurd h ny
    ·rw [if_neg c]
     by_cases d:y = v
     ·rw [if_pos d]
      rcases h with h | ⟨h,_⟩ | ⟨_,h⟩
      ·rw [d] at h
       exact .inr ⟨h,hab⟩
      ·exact absurd h c
      ·exact .inl h
     ·rw [if_neg d]
      rcases h with h | ⟨h,_⟩ | ⟨h,_⟩
      ·exact .inl h
      ·exact absurd h c
      ·exact absurd h d
  ·have symE:∀ x y,El R v x y->El R v y x:=λ x y h=>by
    rcases h with h | ⟨h1,h2⟩
    ·exact .inl (sym _ _ h)
    ·exact .inr ⟨sym _ _ h2,sym _ _ h1⟩
   have F1:=ih symE ⟨ha,Ne.symm va⟩ ⟨hb,Ne.symm vb⟩ ne (.inl hab)
   refine .step v ⟨hv,vb⟩ (λ U nd hU=>?_) (F1.sub (λ x hx=>⟨⟨hx.1.1,hx.2⟩,hx.1.2⟩) λ x y hx hy nxy h=>?_)
   ·by_cases c:R v a
    ·refine few U nd λ u hu=>?_
     obtain ⟨⟨u1,u2⟩,u3,u4⟩:=hU u hu
     refine ⟨u1,u3,?_⟩
     rcases u4 with h | ⟨h,_⟩ | ⟨h,_⟩
     ·exact h
     ·exact absurd h va
     ·rw [h]; exact c
    ·have:=few (U.map λ x=>if x = a then b else x) (b1Q nd λ x y hx hy e=>?_) λ u hu=>?_
     ·rwa [List.length_map] at this
     ·obtain ⟨⟨_,x2⟩,_,_⟩:=hU x hx
      obtain ⟨⟨_,y2⟩,_,_⟩:=hU y hy
      split at e <;> split at e
      ·rename_i c d; rw [c,d]
      ·exact absurd e.symm y2
      ·exact absurd e x2
      ·exact e
     ·obtain ⟨x,hx,rfl⟩:=List.mem_map.mp hu
      obtain ⟨⟨x1,x2⟩,x3,x4⟩:=hU x hx
      split
      ·rename_i d
       refine ⟨hb,Ne.symm vb,?_⟩
       rcases x4 with h | ⟨h,_⟩ | ⟨_,h⟩
       ·rw [d] at h; exact absurd h c
       ·exact absurd h va
       ·exact h
      ·rename_i d
       refine ⟨x1,x3,?_⟩
       rcases x4 with h | ⟨h,_⟩ | ⟨h,_⟩
       ·exact h
       ·exact absurd h va
       ·exact absurd h d
   ·rcases h with h | ⟨h1,h2⟩
    ·rcases h with h | ⟨e,h⟩ | ⟨e,h⟩
     ·exact .inl (.inl h)
     ·exact .inr (.inl ⟨e,.inl h⟩)
     ·exact .inr (.inr ⟨e,.inl h⟩)
    ·have h1':R x v\/(x = a/\R b v):=by
      rcases h1 with h | h | ⟨h,_⟩
      ·exact .inl h
      ·exact .inr h
      ·exact absurd h va
     have h2':R v y\/(y = a/\R v b):=by
      rcases h2 with h | ⟨h,_⟩ | h
      ·exact .inl h
      ·exact absurd h va
      ·exact .inr h
     rcases h1' with h1 | ⟨ex,h1⟩
     ·rcases h2' with h2 | ⟨ey,h2⟩
      ·exact .inl (.inr ⟨h1,h2⟩)
      ·exact .inr (.inr ⟨ey,.inr ⟨h1,h2⟩⟩)
     ·rcases h2' with h2 | ⟨ey,h2⟩
      ·exact .inr (.inl ⟨ex,.inr ⟨h1,h2⟩⟩)
      ·exact absurd (ex.trans ey.symm) nxy
theorem Fo.out {V:α->Prop} {R:α->α->Prop} {v:α} (h:Fo V R) (sym:∀ x y,R x y->R y x) (hv:V v) (few:Few V R v):Fo (Wo V v) (El R v):=by
 by_cases c:∃ a,V a/\a ≠ v/\R v a
 ·obtain ⟨a,ha,na,hR⟩:=c
  refine (h.merge sym ha hv na (sym _ _ hR)).sub (λ x hx=>hx) λ x y hx hy nxy e=>?_
  rcases e with e | ⟨e1,e2⟩
  ·exact .inl e
  by_cases xa:x = a
  ·exact .inr (.inl ⟨xa,e2⟩)
  by_cases ya:y = a
  ·exact .inr (.inr ⟨ya,e1⟩)
  have:=few [a,x,y] (by simp [Ne.symm xa,Ne.symm ya,nxy]) λ u hu=>by
   rcases List.mem_cons.mp hu with rfl | hu
   ·exact ⟨ha,na,hR⟩
   rcases List.mem_cons.mp hu with rfl | hu
   ·exact ⟨hx.1,hx.2,sym _ _ e1⟩
   ·rw [List.mem_singleton.mp hu]; exact ⟨hy.1,hy.2,e2⟩
  exact absurd this (by simp)
 ·refine h.sub (λ x hx=>hx.1) λ x y hx hy nxy e=>?_
  rcases e with e | ⟨e1,e2⟩
  ·exact e
  ·exact absurd ⟨y,hy.1,hy.2,e2⟩ c
theorem Fo.some_few {V:α->Prop} {R:α->α->Prop} (h:Fo V R) {x:α} (hx:V x):∃ v,V v/\Few V R v:=by
 cases h with
 | nil e=>exact absurd hx (e x)
 | step v hv few _=>exact ⟨v,hv,few⟩
theorem Fo.two {V:α->Prop} {R:α->α->Prop} (h:Fo V R):(∀ x y,R x y->R y x)->(∃ L:List α,L.Nodup/\L.length = 4/\∀ x ∈ L,V x)->∃ x y,V x/\V y/\x ≠ y/\¬ R x y/\Few V R x/\Few V R y:=by
 induction h with
 | nil e =>
  rintro _ ⟨L,_,l,hL⟩
  match L,l with
  | a :: _,_=>exact absurd (hL a List.mem_cons_self) (e a)
 | @step V R v hv few hF ih =>
  intro sym hL
  have symE:∀ x y,El R v x y->El R v y x:=λ x y h=>by
   rcases h with h | ⟨h1,h2⟩
   ·exact .inl (sym _ _ h)
   ·exact .inr ⟨sym _ _ h2,sym _ _ h1⟩
  by_cases c:∃ L:List α,L.Nodup/\L.length = 4/\∀ x ∈ L,Wo V v x
  ·obtain ⟨x,y,hx,hy,nxy,nR,fx,fy⟩:=ih symE c
   have one:∀ z,Wo V v z->¬ R v z->Few (Wo V v) (El R v) z->∃ x y,V x/\V y/\x ≠ y/\¬ R x y/\Few V R x/\Few V R y:=λ z hz nz fz=>by
    refine ⟨v,z,hv,hz.1,Ne.symm hz.2,nz,few,λ U nd hU=>fz U nd λ u hu=>?_⟩
    obtain ⟨u1,u2,u3⟩:=hU u hu
    exact ⟨⟨u1,λ e=>nz (sym _ _ (e ▸ u3))⟩,u2,.inl u3⟩
   by_cases d:R v x
   ·by_cases e:R v y
    ·exact absurd (.inr ⟨sym _ _ d,e⟩) nR
    ·exact one y hy e fy
   ·exact one x hx d fx
  ·obtain ⟨L,nd,l,hL⟩:=hL
   have l3:3 <= (L.filter λ x=>!decide (x = v)).length:=by
    have:L.length <= (L.filter λ x=>!decide (x = v)).length + 1:=c0F nd
    omega
   obtain ⟨p,hp,np⟩:∃ p,Wo V v p/\¬ R v p:=by
    refine Classical.byContradiction λ no=>?_
    have:=few (L.filter λ x=>!decide (x = v)) (nd.sublist List.filter_sublist) λ u hu=>by
     rw [List.mem_filter] at hu
     have uv:u ≠ v:=by simpa using hu.2
     refine ⟨hL u hu.1,uv,Classical.byContradiction λ nu=>no ⟨u,⟨hL u hu.1,uv⟩,nu⟩⟩
    omega
   refine ⟨v,p,hv,hp.1,Ne.symm hp.2,np,few,λ U ndU hU=>?_⟩
   refine Classical.byContradiction λ big=>c ⟨p :: U.take 3,?_,?_,λ x hx=>?_⟩
   ·refine List.nodup_cons.mpr ⟨λ z=>(hU p (List.mem_of_mem_take z)).2.1 rfl,ndU.sublist (List.take_sublist _ _)⟩
   ·rw [List.length_cons,List.length_take]; omega
   ·rcases List.mem_cons.mp hx with rfl | hx
    ·exact hp
    ·obtain ⟨u1,u2,u3⟩:=hU x (List.mem_of_mem_take hx)
     exact ⟨u1,λ e=>np (sym _ _ (e ▸ u3))⟩
theorem c0G {V:α->Prop} {R:α->α->Prop} (sym:∀ x y,R x y->R y x) (hF:¬ Fo V R) (del:∀ v,V v->Fo (Wo V v) R) (con:∀ a b,V a->V b->a ≠ b->R a b->Fo (Wo V b) (Mg R a b)) {L:List α} (nd:L.Nodup) (mem:∀ x,x ∈ L ↔ V x):L.length = 4/\∀ x ∈ L,∀ y ∈ L,x ≠ y->R x y:=by
 have nofew:∀ v,V v->¬ Few V R v:=λ v hv few=>by
  refine hF (.step v hv few ?_)
  by_cases c:∃ a,V a/\a ≠ v/\R v a
  ·obtain ⟨a,ha,na,hR⟩:=c
   refine (con a v ha hv na (sym _ _ hR)).sub (λ x hx=>hx) λ x y hx hy nxy e=>?_
   rcases e with e | ⟨e1,e2⟩
   ·exact .inl e
   by_cases xa:x = a
   ·exact .inr (.inl ⟨xa,e2⟩)
   by_cases ya:y = a
   ·exact .inr (.inr ⟨ya,e1⟩)
   have:=few [a,x,y] (by simp [Ne.symm xa,Ne.symm ya,nxy]) λ u hu=>by
    rcases List.mem_cons.mp hu with rfl | hu
    ·exact ⟨ha,na,hR⟩
    rcases List.mem_cons.mp hu with rfl | hu
    ·exact ⟨hx.1,hx.2,sym _ _ e1⟩
    ·rw [List.mem_singleton.mp hu]; exact ⟨hy.1,hy.2,e2⟩
   exact absurd this (by simp)
  ·refine (del v hv).sub (λ x hx=>hx) λ x y hx hy nxy e=>?_
   rcases e with e | ⟨e1,e2⟩
   ·exact e
   ·exact absurd ⟨y,hy.1,hy.2,e2⟩ c
 have three:∀ v,V v->∃ U:List α,U.Nodup/\U.length = 3/\∀ u ∈ U,V u/\u ≠ v/\R v u:=λ v hv=>by
  refine Classical.byContradiction λ no=>nofew v hv λ U ndU hU=>?_
  refine Classical.byContradiction λ big=>no ⟨U.take 3,ndU.sublist (List.take_sublist _ _),by rw [List.length_take]; omega,λ u hu=>hU u (List.mem_of_mem_take hu)⟩
 have no5:¬ 5 <= L.length:=λ l5=>by
  have T:∀ u v,V u->V v->u ≠ v->R u v->∃ x y,V x/\V y/\x ≠ y/\x ≠ u/\x ≠ v/\y ≠ u/\y ≠ v/\¬ R x y/\R x u/\R x v/\R y u/\R y v/\(∀ U:List α,U.Nodup->(∀ w ∈ U,V w/\w ≠ x/\R x w)->U.length <= 3):=λ u v hu hv nuv hR=>by
   have F:=con u v hu hv nuv hR
   have symM:∀ x y,Mg R u v x y->Mg R u v y x:=λ x y h=>by
    rcases h with h | ⟨e,h⟩ | ⟨e,h⟩
    ·exact .inl (sym _ _ h)
    ·exact .inr (.inr ⟨e,sym _ _ h⟩)
    ·exact .inr (.inl ⟨e,sym _ _ h⟩)
   obtain ⟨x,y,hx,hy,nxy,nR,fx,fy⟩:=F.two symM ⟨(L.filter λ x=>!decide (x = v)).take 4,(nd.sublist List.filter_sublist).sublist (List.take_sublist _ _),by
    have:L.length <= (L.filter λ x=>!decide (x = v)).length + 1:=c0F nd
    rw [List.length_take]; omega,λ z hz=>by
    have:=List.mem_filter.mp (List.mem_of_mem_take hz)
    exact ⟨(mem z).mp this.1,by simpa using this.2⟩⟩
   have notu:∀ p q,Wo V v p->Wo V v q->p ≠ q->¬ Mg R u v p q->Few (Wo V v) (Mg R u v) q->p ≠ u:=λ p q hp hq npq nM fq e=>by
    subst e
    refine nofew q hq.1 λ U ndU hU=>fq U ndU λ w hw=>?_
    obtain ⟨w1,w2,w3⟩:=hU w hw
    exact ⟨⟨w1,λ z=>nM (.inr (.inl ⟨rfl,sym _ _ (z ▸ w3)⟩))⟩,w2,.inl w3⟩
   have xu:=notu x y hx hy nxy nR fy
   have yu:=notu y x hy hx (Ne.symm nxy) (λ h=>nR (symM _ _ h)) fx
   have both:∀ p,Wo V v p->p ≠ u->Few (Wo V v) (Mg R u v) p->R p u/\R p v/\∀ U:List α,U.Nodup->(∀ w ∈ U,V w/\w ≠ p/\R p w)->U.length <= 3:=λ p hp pu fp=>by
    obtain ⟨U,ndU,lU,hU⟩:=three p hp.1
    have hv:v ∈ U:=Classical.byContradiction λ c=>by
     have:=fp U ndU λ w hw=>⟨⟨(hU w hw).1,λ z=>c (z ▸ hw)⟩,(hU w hw).2.1,.inl (hU w hw).2.2⟩
     omega
    have hRv:=(hU v hv).2.2
    have hu':u ∈ U:=Classical.byContradiction λ c=>by
     have:=fp (U.map λ w=>if w = v then u else w) (b1Q ndU λ a b ha hb e=>by
      split at e <;> split at e
      ·rename_i c1 c2; rw [c1,c2]
      ·exact absurd (e ▸ hb) c
      ·exact absurd (e ▸ ha) c
      ·exact e) λ w hw=>by
      obtain ⟨z,hz,rfl⟩:=List.mem_map.mp hw
      split
      ·exact ⟨⟨hu,nuv⟩,Ne.symm pu,.inr (.inr ⟨rfl,hRv⟩)⟩
      ·rename_i zc
       exact ⟨⟨(hU z hz).1,zc⟩,(hU z hz).2.1,.inl (hU z hz).2.2⟩
     rw [List.length_map] at this
     omega
    refine ⟨(hU u hu').2.2,hRv,λ W ndW hW=>?_⟩
    have:=fp (W.filter λ w=>!decide (w = v)) (ndW.sublist List.filter_sublist) λ w hw=>by
     rw [List.mem_filter] at hw
     exact ⟨⟨(hW w hw.1).1,by simpa using hw.2⟩,(hW w hw.1).2.1,.inl (hW w hw.1).2.2⟩
    have l2:W.length <= (W.filter λ x=>!decide (x = v)).length + 1:=c0F ndW
    omega
   obtain ⟨a1,a2,a3⟩:=both x hx xu fx
   obtain ⟨b1,b2,b3⟩:=both y hy yu fy
   exact ⟨x,y,hx.1,hy.1,nxy,xu,hx.2,yu,hy.2,λ h=>nR (.inl h),a1,a2,b1,b2,a3⟩
  obtain ⟨v0,hv0⟩:∃ v,V v:=by
   match L,l5 with
   | a :: _,_=>exact ⟨a,(mem a).mp List.mem_cons_self⟩
  obtain ⟨U0,nd0,l0,hU0⟩:=three v0 hv0
  obtain ⟨u0,hu0⟩:∃ u,u ∈ U0:=by
   match U0,l0 with
   | a :: _,_=>exact ⟨a,List.mem_cons_self⟩
  obtain ⟨u01,u02,u03⟩:=hU0 u0 hu0
  obtain ⟨x,y,hx,hy,nxy,xu,xv,yu,yv,nR,Rxu,Rxv,Ryu,Ryv,D⟩:=T u0 v0 u01 hv0 u02 (sym _ _ u03)
  obtain ⟨U,ndU,lU,hU⟩:=three x hx
  obtain ⟨z,hz,zu,zv⟩:∃ z ∈ U,z ≠ u0/\z ≠ v0:=by
   refine Classical.byContradiction λ no=>?_
   have sub:∀ w ∈ U,w ∈ [u0,v0]:=λ w hw=>Classical.byContradiction λ c=>no ⟨w,hw,λ e=>c (by rw [e]; exact List.mem_cons_self),λ e=>c (by rw [e]; simp)⟩
   have:=pigN ndU sub
   rw [lU] at this
   exact absurd this (by simp)
  obtain ⟨hz1,hz2,hz3⟩:=hU z hz
  have only:∀ w,V w->w ≠ x->R x w->w = u0\/w = v0\/w = z:=λ w w1 w2 w3=>by
   refine Classical.byContradiction λ c=>?_
   have c1:w ≠ u0:=λ e=>c (.inl e)
   have c2:w ≠ v0:=λ e=>c (.inr (.inl e))
   have c3:w ≠ z:=λ e=>c (.inr (.inr e))
   have:=D [w,z,u0,v0] (by simp [c1,c2,c3,zu,zv,u02]) λ q hq=>by
    rcases List.mem_cons.mp hq with rfl | hq
    ·exact ⟨w1,w2,w3⟩
    rcases List.mem_cons.mp hq with rfl | hq
    ·exact ⟨hz1,hz2,hz3⟩
    rcases List.mem_cons.mp hq with rfl | hq
    ·exact ⟨u01,Ne.symm xu,Rxu⟩
    ·rw [List.mem_singleton.mp hq]; exact ⟨hv0,Ne.symm xv,Rxv⟩
   exact absurd this (by simp)
  obtain ⟨p,q,hp,hq,npq,px,pu,qx,qu,nRpq,Rpx,Rpu,Rqx,Rqu,_⟩:=T x u0 hx u01 xu Rxu
  have Rzu:R z u0:=by
   rcases only p hp px (sym _ _ Rpx) with e | e | e
   ·exact absurd e pu
   ·rcases only q hq qx (sym _ _ Rqx) with f | f | f
    ·exact absurd f qu
    ·exact absurd (e.trans f.symm) npq
    ·exact f ▸ Rqu
   ·exact e ▸ Rpu
  obtain ⟨p,q,hp,hq,npq,px,pu,qx,qu,nRpq,Rpx,Rpu,Rqx,Rqu,_⟩:=T x v0 hx hv0 xv Rxv
  rcases only p hp px (sym _ _ Rpx) with e | e | e
  ·rcases only q hq qx (sym _ _ Rqx) with f | f | f
   ·exact npq (e.trans f.symm)
   ·exact qu f
   ·rw [e,f] at nRpq; exact nRpq (sym _ _ Rzu)
  ·exact pu e
  ·rcases only q hq qx (sym _ _ Rqx) with f | f | f
   ·rw [e,f] at nRpq; exact nRpq Rzu
   ·exact qu f
   ·exact npq (e.trans f.symm)
 have pos:∃ v,V v:=Classical.byContradiction λ no=>hF (.nil λ x hx=>no ⟨x,hx⟩)
 have l4:4 <= L.length:=by
  obtain ⟨v,hv⟩:=pos
  obtain ⟨U,ndU,lU,hU⟩:=three v hv
  have:=pigN (l:=v :: U) (U:=L) (List.nodup_cons.mpr ⟨λ z=>(hU v z).2.1 rfl,ndU⟩) λ w hw=>by
   rcases List.mem_cons.mp hw with rfl | hw
   ·exact (mem _).mpr hv
   ·exact (mem _).mpr (hU w hw).1
  rw [List.length_cons] at this
  omega
 refine ⟨by omega,λ x hx y hy nxy=>Classical.byContradiction λ c=>?_⟩
 obtain ⟨U,ndU,lU,hU⟩:=three x ((mem x).mp hx)
 have:=pigN (l:=x :: y :: U) (U:=L) (List.nodup_cons.mpr ⟨λ z=>?_,List.nodup_cons.mpr ⟨λ z=>c (hU y z).2.2,ndU⟩⟩) λ w hw=>by
  rcases List.mem_cons.mp hw with rfl | hw
  ·exact hx
  rcases List.mem_cons.mp hw with rfl | hw
  ·exact hy
  ·exact (mem _).mpr (hU w hw).1
 ·rw [List.length_cons,List.length_cons] at this
  omega
 ·rcases List.mem_cons.mp z with z | z
  ·exact nxy z
  ·exact (hU x z).2.1 rfl
end
theorem c7K (p:Int->Bool):(upF p).Pairwise (· < ·):=by
 unfold upF
 refine List.Pairwise.filter _ ?_
 rw [List.pairwise_map]
 exact List.pairwise_lt_range.imp λ h=>by omega
theorem a6N {n:Nat} {ts:List ζζ}:∀ (k:Nat) (S:List Nat),S.length = k->∀ x y,runR n ts S x y = true->runR n ts S y x = true
 | 0,S,hl,x,y,h=>by
  rw [List.eq_nil_of_length_eq_zero hl] at h ⊢
  have h':a2X n ts x y = true:=h
  show a2X n ts y x = true
  unfold a2X at h' ⊢
  rw [Bool.and_eq_true,decide_eq_true_iff,Bool.or_eq_true,Bool.or_eq_true,decide_eq_true_iff,decide_eq_true_iff,decide_eq_true_iff] at h' ⊢
  obtain ⟨⟨a,b⟩,h⟩:=h'
  refine ⟨⟨b,a⟩,?_⟩
  rcases h with (h | h) | h
  ·exact .inl (.inl h.symm)
  ·exact .inr h
  ·exact .inl (.inr h)
 | k + 1,S,hl,x,y,h=>by
  have hne:S ≠ []:=λ z=>by rw [z] at hl; cases hl
  obtain ⟨S',w,rfl⟩:∃ S' w,S = S' ++ [w]:=⟨S.dropLast,S.getLast hne,(List.dropLast_concat_getLast hne).symm⟩
  have ih:=a6N (n:=n) (ts:=ts) k S' (by rw [List.length_append] at hl; exact Nat.succ.inj hl)
  rw [a2S] at h ⊢
  generalize runR n ts S' = R at ih h ⊢
  have sy:∀ a b,R a b = R b a:=λ a b=>by
   rw [Bool.eq_iff_iff]
   exact ⟨ih a b,ih b a⟩
  unfold a6G at h ⊢
  by_cases xw:x = w
  ·rw [if_pos xw] at h; cases h
  by_cases yw:y = w
  ·rw [if_neg xw,yw] at h
   by_cases c:R x w = true
   ·rw [if_pos c] at h; simp at h
   ·rw [if_neg c] at h; exact absurd h c
  rw [if_neg xw] at h
  rw [if_neg yw]
  rw [sy y w,sy y x,sy w x]
  by_cases c:R x w = true
  ·rw [if_pos c,Bool.and_eq_true,Bool.or_eq_true] at h
   by_cases d:R w y = true
   ·rw [if_pos d,Bool.and_eq_true,Bool.or_eq_true]
    exact ⟨.inr c,by simpa using xw⟩
   ·rw [if_neg d]
    rcases h.1 with h | h
    ·exact h
    ·exact absurd h d
  ·rw [if_neg c] at h
   by_cases d:R w y = true
   ·rw [if_pos d,Bool.and_eq_true,Bool.or_eq_true]
    exact ⟨.inl h,by simpa using xw⟩
   ·rw [if_neg d]; exact h
def RnP (n:Nat) (ts:List ζζ) (S:List Nat):Nat->Nat->Prop:=λ x y=>runR n ts S x y = true
def a5O (n:Nat) (S:List Nat):Nat->Prop:=λ x=>x < n/\x ∉ S
theorem c0H {n:Nat} {ts:List ζζ} {S:List Nat} {v:Nat} (l:(a1K n (runR n ts S) v).length <= 2):Few (a5O n S) (RnP n ts S) v:=λ U nd hU=>by
 refine Nat.le_trans (pigN nd λ u hu=>?_) l
 obtain ⟨⟨u1,_⟩,u2,u3⟩:=hU u hu
 unfold a1K
 refine List.mem_filter.mpr ⟨List.mem_range.mpr u1,?_⟩
 rw [Bool.and_eq_true]
 exact ⟨u3,by simpa using u2⟩
theorem c0I {n:Nat} {ts:List ζζ} {S:List Nat} {v:Nat} (few:Few (a5O n S) (RnP n ts S) v):(a1K n (runR n ts S) v).length <= 2:=by
 refine few _ (List.nodup_range.sublist List.filter_sublist) λ u hu=>?_
 unfold a1K at hu
 rw [List.mem_filter,List.mem_range,Bool.and_eq_true] at hu
 obtain ⟨un,hr,hv⟩:=hu
 refine ⟨⟨un,λ z=>?_⟩,by simpa using hv,hr⟩
 have:=a6N S.length S rfl v u hr
 rw [a6M S.length S rfl u z] at this
 cases this
theorem c7L {n:Nat} {ts:List ζζ} {S:List Nat} {v:Nat} (vn:v < n) (vS:v ∉ S) (l:(a1K n (runR n ts S) v).length <= 2):Fo (a5O n S) (RnP n ts S) ↔ Fo (a5O n (S ++ [v])) (RnP n ts (S ++ [v])):=by
 have few:=c0H l
 have e1:∀ x y,x ≠ v->y ≠ v->(RnP n ts (S ++ [v]) x y ↔ El (RnP n ts S) v x y):=λ x y xv yv=>by
  unfold RnP El
  rw [a2S]
  unfold a6G
  rw [if_neg xv]
  by_cases c:runR n ts S x v = true
  ·rw [if_pos c,Bool.and_eq_true,Bool.or_eq_true]
   constructor
   ·rintro ⟨h | h,_⟩
    ·exact .inl h
    ·exact .inr ⟨c,h⟩
   ·rintro (h | ⟨_,h⟩)
    ·exact ⟨.inl h,by simpa using yv⟩
    ·exact ⟨.inr h,by simpa using yv⟩
  ·rw [if_neg c]
   exact ⟨λ h=>.inl h,λ h=>h.resolve_right λ z=>c z.1⟩
 have e2:∀ x,a5O n (S ++ [v]) x ↔ Wo (a5O n S) v x:=λ x=>by
  unfold a5O Wo
  rw [List.mem_append,List.mem_singleton]
  constructor
  ·rintro ⟨a,b⟩
   exact ⟨⟨a,λ z=>b (.inl z)⟩,λ z=>b (.inr z)⟩
  ·rintro ⟨⟨a,b⟩,c⟩
   exact ⟨a,λ z=>z.elim b c⟩
 constructor
 ·intro h
  refine (h.out (λ x y=>a6N S.length S rfl x y) ⟨vn,vS⟩ few).sub (λ x hx=>(e2 x).mp hx) λ x y hx hy _ r=>?_
  exact (e1 x y ((e2 x).mp hx).2 ((e2 y).mp hy).2).mp r
 ·intro h
  refine .step v ⟨vn,vS⟩ few (h.sub (λ x hx=>(e2 x).mpr hx) λ x y hx hy _ r=>?_)
  exact (e1 x y hx.2 hy.2).mpr r
theorem c4U {n:Nat} {ts:List ζζ} {S:List Nat} (R:FoldRun n ts S):∀ j,j <= S.length->(Fo (a5O n []) (RnP n ts []) ↔ Fo (a5O n (S.take j)) (RnP n ts (S.take j)))
 | 0,_=>Iff.rfl
 | j + 1,jl=>by
  have hv:S[j]? = some (S[j]'(by omega)):=List.getElem?_eq_getElem (by omega)
  have et:S.take (j + 1) = S.take j ++ [S[j]'(by omega)]:=by rw [List.take_succ,hv]; rfl
  have nd:=R.nd
  have ns:S[j]'(by omega) ∉ S.take j:=λ z=>by
   have h2:(S.take (j + 1)).Nodup:=nd.sublist (List.take_sublist _ _)
   rw [et] at h2
   exact (List.nodup_append.mp h2).2.2 _ z _ List.mem_cons_self rfl
  have few:=R.few j (by omega)
  unfold a1A at few
  rw [τα,hv] at few
  rw [c4U R j (by omega),et]
  exact c7L (R.lt _ (List.getElem_mem _)) ns few
theorem c0J {n:Nat} {ts:List ζζ} {S:List Nat} (R:FoldRun n ts S) (st:∀ v < n,v ∉ S->3 <= (a1K n (runR n ts S) v).length):a5N n S = [] ↔ Fo (a5O n []) (RnP n ts []):=by
 rw [c4U R S.length (Nat.le_refl _),List.take_length]
 constructor
 ·intro h
  refine .nil λ x hx=>?_
  have:x ∈ a5N n S:=by
   unfold a5N
   exact List.mem_filter.mpr ⟨List.mem_range.mpr hx.1,by simpa using hx.2⟩
  rw [h] at this
  exact absurd this List.not_mem_nil
 ·intro h
  refine List.eq_nil_iff_forall_not_mem.mpr λ x hx=>?_
  unfold a5N at hx
  rw [List.mem_filter,List.mem_range] at hx
  have hx':a5O n S x:=⟨hx.1,by simpa using hx.2⟩
  obtain ⟨v,hv,few⟩:=h.some_few hx'
  have:=c0I few
  have:=st v hv.1 hv.2
  omega
def Adj (ts:List ζζ) (a b:Int):Prop:=(a,b) ∈ ts\/(b,a) ∈ ts
theorem Adj.symm {ts:List ζζ} {a b:Int} (h:Adj ts a b):Adj ts b a:=Or.symm h
def TR (ts:List ζζ) (p q:List Int):Prop:=∃ a ∈ p,∃ b ∈ q,a = b\/Adj ts a b
theorem TR.symm {ts:List ζζ} {p q:List Int} (h:TR ts p q):TR ts q p:=by
 obtain ⟨a,ha,b,hb,h⟩:=h
 exact ⟨b,hb,a,ha,h.elim (λ e=>.inl e.symm) λ e=>.inr e.symm⟩
theorem TR.mono {ts:List ζζ} {p q p' q':List Int} (h:TR ts p q) (hp:∀ v ∈ p,v ∈ p') (hq:∀ v ∈ q,v ∈ q'):TR ts p' q':=by
 obtain ⟨a,ha,b,hb,h⟩:=h
 exact ⟨a,hp a ha,b,hq b hb,h⟩
def Jn (ts:List ζζ) (p:List Int):Prop:=∀ A:Int->Prop,(∃ a ∈ p,A a)->(∀ a b,a ∈ p->b ∈ p->Adj ts a b->A a->A b)->∀ b ∈ p,A b
theorem Jn.one {ts:List ζζ} (v:Int):Jn ts [v]:=λ A h _ b hb=>by
 obtain ⟨a,ha,h⟩:=h
 rw [List.mem_singleton.mp hb,<- List.mem_singleton.mp ha]
 exact h
theorem Jn.both {ts:List ζζ} {p q j:List Int} (hp:Jn ts p) (hq:Jn ts q) (t:TR ts p q) (m:∀ v,v ∈ j ↔ v ∈ p\/v ∈ q):Jn ts j:=λ A h cl b hb=>by
 have cp:∀ a b,a ∈ p->b ∈ p->Adj ts a b->A a->A b:=λ a b ha hb=>cl a b ((m a).mpr (.inl ha)) ((m b).mpr (.inl hb))
 have cq:∀ a b,a ∈ q->b ∈ q->Adj ts a b->A a->A b:=λ a b ha hb=>cl a b ((m a).mpr (.inr ha)) ((m b).mpr (.inr hb))
 obtain ⟨x,hx,y,hy,e⟩:=t
 have xy:A x ↔ A y:=by
  rcases e with e | e
  ·rw [e]
  ·exact ⟨cl x y ((m x).mpr (.inl hx)) ((m y).mpr (.inr hy)) e,cl y x ((m y).mpr (.inr hy)) ((m x).mpr (.inl hx)) e.symm⟩
 have all:(∀ b ∈ p,A b)/\∀ b ∈ q,A b:=by
  obtain ⟨a,ha,hA⟩:=h
  rcases (m a).mp ha with ha | ha
  ·have h1:=hp A ⟨a,ha,hA⟩ cp
   exact ⟨h1,hq A ⟨y,hy,xy.mp (h1 x hx)⟩ cq⟩
  ·have h1:=hq A ⟨a,ha,hA⟩ cq
   exact ⟨hp A ⟨x,hx,xy.mpr (h1 y hy)⟩ cp,h1⟩
 rcases (m b).mp hb with hb | hb
 ·exact all.1 b hb
 ·exact all.2 b hb
abbrev Ones (V:List Int->Prop) (p q j:List Int):List Int->Prop:=λ r=>(V r/\r ≠ p/\r ≠ q)\/r = j
theorem Fo.join {ts:List ζζ} {V:List Int->Prop} (h:Fo V (TR ts)) {p q j:List Int} (hp:V p) (hq:V q) (ne:p ≠ q) (t:TR ts p q) (m:∀ v ∈ j,v ∈ p\/v ∈ q):Fo (Ones V p q j) (TR ts):=by
 have sp:∀ {r},TR ts j r->TR ts p r\/TR ts q r:=λ {r} ⟨a,ha,b,hb,e⟩=>(m a ha).elim (λ z=>.inl ⟨a,z,b,hb,e⟩) λ z=>.inr ⟨a,z,b,hb,e⟩
 refine (h.merge (a:=p) (b:=q) (λ _ _ z=>z.symm) hp hq ne t).map (λ r=>if r = j then p else r) (λ x hx=>?_) (λ x y hx hy e=>?_) λ x y hx hy nxy e=>?_
 ·by_cases c:x = j
  ·rw [if_pos c]; exact ⟨hp,ne⟩
  ·rw [if_neg c]
   have:=hx.resolve_right c
   exact ⟨this.1,this.2.2⟩
 ·by_cases c:x = j
  ·by_cases d:y = j
   ·rw [c,d]
   ·rw [if_pos c,if_neg d] at e
    exact absurd e.symm (hy.resolve_right d).2.1
  ·by_cases d:y = j
   ·rw [if_neg c,if_pos d] at e
    exact absurd e (hx.resolve_right c).2.1
   ·rwa [if_neg c,if_neg d] at e
 ·by_cases c:x = j
  ·have d:y ≠ j:=λ d=>nxy (c.trans d.symm)
   rw [if_pos c,if_neg d]
   rw [c] at e
   rcases sp e with e | e
   ·exact .inl e
   ·exact .inr (.inl ⟨rfl,e⟩)
  ·rw [if_neg c]
   by_cases d:y = j
   ·rw [if_pos d]
    rw [d] at e
    rcases sp e.symm with e | e
    ·exact .inl e.symm
    ·exact .inr (.inr ⟨rfl,e.symm⟩)
   ·rw [if_neg d]
    exact .inl e
theorem Fo.apart {ts:List ζζ} {V:List Int->Prop} {p q j:List Int} (h:Fo (Ones V p q j) (TR ts)) (m:∀ v,v ∈ p\/v ∈ q->v ∈ j) (nj:∀ s,V s->s ≠ p->s ≠ q->s ≠ j):Fo (Wo V q) (Mg (TR ts) p q):=by
 refine h.map (λ r=>if r = p then j else r) (λ x hx=>?_) (λ x y hx hy e=>?_) λ x y hx hy nxy e=>?_
 ·by_cases c:x = p
  ·rw [if_pos c]; exact .inr rfl
  ·rw [if_neg c]; exact .inl ⟨hx.1,c,hx.2⟩
 ·by_cases c:x = p
  ·by_cases d:y = p
   ·rw [c,d]
   ·rw [if_pos c,if_neg d] at e
    exact absurd e.symm (nj y hy.1 d hy.2)
  ·by_cases d:y = p
   ·rw [if_neg c,if_pos d] at e
    exact absurd e (nj x hx.1 c hx.2)
   ·rwa [if_neg c,if_neg d] at e
 ·by_cases c:x = p
  ·have d:y ≠ p:=λ d=>nxy (c.trans d.symm)
   rw [if_pos c,if_neg d]
   rcases e with e | ⟨_,e⟩ | ⟨e,_⟩
   ·rw [c] at e
    exact e.mono (λ v hv=>m v (.inl hv)) λ v hv=>hv
   ·exact e.mono (λ v hv=>m v (.inr hv)) λ v hv=>hv
   ·exact absurd e d
  ·rw [if_neg c]
   by_cases d:y = p
   ·rw [if_pos d]
    rcases e with e | ⟨e,_⟩ | ⟨_,e⟩
    ·rw [d] at e
     exact e.mono (λ v hv=>hv) λ v hv=>m v (.inl hv)
    ·exact absurd e c
    ·exact e.mono (λ v hv=>hv) λ v hv=>m v (.inr hv)
   ·rw [if_neg d]
    rcases e with e | ⟨e,_⟩ | ⟨e,_⟩
    ·exact e
    ·exact absurd e c
    ·exact absurd e d
structure Prt (n:Nat) (ts:List ζζ) (P:List (List Int)):Prop where
 ne:∀ p ∈ P,p ≠ []
 asc:∀ p ∈ P,p.Pairwise (· < ·)
 lt:∀ p ∈ P,∀ v ∈ p,0 <= v/\v < (n:Int)
 dj:P.Pairwise λ p q=>∀ v ∈ p,v ∉ q
 jn:∀ p ∈ P,Jn ts p
section
variable {n:Nat} {ts:List ζζ} {P:List (List Int)}
theorem Prt.nd (G:Prt n ts P):P.Nodup:=by
 have ne:=G.ne
 have dj:=G.dj
 clear G
 induction P with
 | nil=>exact .nil
 | cons p r ih =>
  obtain ⟨d1,d2⟩:=List.pairwise_cons.mp dj
  refine List.nodup_cons.mpr ⟨λ z=>?_,ih (λ q hq=>ne q (List.mem_cons_of_mem _ hq)) d2⟩
  obtain ⟨v,hv⟩:=List.exists_mem_of_ne_nil p (ne p List.mem_cons_self)
  exact d1 p z v hv hv
theorem Prt.same (G:Prt n ts P) {p q:List Int} {v:Int} (hp:p ∈ P) (hq:q ∈ P) (h1:v ∈ p) (h2:v ∈ q):p = q:=by
 have dj:=G.dj
 clear G
 induction P with
 | nil=>exact absurd hp List.not_mem_nil
 | cons r P ih =>
  obtain ⟨d1,d2⟩:=List.pairwise_cons.mp dj
  rcases List.mem_cons.mp hp with e | hp
  ·rcases List.mem_cons.mp hq with f | hq
   ·rw [e,f]
   ·exact absurd h2 (d1 q hq v (e ▸ h1))
  ·rcases List.mem_cons.mp hq with f | hq
   ·exact absurd h1 (d1 p hp v (f ▸ h2))
   ·exact ih hp hq d2
theorem Prt.sub (G:Prt n ts P) {P':List (List Int)} (s:P'.Sublist P):Prt n ts P':=⟨λ p hp=>G.ne p (s.subset hp),λ p hp=>G.asc p (s.subset hp),λ p hp=>G.lt p (s.subset hp),G.dj.sublist s,λ p hp=>G.jn p (s.subset hp)⟩
def a4D (P:List (List Int)) (D:List (List Int)):List (List Int):=P.filter λ p=>!decide (p ∈ D)
theorem mem_lessLL {D:List (List Int)} {p:List Int}:p ∈ a4D P D ↔ p ∈ P/\p ∉ D:=by
 unfold a4D
 rw [List.mem_filter]
 simp
theorem a2Q (n10:n <= 10) {p q:List Int} (hp:∀ v ∈ p,0 <= v/\v < (n:Int)) (hq:∀ v ∈ q,0 <= v/\v < (n:Int)) {v:Int}:v ∈ a0J p q ↔ v ∈ p\/v ∈ q:=by
 unfold a0J
 rw [mem_upF,decide_eq_true_iff]
 refine ⟨λ h=>h.2.2,λ h=>?_⟩
 have:0 <= v/\v < (n:Int):=h.elim (hp v) (hq v)
 exact ⟨this.1,by omega,h⟩
theorem a2K (p q:List Int):a0J p q = a0J q p:=by
 unfold a0J
 congr 1
 funext v
 rw [Bool.eq_iff_iff,decide_eq_true_iff,decide_eq_true_iff]
 exact Or.comm
abbrev FoP (ts:List ζζ) (P:List (List Int)):Prop:=Fo (λ p=>p ∈ P) (TR ts)
def I1 (ts:List ζζ) (P:List (List Int)) (v:Int):Prop:=(∃ p ∈ P,v ∈ p)->Fo (λ p=>p ∈ P/\v ∉ p) (TR ts)
def I2 (ts:List ζζ) (P:List (List Int)) (a b:Int):Prop:=∀ p q,p ∈ P->q ∈ P->a ∈ p->b ∈ q->p ≠ q->Fo (Ones (λ r=>r ∈ P) p q (a0J p q)) (TR ts)
theorem I1.sub {v:Int} (h:I1 ts P v) {P':List (List Int)} (s:∀ p ∈ P',p ∈ P):I1 ts P' v:=λ ⟨p,hp,hv⟩=>(h ⟨p,s p hp,hv⟩).sub (λ x hx=>⟨s x hx.1,hx.2⟩) λ _ _ _ _ _ e=>e
abbrev oneP (P:List (List Int)) (p q:List Int):List (List Int):=a4D P [p,q] ++ [a0J p q]
theorem mem_oneP {p q r:List Int}:r ∈ oneP P p q ↔ Ones (λ r=>r ∈ P) p q (a0J p q) r:=by
 unfold Ones
 rw [List.mem_append,mem_lessLL,List.mem_singleton]
 simp [not_or]
theorem a9O (G:Prt n ts P) (n10:n <= 10) {p q:List Int} (hp:p ∈ P) (hq:q ∈ P) (ne:p ≠ q) (t:TR ts p q):Prt n ts (oneP P p q)/\(∀ v,I1 ts P v->I1 ts (oneP P p q) v)/\∀ a b,I2 ts P a b->I2 ts (oneP P p q) a b:=by
 have mj:∀ {v},v ∈ a0J p q ↔ v ∈ p\/v ∈ q:=a2Q n10 (G.lt p hp) (G.lt q hq)
 have ltj:∀ v ∈ a0J p q,0 <= v/\v < (n:Int):=λ v hv=>(mj.mp hv).elim (G.lt p hp v) (G.lt q hq v)
 have G':Prt n ts (oneP P p q):=by
  refine ⟨λ r hr=>?_,λ r hr=>?_,λ r hr=>?_,?_,λ r hr=>?_⟩
  ·rcases mem_oneP.mp hr with h | h
   ·exact G.ne r h.1
   ·obtain ⟨v,hv⟩:=List.exists_mem_of_ne_nil p (G.ne p hp)
    rw [h]
    exact List.ne_nil_of_mem (mj.mpr (.inl hv))
  ·rcases mem_oneP.mp hr with h | h
   ·exact G.asc r h.1
   ·rw [h]; exact c7K _
  ·rcases mem_oneP.mp hr with h | h
   ·exact G.lt r h.1
   ·rw [h]; exact ltj
  ·refine List.pairwise_append.mpr ⟨G.dj.sublist List.filter_sublist,List.pairwise_singleton _ _,λ r hr s hs v hv hw=>?_⟩
   rw [List.mem_singleton.mp hs] at hw
   have hr':=mem_lessLL.mp hr
   rcases mj.mp hw with z | z
   ·exact hr'.2 (by rw [G.same hr'.1 hp hv z]; exact List.mem_cons_self)
   ·exact hr'.2 (by rw [G.same hr'.1 hq hv z]; simp)
  ·rcases mem_oneP.mp hr with h | h
   ·exact G.jn r h.1
   ·rw [h]; exact Jn.both (G.jn p hp) (G.jn q hq) t λ v=>mj
 refine ⟨G',λ v h ⟨r,hr,hv⟩=>?_,λ a b h r s hr hs ha hb nrs=>?_⟩
 ·by_cases c:v ∈ a0J p q
  ·have:∃ p ∈ P,v ∈ p:=(mj.mp c).elim (λ z=>⟨p,hp,z⟩) λ z=>⟨q,hq,z⟩
   refine (h this).sub (λ x hx=>?_) λ _ _ _ _ _ e=>e
   rcases mem_oneP.mp hx.1 with z | z
   ·exact ⟨z.1,hx.2⟩
   ·exact absurd (z ▸ c) hx.2
  ·have vp:v ∉ p:=λ z=>c (mj.mpr (.inl z))
   have vq:v ∉ q:=λ z=>c (mj.mpr (.inr z))
   have hr':∃ p ∈ P,v ∈ p:=by
    rcases mem_oneP.mp hr with z | z
    ·exact ⟨r,z.1,hv⟩
    ·exact absurd (z ▸ hv) c
   refine ((h hr').join ⟨hp,vp⟩ ⟨hq,vq⟩ ne t (j:=a0J p q) λ v hv=>mj.mp hv).sub (λ x hx=>?_) λ _ _ _ _ _ e=>e
   rcases mem_oneP.mp hx.1 with z | z
   ·exact .inl ⟨⟨z.1,hx.2⟩,z.2.1,z.2.2⟩
   ·exact .inr z
 ·-- two others made one besides
  have three:∀ {x s:List Int},(x = p\/x = q)->s ∈ P->s ≠ p->s ≠ q->Fo (Ones (λ r=>r ∈ P) x s (a0J x s)) (TR ts)->Fo (Ones (λ r=>r ∈ oneP P p q) (a0J p q) s (a0J (a0J p q) s)) (TR ts):=λ {x s} hx hs sp sq F=>by
   obtain ⟨y,hy,hyP,hxP,nxy,txy,mx⟩:∃ y,(y = p\/y = q)/\y ∈ P/\x ∈ P/\x ≠ y/\TR ts x y/\∀ v,v ∈ a0J p q ↔ v ∈ x\/v ∈ y:=by
    rcases hx with rfl | rfl
    ·exact ⟨q,.inr rfl,hq,hp,ne,t,λ v=>mj⟩
    ·exact ⟨p,.inl rfl,hp,hq,Ne.symm ne,t.symm,λ v=>mj.trans Or.comm⟩
   have sy:s ≠ y:=by rcases hy with rfl | rfl <;> assumption
   have sx:s ≠ x:=by rcases hx with rfl | rfl <;> assumption
   have mxs:∀ {v},v ∈ a0J x s ↔ v ∈ x\/v ∈ s:=a2Q n10 (G.lt x hxP) (G.lt s hs)
   have mjs:∀ {v},v ∈ a0J (a0J p q) s ↔ v ∈ a0J p q\/v ∈ s:=a2Q n10 ltj (G.lt s hs)
   have nj:a0J x s ≠ y:=λ e=>by
    obtain ⟨v,hv⟩:=List.exists_mem_of_ne_nil s (G.ne s hs)
    exact sy (G.same hs hyP hv (e ▸ mxs.mpr (.inr hv)))
   refine (F.join (p:=a0J x s) (q:=y) (j:=a0J (a0J p q) s) (.inr rfl) (.inl ⟨hyP,Ne.symm nxy,Ne.symm sy⟩) nj (txy.mono (λ v hv=>mxs.mpr (.inl hv)) λ v hv=>hv) λ v hv=>?_).sub (λ r hr=>?_) λ _ _ _ _ _ e=>e
   ·rcases mjs.mp hv with z | z
    ·exact ((mx v).mp z).elim (λ z=>.inl (mxs.mpr (.inl z))) .inr
    ·exact .inl (mxs.mpr (.inr z))
   ·rcases hr with ⟨h1,h2,h3⟩ | h
    ·rcases mem_oneP.mp h1 with z | z
     ·refine .inl ⟨.inl ⟨z.1,?_,h3⟩,λ e=>?_,?_⟩
      ·rcases hx with rfl | rfl
       ·exact z.2.1
       ·exact z.2.2
      ·obtain ⟨v,hv⟩:=List.exists_mem_of_ne_nil s (G.ne s hs)
       exact h3 (G.same z.1 hs (e ▸ mxs.mpr (.inr hv)) hv)
      ·rcases hy with rfl | rfl
       ·exact z.2.1
       ·exact z.2.2
     ·exact absurd z h2
    ·exact .inr h
  rcases mem_oneP.mp hr with ⟨r1,r2,r3⟩ | er
  ·rcases mem_oneP.mp hs with ⟨s1,s2,s3⟩ | es
   ·have F:=h r s r1 s1 ha hb nrs
    have nrsj:∀ {x},x ∈ P->x ≠ r->x ≠ a0J r s:=λ {x} hx xr e=>by
     obtain ⟨v,hv⟩:=List.exists_mem_of_ne_nil r (G.ne r r1)
     exact xr (G.same hx r1 (e ▸ (a2Q n10 (G.lt r r1) (G.lt s s1)).mpr (.inl hv)) hv)
    refine (F.join (p:=p) (q:=q) (j:=a0J p q) (.inl ⟨hp,Ne.symm r2,Ne.symm s2⟩) (.inl ⟨hq,Ne.symm r3,Ne.symm s3⟩) ne t λ v hv=>mj.mp hv).sub (λ x hx=>?_) λ _ _ _ _ _ e=>e
    rcases hx with ⟨h1,h2,h3⟩ | h
    ·rcases mem_oneP.mp h1 with z | z
     ·exact .inl ⟨.inl ⟨z.1,h2,h3⟩,z.2.1,z.2.2⟩
     ·exact .inr z
    ·refine .inl ⟨.inr h,?_,?_⟩
     ·rw [h]; exact (nrsj hp (Ne.symm r2)).symm
     ·rw [h]; exact (nrsj hq (Ne.symm r3)).symm
   ·subst es
    rcases mj.mp hb with z | z
    ·have F:=three (x:=p) (.inl rfl) r1 r2 r3 (by rw [a2K]; exact (h r p r1 hp ha z r2).sub (λ x hx=>hx.elim (λ y=>.inl ⟨y.1,y.2.2,y.2.1⟩) .inr) λ _ _ _ _ _ e=>e)
     exact F.sub (λ x hx=>hx.elim (λ y=>.inl ⟨y.1,y.2.2,y.2.1⟩) λ y=>.inr (by rw [y,a2K])) λ _ _ _ _ _ e=>e
    ·have F:=three (x:=q) (.inr rfl) r1 r2 r3 (by rw [a2K]; exact (h r q r1 hq ha z r3).sub (λ x hx=>hx.elim (λ y=>.inl ⟨y.1,y.2.2,y.2.1⟩) .inr) λ _ _ _ _ _ e=>e)
     exact F.sub (λ x hx=>hx.elim (λ y=>.inl ⟨y.1,y.2.2,y.2.1⟩) λ y=>.inr (by rw [y,a2K])) λ _ _ _ _ _ e=>e
  ·subst er
   rcases mem_oneP.mp hs with ⟨s1,s2,s3⟩ | es
   ·rcases mj.mp ha with z | z
    ·exact three (x:=p) (.inl rfl) s1 s2 s3 (h p s hp s1 z hb (Ne.symm s2))
    ·exact three (x:=q) (.inr rfl) s1 s2 s3 (h q s hq s1 z hb (Ne.symm s3))
   ·exact absurd es.symm nrs
theorem b6H (G:Prt n ts P) (n10:n <= 10) (firm:¬ FoP ts P) (h1:∀ v:Int,0 <= v->v < (n:Int)->I1 ts P v) (h2:∀ t ∈ ts,I2 ts P t.1 t.2):P.length = 4/\∀ p ∈ P,∀ q ∈ P,p ≠ q->TR ts p q:=by
 refine c0G (V:=λ p=>p ∈ P) (R:=TR ts) (λ _ _ z=>z.symm) firm (λ p hp=>?_) (λ p q hp hq ne t=>?_) G.nd λ x=>Iff.rfl
 ·obtain ⟨v,hv⟩:=List.exists_mem_of_ne_nil p (G.ne p hp)
  have b:=G.lt p hp v hv
  exact (h1 v b.1 b.2 ⟨p,hp,hv⟩).sub (λ x hx=>⟨hx.1,λ z=>hx.2 (G.same hx.1 hp z hv)⟩) λ _ _ _ _ _ e=>e
 ·have mj:∀ {v},v ∈ a0J p q ↔ v ∈ p\/v ∈ q:=a2Q n10 (G.lt p hp) (G.lt q hq)
  have F:Fo (Ones (λ r=>r ∈ P) p q (a0J p q)) (TR ts):=by
   obtain ⟨a,ha,b,hb,e⟩:=t
   rcases e with e | e | e
   ·exact absurd (G.same hp hq ha (e ▸ hb)) ne
   ·exact h2 _ e p q hp hq ha hb ne
   ·have:=h2 _ e q p hq hp hb ha (Ne.symm ne)
    exact this.sub (λ x hx=>hx.elim (λ y=>.inl ⟨y.1,y.2.2,y.2.1⟩) λ y=>.inr (by rw [y,a2K])) λ _ _ _ _ _ e=>e
  refine F.apart (λ v hv=>mj.mpr hv) λ s hs sp sq e=>?_
  obtain ⟨v,hv⟩:=List.exists_mem_of_ne_nil p (G.ne p hp)
  exact sp (G.same hs hp (e ▸ mj.mpr (.inl hv)) hv)
end
end K
namespace K
open PySem L2 Lw Bg
abbrev b1R:Stmt:=top 32
theorem sc_is_firm:FnScope ["graph", "parts", "ties", "k"] ["graph", "parts"] (a0E b1R):=⟨rfl,rfl,rfl,by decide +kernel,rfl,by decide +kernel,by decide +kernel⟩
theorem b1S {n:Nat} {ts:List ζζ} (n10:n <= 10) {xs ys:List Int} (hy:∀ v ∈ ys,0 <= v/\v < (n:Int)):a2R ts xs ys = true ↔ TR ts xs ys:=by
 have ne:∀ {l:List Int},(!l.isEmpty) = true ↔ ∃ v,v ∈ l:=λ {l}=>by
  cases l with
  | nil=>simp
  | cons a r=>exact ⟨λ _=>⟨a,List.mem_cons_self⟩,λ _=>rfl⟩
 unfold a2R
 rw [Bool.or_eq_true,ne,ne]
 unfold a0X rimF a4J a9K
 constructor
 ·rintro (⟨v,hv⟩ | ⟨v,hv⟩)
  ·rw [List.mem_filter,decide_eq_true_iff] at hv
   exact ⟨v,hv.1,v,hv.2,.inl rfl⟩
  ·rw [List.mem_filter,List.mem_filter,decide_eq_true_iff,mem_upF,List.any_eq_true] at hv
   obtain ⟨⟨⟨_,_,a,ha,h⟩,_⟩,hvy⟩:=hv
   rw [decide_eq_true_iff,tied_mem] at h
   exact ⟨a,ha,v,hvy,.inr (Or.symm h)⟩
 ·rintro ⟨a,ha,b,hb,h⟩
  by_cases c:b ∈ xs
  ·exact .inl ⟨b,List.mem_filter.mpr ⟨c,decide_eq_true hb⟩⟩
  ·rcases h with h | h
   ·exact absurd (h ▸ ha) c
   ·have bb:=hy b hb
    refine .inr ⟨b,List.mem_filter.mpr ⟨List.mem_filter.mpr ⟨mem_upF.mpr ⟨bb.1,by omega,List.any_eq_true.mpr ⟨a,ha,decide_eq_true (tied_mem.mpr (Or.symm h))⟩⟩,by simpa using c⟩,decide_eq_true hb⟩⟩
def qTk (ts:List ζζ) (P:List (List Int)) (k:Nat):List ζζ:=((List.range k).filter λ j=>a2R ts (P.getD j []) (P.getD k [])).map λ j=>(((j:Nat):Int),((k:Nat):Int))
def qT (ts:List ζζ) (P:List (List Int)):Nat->List ζζ
 | 0=>[]
 | k + 1=>qT ts P k ++ qTk ts P k
theorem c0K (ts:List ζζ) (P:List (List Int)) (k:Nat):(qTk ts P k).length <= k:=by
 unfold qTk
 rw [List.length_map]
 refine Nat.le_trans (List.length_filter_le _ _) ?_
 simp
theorem c0L (ts:List ζζ) (P:List (List Int)):∀ k,(qT ts P k).length <= k * k
 | 0=>Nat.le_refl _
 | k + 1=>by
  show (qT ts P k ++ qTk ts P k).length <= _
  rw [List.length_append]
  have h1:=c0L ts P k
  have h2:=c0K ts P k
  have:(k + 1) * (k + 1) = k * k + k + (k + 1):=by rw [Nat.add_mul,Nat.mul_add,Nat.one_mul,Nat.mul_one]
  omega
theorem mem_qT {ts:List ζζ} {P:List (List Int)}:∀ {k:Nat} {t:Int × Int},t ∈ qT ts P k ↔ ∃ i j:Nat,i < j/\j < k/\t = ((i:Int),(j:Int))/\a2R ts (P.getD i []) (P.getD j []) = true
 | 0,t=>⟨λ h=>absurd h List.not_mem_nil,λ ⟨_,j,_,h,_⟩=>absurd h (Nat.not_lt_zero _)⟩
 | k + 1,t=>by
  show t ∈ qT ts P k ++ qTk ts P k ↔ _
  rw [List.mem_append,mem_qT]
  constructor
  ·rintro (⟨i,j,a,b,c,d⟩ | h)
   ·exact ⟨i,j,a,by omega,c,d⟩
   ·unfold qTk at h
    obtain ⟨i,hi,rfl⟩:=List.mem_map.mp h
    rw [List.mem_filter,List.mem_range] at hi
    exact ⟨i,k,hi.1,by omega,rfl,hi.2⟩
  ·rintro ⟨i,j,a,b,c,d⟩
   by_cases e:j = k
   ·subst e
    refine .inr ?_
    unfold qTk
    exact List.mem_map.mpr ⟨i,List.mem_filter.mpr ⟨List.mem_range.mpr a,d⟩,c.symm⟩
   ·exact .inl ⟨i,j,a,by omega,c,d⟩
theorem getD_mem {P:List (List Int)} {i:Nat} (h:i < P.length):P.getD i [] ∈ P:=by
 rw [τα,List.getElem?_eq_getElem h]; exact List.getElem_mem h
theorem a8M:∀ {P:List (List Int)} {i j:Nat},P.Nodup->i < P.length->j < P.length->P.getD i [] = P.getD j []->i = j
 | [],i,_,_,h,_,_=>absurd h (Nat.not_lt_zero _)
 | p :: P,0,0,_,_,_,_=>rfl
 | p :: P,0,j + 1,nd,_,hj,e=>by
  have hj':j < P.length:=Nat.lt_of_succ_lt_succ hj
  have e':p = P.getD j []:=e
  exact absurd (e' ▸ getD_mem hj') (List.nodup_cons.mp nd).1
 | p :: P,i + 1,0,nd,hi,_,e=>by
  have hi':i < P.length:=Nat.lt_of_succ_lt_succ hi
  have e':P.getD i [] = p:=e
  exact absurd (e' ▸ getD_mem hi') (List.nodup_cons.mp nd).1
 | p :: P,i + 1,j + 1,nd,hi,hj,e=>by
  have:=a8M (List.nodup_cons.mp nd).2 (Nat.lt_of_succ_lt_succ hi) (Nat.lt_of_succ_lt_succ hj) e
  omega
theorem c7M {P:List (List Int)} {p:List Int} (h:p ∈ P):∃ i,i < P.length/\P.getD i [] = p:=by
 obtain ⟨i,il,e⟩:=List.getElem_of_mem h
 exact ⟨i,il,by rw [τα,List.getElem?_eq_getElem il,e]; rfl⟩
theorem c3D {n:Nat} {ts:List ζζ} {P:List (List Int)} (n10:n <= 10) (G:Prt n ts P):Fo (a5O P.length []) (RnP P.length (qT ts P P.length) []) ↔ FoP ts P:=by
 have tch:∀ {i j:Nat},i < P.length->j < P.length->(a2R ts (P.getD i []) (P.getD j []) = true ↔ TR ts (P.getD i []) (P.getD j [])):=λ {i j} _ hj=>b1S n10 (G.lt _ (getD_mem hj))
 have rel:∀ {i j:Nat},i < P.length->j < P.length->i ≠ j->(RnP P.length (qT ts P P.length) [] i j ↔ TR ts (P.getD i []) (P.getD j [])):=λ {i j} hi hj ne=>by
  show a2X P.length (qT ts P P.length) i j = true ↔ _
  unfold a2X
  rw [Bool.and_eq_true,decide_eq_true_iff,Bool.or_eq_true,Bool.or_eq_true,decide_eq_true_iff,decide_eq_true_iff,decide_eq_true_iff,mem_qT,mem_qT]
  constructor
  ·rintro ⟨_,(h | ⟨a,b,ab,bl,e,t⟩) | ⟨a,b,ab,bl,e,t⟩⟩
   ·exact absurd h.symm ne
   ·have e1:=congrArg Prod.fst e
    have e2:=congrArg Prod.snd e
    dsimp only at e1 e2
    obtain rfl:i = a:=by omega
    obtain rfl:j = b:=by omega
    exact (tch hi hj).mp t
   ·have e1:=congrArg Prod.fst e
    have e2:=congrArg Prod.snd e
    dsimp only at e1 e2
    obtain rfl:j = a:=by omega
    obtain rfl:i = b:=by omega
    exact ((tch hj hi).mp t).symm
  ·intro t
   refine ⟨⟨hi,hj⟩,?_⟩
   rcases Nat.lt_or_ge i j with c | c
   ·exact .inl (.inr ⟨i,j,c,hj,rfl,(tch hi hj).mpr t⟩)
   ·exact .inr ⟨j,i,by omega,hi,rfl,(tch hj hi).mpr t.symm⟩
 constructor
 ·intro h
  have sp:∀ p,∃ i,p ∈ P->i < P.length/\P.getD i [] = p:=λ p=>by
   by_cases c:p ∈ P
   ·obtain ⟨i,a,b⟩:=c7M c; exact ⟨i,λ _=>⟨a,b⟩⟩
   ·exact ⟨0,λ z=>absurd z c⟩
  refine h.map (λ p=>(sp p).choose) (λ p hp=>⟨((sp p).choose_spec hp).1,List.not_mem_nil⟩) (λ p q hp hq e=>?_) λ p q hp hq ne t=>?_
  ·have h1:=((sp p).choose_spec hp).2
   have h2:=((sp q).choose_spec hq).2
   rw [<- h1,<- h2]
   exact congrArg (λ i=>P.getD i []) e
  ·obtain ⟨a1,a2⟩:=(sp p).choose_spec hp
   obtain ⟨b1,b2⟩:=(sp q).choose_spec hq
   refine (rel a1 b1 λ z=>ne ?_).mpr (by rw [a2,b2]; exact t)
   rw [<- a2,<- b2,z]
 ·intro h
  refine h.map (λ i=>P.getD i []) (λ i hi=>getD_mem hi.1) (λ i j hi hj e=>a8M G.nd hi.1 hj.1 e) λ i j hi hj ne t=>(rel hi.1 hj.1 ne).mp t
theorem a2B {α β:Type} {R:α->β->Prop}:∀ {xs xs':List α} {ys ys':List β},Paired R xs ys->Paired R xs' ys'->Paired R (xs ++ xs') (ys ++ ys')
 | _,_,_,_,.nil,h=>h
 | _,_,_,_,.cons a b,h=>.cons a (a2B b h)
theorem d0B {n:Nat} {b:List Int} (n10:n <= 10) (nd:b.Nodup) (bd:∀ v ∈ b,0 <= v/\v < (n:Int)):b.length <= 10:=by
 have:=pigN (U:=(List.range 10).map λ i=>((i:Nat):Int)) nd λ v hv=>by
  have:=bd v hv
  exact List.mem_map.mpr ⟨v.toNat,List.mem_range.mpr (by omega),by omega⟩
 rwa [List.length_map,List.length_range] at this
def d0C (K:Φρ):Sp:=λ vs H Q _=>∃ (g:V) (n:Nat) (ts:List ζζ) (a:Addr) (xs:List V) (P:List (List Int)),vs = [g,.ref a]/\GraphV K H g n ts/\n <= 10/\ts.length <= 400/\(∀ t ∈ ts,0 <= t.1/\t.1 < 16/\0 <= t.2/\t.2 < 16)/\SqL K H a xs/\Paired (LstV K H) xs P/\Prt n ts P/\P.length <= 10 /\
 ∀ H' b,Same H H'->(b = true ↔ ¬ FoP ts P)->Q (.bl b) H'
section
variable {P:Program} {w:World} {K:Φρ} {mg:Str->Option Value} {base:Heap}
abbrev DZ13 (K:PySem.W.Frag) (mg:Str->Option Value):=Dn K mg "is_firm" b1R ["graph", "parts"]
set_option maxHeartbeats 8000000 in
theorem a8N (B:Bl mg) (dZ16:DZ16 K mg) (dZ12:DZ12 K mg) (dZ6:DZ6 K mg) (dZ20:DZ20 K mg) (dZ17:DZ17 K mg) (dZ5:DZ5 K mg) (dZ30:DZ30 K mg) (dZ34:DZ34 K mg) (dZ28:DZ28 K mg) (dZ23:DZ23 K mg) (dZ8:DZ8 K mg) (dZ33:DZ33 K mg) (dZ10:DZ10 K mg) (dZ9:DZ9 K mg) (dZ13:DZ13 K mg):FnOk P w K mg base CX0 6 dZ13.f dZ13.fd ["graph", "parts"] (d0C K):=by
 have gZ34:FnOk P w K mg base CX0 5 _ _ _ _:=b4W B dZ16 dZ12 dZ6 dZ20 dZ17 dZ5 dZ30 dZ34
 have gZ10:FnOk P w K mg base CX0 5 _ _ _ _:=(b5C B dZ20 dZ28 dZ23 dZ8 dZ33 dZ10 dZ9).mono (by decide)
 refine dZ13.F.ok sc_is_firm (λ vs H Q E h=>?_) (λ cdv A outer s H vs Q E hr h=>?_)
 ·obtain ⟨g,n,ts,a,xs,P,rfl,_⟩:=h
  rfl
 obtain ⟨g,n,ts,a,xs,P',rfl,hG,n10,l400,t16,hA,pA,G,P10,q⟩:=h
 have lx:=Paired.length pA
 refine ⟨_,(a0C (a0L (i:=2) sc_is_firm.nd rfl (Or.inl rfl) (a1G a0B))
   (a0C (a1U PassesOwn.never rfl (a1E rfl B.range (a0A (a0N (a0T (K:=K) rfl) rfl B.len (by decide +kernel) (a0A (pv 1) a0B)) a0B)) (a0H (i:=3) sc_is_firm.nd rfl (Or.inr rfl))
   (a0D (a2L (a3A (K:=K) rfl PySem.F.plainAttrs_list PySem.F.slot_list_extend PySem.F.type_list_extend b5S (pv 2) (a0A (a3K ["j", "k", "graph", "parts"] [none,some 3,some 0,some 1]  (by kernel_rfl) rfl (a1E rfl B.range (a0A (pv 3) a0B)) (λ _ _ _ _ _=>(a0H (i:=0) (show (["j", "k", "graph", "parts"]:List Str).Nodup by decide +kernel) rfl (Or.inl rfl))) (λ _ _ _ _ _=>(a2O (a0W (K:=K) rfl (a0F gZ34 hr rfl dZ34.m dZ34.F.kp dZ34.b .nil a0M (a0A (pv 2) (a0A (a0U (a0I (K:=K) rfl) (pv 3) (pv 0) (λ _ _=>rfl)) (a0A (a0U (a0I (K:=K) rfl) (pv 3) (pv 1) (λ _ _=>rfl)) a0B)))) (λ _=>rfl)))) (λ _ _ _ _ _=>(a1W (a0A (pv 0) (a0A (pv 1) a0B))))) a0B)))))
   (a0D (a0K (a2C (a8B (K:=K) rfl) rfl B.bool (by decide +kernel) (a0A (a0U (a1P (K:=K) rfl) (a0F gZ10 hr rfl dZ10.m dZ10.F.kp dZ10.b .nil a0M (a0A (a1W (a0A (a0N (a0T (K:=K) rfl) rfl B.len (by decide +kernel) (a0A (pv 1) a0B)) (a0A (pv 2) a0B))) a0B)) a0G (λ _ _=>rfl)) a0B)))))),?_⟩
 refine ⟨(by show 0 <= 1000; decide),λ p1 H1 n1=>?_⟩
 refine ⟨_,rfl,a,_,rfl,.inl (n1.same.seq hA),_,rfl,by omega,by omega,?_⟩
 rw [Int.toNat_natCast]
 refine a1R (n:=xs.length) (λ k σ H'=>(∃ kk:Option V,σ = [some g,some (.ref a),some (.ref p1),kk])/\Same H H'/\∃ ys,H' p1 = some (.lst ys)/\Paired (TieL H') ys (qT ts P' k)) ⟨⟨none,rfl⟩,n1.same,[],n1.here,.nil⟩ ?_ ?_
 ·rintro k σ H2 hk ⟨⟨kk,rfl⟩,s2,ys,hy,py⟩
  have ek:(0:Int) + (k:Int) = ((k:Nat):Int):=by omega
  rw [ek]
  have kl:k < P'.length:=by omega
  refine ⟨_,rfl,.inl ⟨rfl,_,SqL.of hy⟩,?_⟩
  refine ⟨_,rfl,_,rfl,by omega,by omega,?_⟩
  rw [Int.toNat_natCast]
  have bagA:∀ {i:Nat} {H':Hp},Same H H'->i < P'.length->∃ b,xs[i]? = some (.ref b)/\SqL K H' b ((P'.getD i []).map V.int):=λ {i H'} s' il=>by
   obtain ⟨v,hv,b,rfl,hb⟩:=a2H pA (List.getElem?_eq_getElem il)
   refine ⟨b,hv,?_⟩
   rw [τα,List.getElem?_eq_getElem il]
   exact s'.seq hb
  refine a8W (λ i zs H'=>Same H2 H'/\Paired (TieL H') zs (((List.range i).filter λ j=>a2R ts (P'.getD j []) (P'.getD k [])).map λ j=>(((j:Nat):Int),((k:Nat):Int)))) ⟨Same.refl _,.nil⟩ (λ i zs H' hi ⟨_,p⟩=>?_) (λ i zs H3 hi ⟨s3,p3⟩=>?_) (λ zs H3 ⟨s3,p3⟩ p4 hp4=>?_)
  ·have e:=Paired.length p
   rw [List.length_map] at e
   have:=List.length_filter_le (λ j=>a2R ts (P'.getD j []) (P'.getD k [])) (List.range i)
   rw [List.length_range] at this
   exact Nat.le_of_lt (a0V (by omega))
  ·have e0:(0:Int) + (i:Int) = ((i:Nat):Int):=by omega
   rw [e0]
   obtain ⟨bi,hbi,hi'⟩:=bagA (i:=i) (s2.trans s3) (by omega)
   obtain ⟨bk,hbk,hk'⟩:=bagA (i:=k) (s2.trans s3) kl
   have s03:=s2.trans s3
   refine ⟨_,rfl,_,rfl,_,rfl,a,_,_,_,rfl,rfl,s03.seq hA,a2M hbi,_,rfl,_,rfl,a,_,_,_,rfl,rfl,s03.seq hA,a2M hbk,g,n,ts,bi,bk,P'.getD i [],P'.getD k [],rfl,hG.same s03,by omega,l400,t16,hi',G.lt _ (getD_mem (by omega)),?_,hk',λ H4 s4=>?_⟩
   ·have:=d0B n10 ((G.asc _ (getD_mem (show i < P'.length by omega))).imp λ h=>by omega) (G.lt _ (getD_mem (show i < P'.length by omega)))
    omega
   ·refine ⟨_,rfl,?_⟩
    rw [List.range_succ,List.filter_append,List.map_append]
    have s34:=s3.trans s4
    cases c:a2R ts (P'.getD i []) (P'.getD k []) with
    | true =>
     refine iteT ⟨_,rfl,_,rfl,(by show 2 <= 1000; decide),λ p5 H5 n5=>⟨s34.trans n5.same,?_⟩⟩
     rw [List.filter_cons,c]
     exact a0R (Paired.mapP p3 λ _ _ h=>TieL.same (s4.trans n5.same) h) ⟨p5,rfl,n5.here⟩
    | false =>
     refine iteF ⟨s34,?_⟩
     rw [List.filter_cons,c,show ((if (false = true) then i :: List.filter (λ j=>a2R ts (P'.getD j []) (P'.getD k [])) [] else List.filter (λ j=>a2R ts (P'.getD j []) (P'.getD k [])) [])) = [] from rfl,List.map_nil,List.append_nil]
     exact Paired.mapP p3 λ _ _ h=>TieL.same s4 h
  ·have n4:New H3 p4 (.lst zs) (upd H3 p4 (.lst zs)):=New.mk0 hp4
   generalize upd H3 p4 (.lst zs) = H4 at n4 ⊢
   have s24:=s3.trans n4.same
   have ly:=Paired.length py
   have lz:=Paired.length p3
   have q1:=c0L ts P' k
   have q2:=c0K ts P' k
   have kk10:k * k <= 10 * 10:=Nat.mul_le_mul (by omega) (by omega)
   have q3:zs.length <= k:=by rw [lz]; exact q2
   refine ⟨p1,p4,ys,zs,rfl,rfl,s24 _ _ hy,n4.here,(by omega),λ H5 c5=>⟨⟨_,rfl⟩,(s2.trans s24).chg n1.fresh c5,ys ++ zs,c5.here,?_⟩⟩
   show Paired (TieL H5) (ys ++ zs) (qT ts P' k ++ qTk ts P' k)
   exact a2B (Paired.mapP py λ _ _ h=>(TieL.same s24 h).chg (s24 _ _ hy) c5) (Paired.mapP p3 λ _ _ h=>(TieL.same n4.same h).chg (s24 _ _ hy) c5)
 ·rintro σ H2 ⟨⟨kk,rfl⟩,s2,ys,hy,py⟩
  rw [lx] at py
  dsimp only
  have ly:=Paired.length py
  have q1:=c0L ts P' P'.length
  have mm:P'.length * P'.length <= 10 * 10:=Nat.mul_le_mul P10 P10
  refine ⟨_,rfl,a,_,rfl,.inl (s2.seq hA),_,rfl,(by show 2 <= 1000; decide),λ p3 H3 n3=>?_⟩
  rw [lx] at n3
  refine ⟨.ref p3,P'.length,qT ts P' P'.length,rfl,⟨p3,p1,rfl,SqT.of n3.here,ys,SqL.of (n3.same _ _ hy),Paired.mapP py λ _ _ h=>(TieL.same n3.same h).v,by omega⟩,(λ t ht=>?_),P10,λ p pst pl ps qs S H4 s4 hp hst stp hpl FR st _ _=>?_⟩
  ·obtain ⟨i,j,a,b,e,_⟩:=mem_qT.mp ht
   rw [e]
   dsimp only
   omega
  ·refine ⟨p,_,_,_,rfl,rfl,SqT.of hp,rfl,pl,_,rfl,SqL.of hpl,?_⟩
   refine q H4 _ (s2.trans (n3.same.trans s4)) ?_
   rw [<- c3D n10 G,<- c0J FR st]
   cases a5N P'.length S with
   | nil=>exact ⟨λ h=>(by cases h),λ h=>absurd rfl h⟩
   | cons x r=>exact ⟨λ _ h=>(by cases h),λ _=>rfl⟩
end
end K
namespace K
open PySem L2 Lw Bg
theorem c7N {ta tb:TT} {σ:St} {H:Hp} {b1 b2:Bool} {Q:Bool->Hp->Prop} (h1:∀ Q:Bool->Hp->Prop,Q b1 H->ta σ H Q) (h2:∀ Q:Bool->Hp->Prop,Q b2 H->tb σ H Q) (h:Q (b1 || b2) H):tOr ta tb σ H Q:=by
 refine h1 _ ?_
 cases b1 with
 | true=>exact iteT h
 | false=>exact iteF (h2 _ h)
abbrev c4V:Stmt:=top 31
theorem sc_four:FnScope ["graph", "parts", "v", "a", "b"] ["graph"] (a0E c4V):=⟨rfl,rfl,rfl,by decide +kernel,rfl,by decide +kernel,by decide +kernel⟩
abbrev b1T:Stmt:=top 33
theorem b6I:FnScope ["graph", "fewer", "parts"] ["graph", "fewer", "parts"] (a0E b1T):=⟨rfl,rfl,rfl,by decide +kernel,rfl,by decide +kernel,by decide +kernel⟩
abbrev a5P:Stmt:=top 34
theorem sc_made_one:FnScope ["parts", "a", "b", "met"] ["parts", "a", "b"] (a0E a5P):=⟨rfl,rfl,rfl,by decide +kernel,rfl,by decide +kernel,by decide +kernel⟩
def bagD (b:List Int):PyData:=.list (b.map PyData.int)
theorem c7O (b:List Int):(bagD b).canLay0 = true:=by
 have h:=a3F b
 unfold SeqAt.shaped at h
 rw [Bool.and_eq_true] at h
 exact h.1
theorem c0M (b:List Int):(bagD b).depth <= 1:=by
 unfold bagD
 rw [PyData.depth]
 have:=a3N (k:=0) (f:=PyData.int) (λ b=>by simp [PyData.depth]) b
 omega
theorem b3K (bs:List (List Int)):SeqAt.shaped (.list (bs.map bagD)) = true:=by
 unfold SeqAt.shaped
 rw [PyData.canLay0,b2S c7O,PyData.depth,Bool.true_and]
 exact decide_eq_true (by have:=a3N c0M bs; omega)
theorem b5D {K:Φρ} {H:Hp} {v:V} {s:List Int} (h:LstV K H v s):IsD K H v (bagD s):=by
 obtain ⟨p,rfl,h⟩:=h
 exact .lst h (IsDs.ints _)
theorem c0N {K:Φρ} {H:Hp} {xs:List V} {P:List (List Int)} (h:Paired (LstV K H) xs P):IsDs K H xs (P.map bagD):=by
 induction h with
 | nil=>exact .nil
 | cons a _ ih=>exact .cons (b5D a) ih
theorem c7P (D:List (List Int)) (p:List Int):(D.map bagD).any (λ e=>PyData.eqv e (bagD p)) = decide (p ∈ D):=by
 rw [List.any_map,Bool.eq_iff_iff,List.any_eq_true,decide_eq_true_iff]
 have e:∀ x:List Int,PyData.eqv (bagD x) (bagD p) = decide (x = p):=λ x=>c1Y x p
 constructor
 ·rintro ⟨x,hx,h⟩
  have h':PyData.eqv (bagD x) (bagD p) = true:=h
  rw [e] at h'
  exact of_decide_eq_true h' ▸ hx
 ·exact λ h=>⟨p,h,by show PyData.eqv (bagD p) (bagD p) = true; rw [e]; exact decide_eq_true rfl⟩
theorem c0O {K:Φρ} {H:Hp} {b:Addr} {v:V} {ys:List V} {D:List (List Int)} {p:List Int} {Q:VK} (hv:LstV K H v p) (hB:SqL K H b ys) (pB:Paired (LstV K H) ys D) (q:Q (.bl (!decide (p ∈ D))) H):rInD K true v (.ref b) H Q :=
 ⟨_,_,b5D hv,.lst hB (c0N pB),a3F p,b3K D,by rw [c7P]; exact q⟩
def c7Q (K:Φρ):Sp:=λ vs H Q _=>∃ (a b:Addr) (xs ys:List V) (P D:List (List Int)),vs = [.ref a,.ref b]/\SqL K H a xs/\Paired (LstV K H) xs P/\SqL K H b ys/\Paired (LstV K H) ys D/\P.length <= 900 /\
 ∀ H0 p zs H',Same H H0->New H0 p (.lst zs) H'->(∀ R:V->List Int->Prop,Paired R xs P->Paired R zs (a4D P D))->Q (.ref p) H'
theorem a2I {α β:Type} {R:α->β->Prop}:∀ {xs:List α} {ys:List β} (i:Nat),Paired R xs ys->Paired R (xs.take i) (ys.take i)
 | _,_,0,_=>.nil
 | _,_,_ + 1,.nil=>.nil
 | _,_,i + 1,.cons q r=>.cons q (a2I i r)
section
variable {P:Program} {w:World} {K:Φρ} {mg:Str->Option Value} {base:Heap}
set_option maxHeartbeats 4000000 in
theorem b5E (B:Bl mg) (dZ20:DZ20 K mg):FnOk P w K mg base CX0 1 dZ20.f dZ20.fd ["one", "other"] (c7Q K):=by
 refine dZ20.F.ok b9R (λ vs H Q E h=>?_) (λ cdv A outer s H vs Q E hr h=>?_)
 ·obtain ⟨a,b,xs,ys,P',D,rfl,_⟩:=h
  rfl
 obtain ⟨a,b,xs,ys,P',D,rfl,hA,pA,hB,pB,hz,q⟩:=h
 have hv:(A.deeper (PyProof.Rows.envOfC "less" (a0E b4U) s.heap.objs.size dZ20.f cdv)).units + 65 < cLine:=by have:=hr.un; omega
 have lx:=Paired.length pA
 refine ⟨_,(a0D (a0K (a3K ["v", "other"] [none,some 1]  (by kernel_rfl) rfl (a0P (K:=K) rfl (pv 0)) (λ _ _ _ _ _=>(a0H (i:=0) (show (["v", "other"]:List Str).Nodup by decide +kernel) rfl (Or.inl rfl))) (λ _ _ _ _ _=>(a2O (a0O (a5I (K:=K) rfl hv) (pv 0) (pv 1) (by with_unfolding_all rfl)))) (λ _ _ _ _ _=>(pv 0))))),?_⟩
 refine ⟨_,rfl,a,rfl,⟨_,hA⟩,?_⟩
 refine a4G (K:=K) (a:=a) (xs:=xs) (λ i zs H'=>H' = H/\zs.length <= i/\∀ R:V->List Int->Prop,Paired R xs P'->Paired R zs (a4D (P'.take i) D)) ⟨rfl,Nat.le_refl _,λ _ _=>.nil⟩ (λ i zs H' hi ⟨e,l,_⟩=>⟨e ▸ hA,Nat.le_of_lt (a0V (by omega))⟩) (λ i x zs H3 hx ⟨e3,l3,r3⟩=>?_) (λ zs H3 ⟨e3,l3,r3⟩ p4 hp4=>?_)
 ·subst e3
  obtain ⟨p,hp,hl⟩:=paired_get pA hx
  have et:P'.take (i + 1) = P'.take i ++ [p]:=by rw [List.take_succ,hp]; rfl
  refine ⟨_,rfl,_,rfl,c0O hl hB pB ⟨_,rfl,?_⟩⟩
  rw [et]
  unfold a4D
  rw [List.filter_append,List.filter_cons]
  cases c:decide (p ∈ D) with
  | true=>exact iteF ⟨rfl,by omega,λ R h=>by
    have:=r3 R h
    unfold a4D at this
    rw [show (if (!true) = true then p :: List.filter (λ p=>!decide (p ∈ D)) [] else List.filter (λ p=>!decide (p ∈ D)) []) = [] from rfl,List.append_nil]
    exact this⟩
  | false=>exact iteT ⟨_,rfl,rfl,by rw [List.length_append]; show zs.length + 1 <= _; omega,λ R h=>by
    have:=r3 R h
    obtain ⟨p',hp',hR⟩:=paired_get h hx
    rw [hp] at hp'
    cases hp'
    exact a0R this hR⟩
 ·subst e3
  refine q _ _ zs _ (Same.refl _) (New.mk0 hp4) λ R h=>?_
  have:=r3 R h
  rwa [lx,List.take_length] at this
end
def PtL (H0 H:Hp) (v:V) (b:List Int):Prop:=∃ p,v = .ref p/\H p = some (.lst (b.map V.int))/\H0 p = none
theorem PtL.same {H0 H H':Hp} {v:V} {b:List Int} (s:Same H H') (h:PtL H0 H v b):PtL H0 H' v b:=by
 obtain ⟨p,e,q,f⟩:=h
 exact ⟨p,e,s _ _ q,f⟩
theorem PtL.l {K:Φρ} {H0 H:Hp} {v:V} {b:List Int} (h:PtL H0 H v b):LstV K H v b:=by
 obtain ⟨p,e,q,f⟩:=h
 exact ⟨p,e,SqL.of q⟩
theorem Prt.len {n:Nat} {ts:List ζζ} {P:List (List Int)} (G:Prt n ts P) (n10:n <= 10):P.length <= 10:=by
 have h:∀ p ∈ P,p.headD 0 ∈ p:=λ p hp=>by
  have:=G.ne p hp
  cases p with
  | nil=>exact absurd rfl this
  | cons a r=>exact List.mem_cons_self
 have nd:(P.map λ p=>p.headD 0).Nodup:=b1Q G.nd λ p q hp hq e=>G.same hp hq (h p hp) (by rw [e]; exact h q hq)
 have:=d0B n10 nd λ v hv=>by
  obtain ⟨p,hp,rfl⟩:=List.mem_map.mp hv
  exact G.lt p hp _ (h p hp)
 rwa [List.length_map] at this
inductive MdO (P:List (List Int)) (a b:Int):List (List Int)->Prop
 | no:(∀ p q,p ∈ P->q ∈ P->a ∈ p->b ∈ q->p = q)->MdO P a b P
 | yes {p q:List Int}:p ∈ P->q ∈ P->p ≠ q->((a ∈ p/\b ∈ q)\/(b ∈ p/\a ∈ q))->MdO P a b (oneP P p q)
def metP (P:List (List Int)) (a b:Int):List (List Int):=P.filter λ p=>decide (a ∈ p) || decide (b ∈ p)
theorem mem_metP {P:List (List Int)} {a b:Int} {p:List Int}:p ∈ metP P a b ↔ p ∈ P/\(a ∈ p\/b ∈ p):=by
 unfold metP
 rw [List.mem_filter,Bool.or_eq_true,decide_eq_true_iff,decide_eq_true_iff]
theorem c7R {n:Nat} {ts:List ζζ} {P:List (List Int)} {a b:Int} (G:Prt n ts P) (l:¬ (metP P a b).length < 2):∃ p q,metP P a b = [p,q]/\p ∈ P/\q ∈ P/\p ≠ q/\((a ∈ p/\b ∈ q)\/(b ∈ p/\a ∈ q)):=by
 have nd:(metP P a b).Nodup:=G.nd.sublist List.filter_sublist
 have mm:∀ p ∈ metP P a b,p ∈ P/\(a ∈ p\/b ∈ p):=λ p hp=>mem_metP.mp hp
 match e:metP P a b,l with
 | [],l=>exact absurd (by decide) l
 | [_],l=>exact absurd (by simp) l
 | p :: q :: r,_ =>
  rw [e] at nd mm
  obtain ⟨n1,n2⟩:=List.nodup_cons.mp nd
  obtain ⟨n3,_⟩:=List.nodup_cons.mp n2
  obtain ⟨hp,ap⟩:=mm p List.mem_cons_self
  obtain ⟨hq,aq⟩:=mm q (by simp)
  have npq:p ≠ q:=λ z=>n1 (by rw [z]; exact List.mem_cons_self)
  have er:r = []:=by
   cases r with
   | nil=>rfl
   | cons s r =>
    obtain ⟨hs,as⟩:=mm s (by simp)
    have nps:p ≠ s:=λ z=>n1 (by rw [z]; simp)
    have nqs:q ≠ s:=λ z=>n3 (by rw [z]; simp)
    rcases ap with x | x <;> rcases aq with y | y <;> rcases as with z | z
    ·exact absurd (G.same hp hq x y) npq
    ·exact absurd (G.same hp hq x y) npq
    ·exact absurd (G.same hp hs x z) nps
    ·exact absurd (G.same hq hs y z) nqs
    ·exact absurd (G.same hq hs y z) nqs
    ·exact absurd (G.same hp hs x z) nps
    ·exact absurd (G.same hp hq x y) npq
    ·exact absurd (G.same hp hq x y) npq
  refine ⟨p,q,by rw [er],hp,hq,npq,?_⟩
  rcases ap with x | x <;> rcases aq with y | y
  ·exact absurd (G.same hp hq x y) npq
  ·exact .inl ⟨x,y⟩
  ·exact .inr ⟨x,y⟩
  ·exact absurd (G.same hp hq x y) npq
def c0P (K:Φρ):Sp:=λ vs H Q _=>∃ (H0:Hp) (l:Addr) (xs:List V) (P:List (List Int)) (a b:Int) (n:Nat) (ts:List ζζ),vs = [.ref l,.int a,.int b]/\Same H0 H/\H l = some (.lst xs)/\H0 l = none/\Paired (PtL H0 H) xs P/\Prt n ts P/\n <= 10 /\
 ∀ l' xs' P' H',Same H H'->H' l' = some (.lst xs')->H0 l' = none->Paired (PtL H0 H') xs' P'->MdO P a b P'->Q (.ref l') H'
def c3E (K:Φρ):Sp:=λ vs H Q _=>∃ (g:V) (n:Nat) (ts:List ζζ) (f p:Addr) (xs:List V) (P:List (List Int)),vs = [g,.ref f,.ref p]/\GraphV K H g n ts/\n <= 10/\ts.length <= 400/\(∀ t ∈ ts,0 <= t.1/\t.1 < 16/\0 <= t.2/\t.2 < 16)/\SqL K H f xs/\Paired (LstV K H) xs P/\Prt n ts P /\
 ∀ H',Same H H'->(FoP ts P->Q (.ref p) H')/\(¬ FoP ts P->Q (.ref f) H')
section
variable {P:Program} {w:World} {K:Φρ} {mg:Str->Option Value} {base:Heap}
abbrev DZ22 (K:PySem.W.Frag) (mg:Str->Option Value):=Dn K mg "made_one" a5P ["parts", "a", "b"]
set_option maxHeartbeats 8000000 in
theorem b3L (B:Bl mg) (dZ17:DZ17 K mg) (dZ20:DZ20 K mg) (dZ22:DZ22 K mg):FnOk P w K mg base CX0 2 dZ22.f dZ22.fd ["parts", "a", "b"] (c0P K):=by
 have gZ20:FnOk P w K mg base CX0 1 _ _ _ _:=b5E B dZ20
 have gZ17:FnOk P w K mg base CX0 1 _ _ _ _:=a6L B dZ17
 refine dZ22.F.ok sc_made_one (λ vs H Q E h=>?_) (λ cdv A outer s H vs Q E hr h=>?_)
 ·obtain ⟨H0,l,xs,P',a,b,n,ts,rfl,_⟩:=h
  rfl
 obtain ⟨H0,l,xs,P',a,b,n,ts,rfl,s0,hL,f0,pX,G,n10,q⟩:=h
 have hv:(A.deeper (PyProof.Rows.envOfC "made_one" (a0E a5P) s.heap.objs.size dZ22.f cdv)).units + 65 < cLine:=by have:=hr.un; omega
 have lx:=Paired.length pX
 have P10:=G.len n10
 refine ⟨_,(a0C (a3E (i:=3) ["part", "a", "b"] [none,some 1,some 2] sc_made_one.nd rfl rfl (by kernel_rfl) rfl (a0P (K:=K) rfl (pv 0)) (λ _ _ _ _ _=>(a0H (i:=0) (show (["part", "a", "b"]:List Str).Nodup by decide +kernel) rfl (Or.inl rfl))) (λ _ _ _ _ _=>(a2O (PW.pt (a9X (a0O (a6U (K:=K) rfl hv) (pv 1) (pv 0) (by with_unfolding_all rfl)) (a7V (a0O (a6U (K:=K) rfl hv) (pv 2) (pv 0) (by with_unfolding_all rfl))))))) (λ _ _ _ _ _=>(pv 0)) (by rfl))
   (a0C (a2Y (a0O a8S (a0N (a0T (K:=K) rfl) rfl B.len (by decide +kernel) (a0A (pv 3) a0B)) a0G (a1J _))
   (a0D (a0K (pv 0)))
   a1O)
   (a0D (a0K (a0Q a8X (a0F gZ20 hr rfl dZ20.m dZ20.F.kp dZ20.b .nil a0M (a0A (pv 0) (a0A (pv 3) a0B))) (a1G (a0A (a0F gZ17 hr rfl dZ17.m dZ17.F.kp dZ17.b .nil a0M (a0A (a0U (a0I (K:=K) rfl) (pv 3) a0G (λ _ _=>rfl)) (a0A (a0U (a0I (K:=K) rfl) (pv 3) a0G (λ _ _=>rfl)) a0B))) a0B))))))),?_⟩
 refine ⟨_,rfl,l,rfl,⟨_,SqL.of hL⟩,?_⟩
 refine a4G (K:=K) (a:=l) (xs:=xs) (λ i zs H'=>H' = H/\zs.length <= i/\Paired (PtL H0 H) zs (metP (P'.take i) a b)) ⟨rfl,Nat.le_refl _,.nil⟩ (λ i zs H' hi ⟨e,l',_⟩=>⟨e ▸ SqL.of hL,Nat.le_of_lt (a0V (by omega))⟩) (λ i x zs H3 hx ⟨e3,l3,r3⟩=>?_) (λ zs H3 ⟨e3,l3,r3⟩ p4 hp4=>?_)
 ·subst e3
  obtain ⟨p,hp,hl⟩:=paired_get pX hx
  have et:P'.take (i + 1) = P'.take i ++ [p]:=by rw [List.take_succ,hp]; rfl
  obtain ⟨b',rfl,hb',fb'⟩:=id hl
  refine c7N (b1:=decide (a ∈ p)) (b2:=decide (b ∈ p)) (λ Q h=>⟨_,rfl,_,rfl,b0P (SqL.of hb') ⟨_,rfl,h⟩⟩) (λ Q h=>⟨_,rfl,_,rfl,b0P (SqL.of hb') ⟨_,rfl,h⟩⟩) ?_
  rw [et]
  unfold metP
  rw [List.filter_append,List.filter_cons]
  cases c:(decide (a ∈ p) || decide (b ∈ p)) with
  | true=>exact iteT ⟨_,rfl,rfl,by rw [List.length_append]; show zs.length + 1 <= _; omega,a0R r3 hl⟩
  | false =>
   refine iteF ⟨rfl,by omega,?_⟩
   rw [show (if (false = true) then p :: List.filter (λ p=>decide (a ∈ p) || decide (b ∈ p)) [] else List.filter (λ p=>decide (a ∈ p) || decide (b ∈ p)) []) = [] from rfl,List.append_nil]
   exact r3
 ·subst e3
  rw [lx,List.take_length] at r3
  have n4:New H3 p4 (.lst zs) (upd H3 p4 (.lst zs)):=New.mk0 hp4
  generalize upd H3 p4 (.lst zs) = H4 at n4 ⊢
  have lz:=Paired.length r3
  refine ⟨_,rfl,p4,_,rfl,.inl (SqL.of n4.here),_,_,rfl,rfl,_,rfl,ite2 (λ c=>?_) (λ c=>?_)⟩
  ·have c':((zs.length:Nat):Int) < 2:=of_decide_eq_true c
   refine ⟨_,rfl,q l xs P' H4 n4.same (n4.same _ _ hL) f0 (Paired.mapP pX λ _ _ h=>h.same n4.same) (.no λ p r hp hr ha hb=>Classical.byContradiction λ ne=>?_)⟩
   have:=pigN (l:=[p,r]) (U:=metP P' a b) (by simp [ne]) λ x hx=>by
    rcases List.mem_cons.mp hx with rfl | hx
    ·exact mem_metP.mpr ⟨hp,.inl ha⟩
    ·rw [List.mem_singleton.mp hx]; exact mem_metP.mpr ⟨hr,.inr hb⟩
   rw [<- lz] at this
   have:2 <= zs.length:=this
   omega
  ·have c':¬ ((zs.length:Nat):Int) < 2:=of_decide_eq_false (Bool.eq_false_iff.mpr c)
   obtain ⟨p,r,em,hp,hr',ne,ab⟩:=c7R (a:=a) (b:=b) G (by rw [<- lz]; omega)
   rw [em] at r3
   cases r3 with
   | @cons v1 _ z1 _ h1 t1 =>
   cases t1 with
   | @cons v2 _ z2 _ h2 t2 =>
   cases t2
   obtain ⟨a1,rfl,k1,f1⟩:=id h1
   obtain ⟨a2,rfl,k2,f2⟩:=id h2
   have pX4:=Paired.mapP pX λ _ _ h=>PtL.same n4.same h
   refine ⟨_,rfl,_,rfl,l,p4,xs,_,P',[p,r],rfl,SqL.of (n4.same _ _ hL),Paired.mapP pX4 λ _ _ h=>h.l,SqL.of n4.here,.cons (h1.same n4.same).l (.cons (h2.same n4.same).l .nil),by omega,λ H5 p6 ws H6 s5 n6 hR=>?_⟩
   have s46:=s5.trans n6.same
   have s36:=n4.same.trans s46
   have sm:∀ {x},x ∈ P'->a7O x:=λ hx v hv=>by have:=G.lt _ hx v hv; exact ⟨this.1,by omega⟩
   refine ⟨_,rfl,p4,_,_,_,rfl,rfl,SqL.of (s46 _ _ n4.here),rfl,_,rfl,p4,_,_,_,rfl,rfl,SqL.of (s46 _ _ n4.here),rfl,a1,a2,p,r,rfl,SqL.of (s36 _ _ k1),SqL.of (s36 _ _ k2),sm hp,sm hr',λ H7 p8 H8 s7 n8=>⟨(by show 1 <= 1000; decide),λ p9 H9 n9=>?_⟩⟩
   have s69:=s7.trans (n8.same.trans n9.same)
   have pw:=hR _ pX
   have lw:=Paired.length pw
   have lw2:(a4D P' [p,r]).length <= P'.length:=List.length_filter_le _ _
   refine ⟨p6,p9,_,_,rfl,rfl,s69 _ _ n6.here,n9.here,(by show ws.length + 1 <= 1000; omega),λ p10 H10 n10'=>?_⟩
   have s610:=s69.trans n10'.same
   have s310:=s36.trans s610
   have f8:H0 p8 = none:=s0.free (s36.free (s7.free n8.fresh))
   have f10:H0 p10 = none:=s0.free (s36.free (s69.free n10'.fresh))
   refine q p10 _ (oneP P' p r) H10 s310 n10'.here f10 (a0R (Paired.mapP pw λ _ _ h=>h.same s310) ⟨p8,rfl,n10'.same _ _ (n9.same _ _ n8.here),f8⟩) (.yes hp hr' ne ab)
abbrev DZ7 (K:PySem.W.Frag) (mg:Str->Option Value):=Dn K mg "firm_of" b1T ["graph", "fewer", "parts"]
set_option maxHeartbeats 8000000 in
theorem b6J (B:Bl mg) (dZ16:DZ16 K mg) (dZ12:DZ12 K mg) (dZ6:DZ6 K mg) (dZ20:DZ20 K mg) (dZ17:DZ17 K mg) (dZ5:DZ5 K mg) (dZ30:DZ30 K mg) (dZ34:DZ34 K mg) (dZ28:DZ28 K mg) (dZ23:DZ23 K mg) (dZ8:DZ8 K mg) (dZ33:DZ33 K mg) (dZ10:DZ10 K mg) (dZ9:DZ9 K mg) (dZ13:DZ13 K mg) (dZ7:DZ7 K mg):FnOk P w K mg base CX0 7 dZ7.f dZ7.fd ["graph", "fewer", "parts"] (c3E K):=by
 have gZ13:FnOk P w K mg base CX0 6 _ _ _ _:=a8N B dZ16 dZ12 dZ6 dZ20 dZ17 dZ5 dZ30 dZ34 dZ28 dZ23 dZ8 dZ33 dZ10 dZ9 dZ13
 refine dZ7.F.ok b6I (λ vs H Q E h=>?_) (λ cdv A outer s H vs Q E hr h=>?_)
 ·obtain ⟨g,n,ts,f,p,xs,P',rfl,_⟩:=h
  rfl
 obtain ⟨g,n,ts,f,p,xs,P',rfl,hG,n10,l400,t16,hF,pF,G,q⟩:=h
 refine ⟨_,(a0D (a0K (a8Q (a0W (K:=K) rfl (a0F gZ13 hr rfl dZ13.m dZ13.F.kp dZ13.b .nil a0M (a0A (pv 0) (a0A (pv 1) a0B))) (λ _=>rfl)) (pv 1) (pv 2)))),?_⟩
 refine ⟨_,rfl,_,rfl,g,n,ts,f,xs,P',rfl,hG,n10,l400,t16,hF,pF,G,G.len n10,λ H1 b s1 hb=>?_⟩
 refine ⟨_,rfl,?_⟩
 cases b with
 | true=>exact iteT ⟨_,rfl,(q H1 s1).2 (hb.mp rfl)⟩
 | false=>exact iteF ⟨_,rfl,(q H1 s1).1 (Classical.byContradiction λ z=>by have:=hb.mpr z; cases this)⟩
end
end K
namespace K
open PySem L2 Lw Bg
def sgl (n:Nat):List (List Int):=(List.range n).map λ v=>[((v:Nat):Int)]
theorem mem_sgl {n:Nat} {p:List Int}:p ∈ sgl n ↔ ∃ v:Nat,v < n/\p = [(v:Int)]:=by
 unfold sgl
 rw [List.mem_map]
 exact ⟨λ ⟨v,h,e⟩=>⟨v,List.mem_range.mp h,e.symm⟩,λ ⟨v,h,e⟩=>⟨v,List.mem_range.mpr h,e.symm⟩⟩
theorem c7S (n:Nat) (ts:List ζζ):Prt n ts (sgl n):=by
 refine ⟨λ p hp=>?_,λ p hp=>?_,λ p hp=>?_,?_,λ p hp=>?_⟩
 ·obtain ⟨v,_,rfl⟩:=mem_sgl.mp hp
  exact List.cons_ne_nil _ _
 ·obtain ⟨v,_,rfl⟩:=mem_sgl.mp hp
  exact List.pairwise_singleton _ _
 ·obtain ⟨v,h,rfl⟩:=mem_sgl.mp hp
  intro x hx
  rw [List.mem_singleton.mp hx]
  omega
 ·unfold sgl
  rw [List.pairwise_map]
  refine List.pairwise_lt_range.imp λ {a b} h v hv hw=>?_
  have:=List.mem_singleton.mp hv
  have:=List.mem_singleton.mp hw
  omega
 ·obtain ⟨v,_,rfl⟩:=mem_sgl.mp hp
  exact Jn.one _
def FoG (n:Nat) (ts:List ζζ):Prop:=Fo (λ x:Int=>0 <= x/\x < (n:Int)) (Adj ts)
theorem fo_sgl {n:Nat} {ts:List ζζ}:FoP ts (sgl n) ↔ FoG n ts:=by
 have tr:∀ {x y:Int},x ≠ y->(TR ts [x] [y] ↔ Adj ts x y):=λ {x y} ne=>by
  constructor
  ·rintro ⟨a,ha,b,hb,h⟩
   rw [List.mem_singleton.mp ha,List.mem_singleton.mp hb] at h
   exact h.resolve_left ne
  ·exact λ h=>⟨x,List.mem_cons_self,y,List.mem_cons_self,.inr h⟩
 constructor
 ·intro h
  refine h.map (λ x=>[x]) (λ x hx=>mem_sgl.mpr ⟨x.toNat,by omega,by rw [Int.toNat_of_nonneg hx.1]⟩) (λ x y _ _ e=>List.singleton_inj.mp e) λ x y _ _ ne h=>(tr ne).mpr h
 ·intro h
  refine h.map (λ p=>p.headD 0) (λ p hp=>?_) (λ p q hp hq e=>?_) λ p q hp hq ne h=>?_
  ·obtain ⟨v,hv,rfl⟩:=mem_sgl.mp hp
   show (0:Int) <= (v:Int)/\(v:Int) < n
   omega
  ·obtain ⟨v,hv,rfl⟩:=mem_sgl.mp hp
   obtain ⟨u,hu,rfl⟩:=mem_sgl.mp hq
   exact congrArg (λ z=>[z]) e
  ·obtain ⟨v,hv,rfl⟩:=mem_sgl.mp hp
   obtain ⟨u,hu,rfl⟩:=mem_sgl.mp hq
   exact (tr λ e=>ne (congrArg (λ z=>[z]) e)).mp h
def d0D (K:Φρ):Sp:=λ vs H Q _=>∃ (g:V) (n:Nat) (ts:List ζζ),vs = [g]/\GraphV K H g n ts/\n <= 10/\ts.length <= 400/\(∀ t ∈ ts,0 <= t.1/\t.1 < t.2/\t.2 < (n:Int)) /\
 (FoG n ts->∀ H',Same H H'->Q .non H')/\(¬ FoG n ts->∀ l xs F H',Same H H'->H l = none->H' l = some (.lst xs)->Paired (PtL H H') xs F->Prt n ts F->F.length = 4->(∀ p ∈ F,∀ q ∈ F,p ≠ q->TR ts p q)->Q (.ref l) H')
section
variable {P:Program} {w:World} {K:Φρ} {mg:Str->Option Value} {base:Heap}
abbrev DZ11 (K:PySem.W.Frag) (mg:Str->Option Value):=Dn K mg "four" c4V ["graph"]
set_option maxHeartbeats 8000000 in
theorem c7T (B:Bl mg) (dZ16:DZ16 K mg) (dZ12:DZ12 K mg) (dZ6:DZ6 K mg) (dZ20:DZ20 K mg) (dZ17:DZ17 K mg) (dZ5:DZ5 K mg) (dZ30:DZ30 K mg) (dZ34:DZ34 K mg) (dZ28:DZ28 K mg) (dZ23:DZ23 K mg) (dZ8:DZ8 K mg) (dZ33:DZ33 K mg) (dZ10:DZ10 K mg) (dZ9:DZ9 K mg) (dZ13:DZ13 K mg) (dZ7:DZ7 K mg) (dZ22:DZ22 K mg) (dZ11:DZ11 K mg):FnOk P w K mg base CX0 8 dZ11.f dZ11.fd ["graph"] (d0D K):=by
 have gZ13:FnOk P w K mg base CX0 7 _ _ _ _:=(a8N B dZ16 dZ12 dZ6 dZ20 dZ17 dZ5 dZ30 dZ34 dZ28 dZ23 dZ8 dZ33 dZ10 dZ9 dZ13).mono (by decide)
 have gZ7:FnOk P w K mg base CX0 7 _ _ _ _:=b6J B dZ16 dZ12 dZ6 dZ20 dZ17 dZ5 dZ30 dZ34 dZ28 dZ23 dZ8 dZ33 dZ10 dZ9 dZ13 dZ7
 have gZ20:FnOk P w K mg base CX0 7 _ _ _ _:=(b5E B dZ20).mono (by decide)
 have gZ22:FnOk P w K mg base CX0 7 _ _ _ _:=(b3L B dZ17 dZ20 dZ22).mono (by decide)
 refine dZ11.F.ok sc_four (λ vs H Q E h=>?_) (λ cdv A outer s H vs Q E hr h=>?_)
 ·obtain ⟨g,n,ts,rfl,_⟩:=h
  rfl
 obtain ⟨g,n,ts,rfl,hG,n10,l400,okt,q1,q2⟩:=h
 obtain ⟨pg,rt,rfl,hgT,tx,hTx,pTx,lTx⟩:=id hG
 have t16:∀ t ∈ ts,0 <= t.1/\t.1 < 16/\0 <= t.2/\t.2 < 16:=λ t ht=>by have:=okt t ht; omega
 refine ⟨_,(a0C (a3E (i:=1) ["v"] [none] sc_four.nd rfl rfl (by kernel_rfl) rfl (a1E rfl B.range (a0A (a0U (a1P (K:=K) rfl) (pv 0) a0G (λ _ _=>rfl)) a0B)) (λ _ _ _ _ _=>(a0H (i:=0) (show (["v"]:List Str).Nodup by decide +kernel) rfl (Or.inl rfl))) (λ _ _ _ _ _=>a2N) (λ _ _ _ _ _=>(a1G (a0A (pv 0) a0B))) (by rfl))
   (a0C (a2Y (a7W (a0W (K:=K) rfl (a0F gZ13 hr rfl dZ13.m dZ13.F.kp dZ13.b .nil a0M (a0A (pv 0) (a0A (pv 1) a0B))) (λ _=>rfl)))
   (a0D (a0K a5S))
   a1O)
   (a0C (a1U PassesOwn.never rfl (a1E rfl B.range (a0A (a0U (a1P (K:=K) rfl) (pv 0) a0G (λ _ _=>rfl)) a0B)) (a0H (i:=2) sc_four.nd rfl (Or.inl rfl))
   (a0D (a0L (i:=1) sc_four.nd rfl (Or.inl rfl) (a0F gZ7 hr rfl dZ7.m dZ7.F.kp dZ7.b .nil a0M (a0A (pv 0) (a0A (a0F gZ20 hr rfl dZ20.m dZ20.F.kp dZ20.b .nil a0M (a0A (pv 1) (a0A (a1G (a0A (a1G (a0A (pv 2) a0B)) a0B)) a0B))) (a0A (pv 1) a0B)))))))
   (a0C (a1U PassesOwn.never rfl (a0P (K:=K) rfl (a0U (a1P (K:=K) rfl) (pv 0) a0G (λ _ _=>rfl))) (a2W (K:=K) (n:=2) rfl rfl (a0Y (a0H (i:=3) sc_four.nd rfl (Or.inl rfl)) (a0Y (a0H (i:=4) sc_four.nd rfl (Or.inl rfl)) a2V)))
   (a0D (a0L (i:=1) sc_four.nd rfl (Or.inl rfl) (a0F gZ7 hr rfl dZ7.m dZ7.F.kp dZ7.b .nil a0M (a0A (pv 0) (a0A (a0F gZ22 hr rfl dZ22.m dZ22.F.kp dZ22.b .nil a0M (a0A (pv 1) (a0A (pv 3) (a0A (pv 4) a0B)))) (a0A (pv 1) a0B)))))))
   (a0D (a0K (pv 1))))))),?_⟩
 refine ⟨_,rfl,pg,_,_,_,rfl,rfl,hgT,rfl,_,rfl,by omega,by omega,?_⟩
 rw [Int.toNat_natCast]
 refine a8W (lo:=0) (n:=n) (λ i zs H'=>Same H H'/\Paired (PtL H H') zs (sgl i)) ⟨Same.refl _,.nil⟩ (λ i zs H' hi ⟨_,p⟩=>?_) (λ i zs H3 hi ⟨s3,p3⟩=>?_) (λ zs H3 ⟨s3,p3⟩ p4 hp4=>?_)
 ·have:=Paired.length p
  unfold sgl at this
  rw [List.length_map,List.length_range] at this
  exact Nat.le_of_lt (a0V (by omega))
 ·have e0:(0:Int) + (i:Int) = ((i:Nat):Int):=by omega
  rw [e0]
  refine ⟨_,rfl,(by show 1 <= 1000; decide),λ p5 H5 n5=>⟨s3.trans n5.same,?_⟩⟩
  unfold sgl
  rw [List.range_succ,List.map_append]
  exact a0R (Paired.mapP p3 λ _ _ h=>PtL.same n5.same h) ⟨p5,rfl,n5.here,s3.free n5.fresh⟩
 have n4:New H3 p4 (.lst zs) (upd H3 p4 (.lst zs)):=New.mk0 hp4
 generalize upd H3 p4 (.lst zs) = H4 at n4 ⊢
 have s4:=s3.trans n4.same
 have f4:H p4 = none:=s3.free n4.fresh
 have p4':=Paired.mapP p3 λ _ _ h=>PtL.same n4.same h
 have G0:=c7S n ts
 refine ⟨_,rfl,_,rfl,.ref pg,n,ts,p4,zs,sgl n,rfl,hG.same s4,n10,l400,t16,SqL.of n4.here,Paired.mapP p4' λ _ _ h=>h.l,G0,G0.len n10,λ H5 b s5 hb=>?_⟩
 cases b with
 | false =>
  refine ⟨_,rfl,iteT (q1 (fo_sgl.mp (Classical.byContradiction λ z=>by have:=hb.mpr z; cases this)) H5 (s4.trans s5))⟩
 | true =>
  have firm:=hb.mp rfl
  refine ⟨_,rfl,iteF ?_⟩
  refine ⟨_,rfl,pg,_,_,_,rfl,rfl,(s4.trans s5).tupq hgT,rfl,_,rfl,by omega,by omega,?_⟩
  rw [Int.toNat_natCast]
  refine a1R (n:=n) (λ i σ H'=>∃ (l:Addr) (xs:List V) (F:List (List Int)) (v2:Option V),σ = [some (.ref pg),some (.ref l),v2,none,none]/\Same H H'/\H l = none/\H' l = some (.lst xs)/\Paired (PtL H H') xs F/\Prt n ts F/\¬ FoP ts F/\(∀ p ∈ F,∃ v,p = [v])/\∀ u:Nat,u < i->I1 ts F (u:Int)) ⟨p4,zs,sgl n,none,rfl,s4.trans s5,f4,s5 _ _ n4.here,Paired.mapP p4' λ _ _ h=>PtL.same s5 h,G0,firm,(λ p hp=>by obtain ⟨v,_,e⟩:=mem_sgl.mp hp; exact ⟨_,e⟩),λ u hu=>absurd hu (Nat.not_lt_zero _)⟩ ?_ ?_
  ·rintro i σ H6 hi ⟨l,xs,F,v2,rfl,s6,fl,hl,pF,G,nf,one,i1⟩
   have ei:(0:Int) + (i:Int) = ((i:Nat):Int):=by omega
   rw [ei]
   have F10:=G.len n10
   refine ⟨_,rfl,_,rfl,_,rfl,(by show 1 <= 1000; decide),λ p7 H7 n7=>⟨(by show 1 <= 1000; decide),λ p8 H8 n8=>?_⟩⟩
   have s68:=n7.same.trans n8.same
   have pF8:=Paired.mapP pF λ _ _ h=>PtL.same s68 h
   refine ⟨l,p8,xs,_,F,[[((i:Nat):Int)]],rfl,SqL.of (s68 _ _ hl),Paired.mapP pF8 λ _ _ h=>h.l,SqL.of n8.here,.cons ⟨p7,rfl,SqL.of (n8.same _ _ n7.here)⟩ .nil,by omega,λ H9 p10 ws H10 s9 n10' hR=>?_⟩
   have s610:=s68.trans (s9.trans n10'.same)
   have Gw:Prt n ts (a4D F [[((i:Nat):Int)]]):=G.sub List.filter_sublist
   have pw:=hR _ pF
   refine ⟨_,rfl,.ref pg,n,ts,p10,l,ws,a4D F [[((i:Nat):Int)]],rfl,hG.same (s6.trans s610),n10,l400,t16,SqL.of n10'.here,Paired.mapP pw λ _ _ h=>(h.same s610).l,Gw,λ H11 s11=>⟨λ fo=>?_,λ nfo=>?_⟩⟩
   ·have s611:=s610.trans s11
    refine ⟨l,xs,F,_,rfl,s6.trans s611,fl,s611 _ _ hl,Paired.mapP pF λ _ _ h=>h.same s611,G,nf,one,λ u hu=>?_⟩
    rcases Nat.lt_or_ge u i with c | c
    ·exact i1 u c
    ·obtain rfl:u = i:=by omega
     exact λ _=>fo.sub (λ x hx=>mem_lessLL.mpr ⟨hx.1,λ z=>hx.2 (by rw [List.mem_singleton.mp z]; exact List.mem_cons_self)⟩) λ _ _ _ _ _ e=>e
   ·have s611:=s610.trans s11
    refine ⟨p10,ws,_,_,rfl,s6.trans s611,s6.free (s68.free (s9.free n10'.fresh)),s11 _ _ n10'.here,Paired.mapP pw λ _ _ h=>h.same s611,Gw,nfo,λ p hp=>one p (mem_lessLL.mp hp).1,λ u hu=>?_⟩
    rcases Nat.lt_or_ge u i with c | c
    ·exact (i1 u c).sub λ p hp=>(mem_lessLL.mp hp).1
    ·obtain rfl:u = i:=by omega
     rintro ⟨p,hp,hv⟩
     obtain ⟨h1,h2⟩:=mem_lessLL.mp hp
     obtain ⟨v,rfl⟩:=one p h1
     rw [List.mem_singleton.mp hv] at h2
     exact absurd List.mem_cons_self h2
  rintro σ H6 ⟨l,xs,F,v2,rfl,s6,fl,hl,pF,G,nf,_,i1⟩
  dsimp only
  have j1:∀ v:Int,0 <= v->v < (n:Int)->I1 ts F v:=λ v v0 v1=>by
   have:=i1 v.toNat (by omega)
   rwa [Int.toNat_of_nonneg v0] at this
  clear i1
  refine ⟨_,rfl,pg,_,_,_,rfl,rfl,s6.tupq hgT,rfl,rt,rfl,⟨_,s6.seq hTx⟩,?_⟩
  refine a3W (xs:=tx) (λ j σ H'=>∃ (l:Addr) (xs:List V) (F:List (List Int)) (v2 v3 v4:Option V),σ = [some (.ref pg),some (.ref l),v2,v3,v4]/\Same H H'/\H l = none/\H' l = some (.lst xs)/\Paired (PtL H H') xs F/\Prt n ts F/\¬ FoP ts F/\(∀ v:Int,0 <= v->v < (n:Int)->I1 ts F v)/\∀ t ∈ ts.take j,I2 ts F t.1 t.2) ⟨l,xs,F,_,_,_,rfl,s6,fl,hl,pF,G,nf,j1,λ t ht=>absurd ht List.not_mem_nil⟩ (λ j σ H' _ ⟨_,_,_,_,_,_,_,s',_⟩=>s'.seq hTx) ?_ ?_
  ·rintro j x σ H7 hx ⟨l,xs,F,v2,v3,v4,rfl,s7,fl,hl,pF,G,nf,j1,j2⟩
   obtain ⟨t,ht,⟨pt,ept,htp⟩⟩:=paired_get pTx hx
   subst ept
   have tm:=List.mem_of_getElem? ht
   have et:ts.take (j + 1) = ts.take j ++ [t]:=by rw [List.take_succ,ht]; rfl
   refine ⟨pt,_,rfl,s7.tupq htp,rfl,_,_,rfl,_,_,rfl,rfl,?_⟩
   refine ⟨_,rfl,_,rfl,_,rfl,_,rfl,H,l,xs,F,t.1,t.2,n,ts,rfl,s7,hl,fl,pF,G,n10,λ l' xs' F' H8 s8 hl' fl' pF' md=>?_⟩
   have put:∀ (F'':List (List Int)),(∀ t ∈ ts.take j,I2 ts F'' t.1 t.2)->I2 ts F'' t.1 t.2->∀ u ∈ ts.take (j + 1),I2 ts F'' u.1 u.2:=λ F'' h1 h2 u hu=>by
    rw [et] at hu
    rcases List.mem_append.mp hu with hu | hu
    ·exact h1 u hu
    ·rw [List.mem_singleton.mp hu]; exact h2
   have adj:Adj ts t.1 t.2:=.inl tm
   have G':Prt n ts F':=by
    cases md with
    | no _=>exact G
    | yes hp hq ne ab=>exact (a9O G n10 hp hq ne (ab.elim (λ z=>⟨_,z.1,_,z.2,.inr adj⟩) λ z=>⟨_,z.1,_,z.2,.inr adj.symm⟩)).1
   refine ⟨_,rfl,.ref pg,n,ts,l',l,xs',F',rfl,hG.same (s7.trans s8),n10,l400,t16,SqL.of hl',Paired.mapP pF' λ _ _ h=>h.l,G',λ H9 s9=>⟨λ fo=>?_,λ nfo=>?_⟩⟩
   ·have s79:=s8.trans s9
    refine ⟨l,xs,F,_,_,_,rfl,s7.trans s79,fl,s79 _ _ hl,Paired.mapP pF λ _ _ h=>h.same s79,G,nf,j1,put F j2 ?_⟩
    cases md with
    | no h=>exact absurd fo nf
    | @yes p q hp hq ne ab =>
     intro r s hr hs ha hb nrs
     have F1:Fo (Ones (λ r=>r ∈ F) p q (a0J p q)) (TR ts):=fo.sub (λ x hx=>mem_oneP.mpr hx) λ _ _ _ _ _ e=>e
     rcases ab with ⟨z1,z2⟩ | ⟨z1,z2⟩
     ·rw [G.same hr hp ha z1,G.same hs hq hb z2]; exact F1
     ·rw [G.same hr hq ha z2,G.same hs hp hb z1]
      exact F1.sub (λ x hx=>hx.elim (λ y=>.inl ⟨y.1,y.2.2,y.2.1⟩) λ y=>.inr (by rw [y,a2K])) λ _ _ _ _ _ e=>e
   ·have s79:=s8.trans s9
    refine ⟨l',xs',F',_,_,_,rfl,s7.trans s79,fl',s9 _ _ hl',Paired.mapP pF' λ _ _ h=>h.same s9,G',nfo,?_,put F' ?_ ?_⟩
    ·cases md with
     | no _=>exact j1
     | yes hp hq ne ab=>exact λ v v0 v1=>(a9O G n10 hp hq ne (ab.elim (λ z=>⟨_,z.1,_,z.2,.inr adj⟩) λ z=>⟨_,z.1,_,z.2,.inr adj.symm⟩)).2.1 v (j1 v v0 v1)
    ·cases md with
     | no _=>exact j2
     | yes hp hq ne ab=>exact λ u hu=>(a9O G n10 hp hq ne (ab.elim (λ z=>⟨_,z.1,_,z.2,.inr adj⟩) λ z=>⟨_,z.1,_,z.2,.inr adj.symm⟩)).2.2 _ _ (j2 u hu)
    ·cases md with
     | no h=>exact λ r s hr hs ha hb nrs=>absurd (h r s hr hs ha hb) nrs
     | @yes p q hp hq ne ab =>
      intro r s hr hs ha hb nrs
      have mj:∀ {v},v ∈ a0J p q ↔ v ∈ p\/v ∈ q:=a2Q n10 (G.lt p hp) (G.lt q hq)
      have inJ:t.1 ∈ a0J p q/\t.2 ∈ a0J p q:=by
       rcases ab with ⟨z1,z2⟩ | ⟨z1,z2⟩
       ·exact ⟨mj.mpr (.inl z1),mj.mpr (.inr z2)⟩
       ·exact ⟨mj.mpr (.inr z2),mj.mpr (.inl z1)⟩
      have J:a0J p q ∈ oneP F p q:=mem_oneP.mpr (.inr rfl)
      exact absurd ((G'.same hr J ha inJ.1).trans (G'.same hs J hb inJ.2).symm) nrs
  rintro σ H7 ⟨l,xs,F,v2,v3,v4,rfl,s7,fl,hl,pF,G,nf,j1,j2⟩
  dsimp only
  have ltx:=Paired.length pTx
  rw [ltx,List.take_length] at j2
  obtain ⟨l4,tr⟩:=b6H G n10 nf j1 j2
  exact ⟨_,rfl,q2 (λ z=>firm (fo_sgl.mpr z)) l xs F H7 s7 fl hl pF G l4 tr⟩
end
end K
namespace K
open PySem L2 Lw Bg
theorem b1U {ts:List ζζ} {x y:Nat} (h:tieT ts x y = true):tieT ts y x = true:=by
 unfold tieT at h ⊢
 rw [Bool.or_comm]; exact h
theorem PathT.symm {ts:List ζζ} {S:List Nat} {x u:Nat} (h:PathT ts S x u):PathT ts S u x:=by
 induction h with
 | one h=>exact .one (b1U h)
 | step p m h ih=>exact PathT.glue m (.one (b1U h)) ih
structure Pcs (ts:List ζζ) (ls:List Nat) (ps:List (List Nat)):Prop where
 sub:∀ p ∈ ps,p.Sublist ls
 ne:∀ p ∈ ps,p ≠ []
 all:∀ x ∈ ls,∃ p ∈ ps,x ∈ p
 dis:ps.Pairwise λ p q=>∀ x ∈ p,x ∉ q
 apart:ps.Pairwise λ p q=>∀ x ∈ p,∀ y ∈ q,tieT ts x y = false
 con:∀ p ∈ ps,∀ x ∈ p,∀ y ∈ p,x = y\/PathT ts p x y
def d2C (H:Hp) (p:Addr) (ps:List (List Nat)):Prop:=∃ qs:List Addr,H p = some (.lst (qs.map V.ref))/\Paired (λ q l=>H q = some (.lst (natV l))) qs ps
abbrev a7H:Stmt:=top 13
theorem b1V:FnScope ["graph", "places"] ["graph", "places"] (a0E a7H):=⟨rfl,rfl,rfl,by decide +kernel,rfl,by decide +kernel,by decide +kernel⟩
abbrev b5F:Stmt:=top 14
theorem sc_pieces:FnScope ["graph", "places", "told", "left", "piece"] ["graph", "places"] (a0E b5F):=⟨rfl,rfl,rfl,by decide +kernel,rfl,by decide +kernel,by decide +kernel⟩
abbrev a6E:Stmt:=top 15
theorem sc_piece_from:FnScope ["graph", "places", "v", "piece", "more"] ["graph", "places", "v"] (a0E a6E):=⟨rfl,rfl,rfl,by decide +kernel,rfl,by decide +kernel,by decide +kernel⟩
def a1D (l:List Nat):List Int:=l.map λ (x:Nat)=>(x:Int)
theorem mem_natIp {l:List Nat} {x:Int}:x ∈ a1D l ↔ ∃ u:Nat,u ∈ l/\x = (u:Int):=by
 unfold a1D
 rw [List.mem_map]
 constructor
 ·rintro ⟨u,h,e⟩; exact ⟨u,h,e.symm⟩
 ·rintro ⟨u,h,e⟩; exact ⟨u,h,e.symm⟩
theorem tieT_around {ts:List ζζ} {u v:Nat}:(u:Int) ∈ a1B ts (v:Int) ↔ tieT ts v u = true:=by
 rw [tied_mem]
 unfold tieT
 rw [Bool.or_eq_true,decide_eq_true_iff,decide_eq_true_iff]
 exact or_comm
theorem a9P {l:List Int} (up:l.Pairwise (· < ·)) (h:∀ x ∈ l,0 <= x):∃ p:List Nat,l = a1D p/\p.Pairwise (· < ·):=by
 have e:l = a1D (l.map Int.toNat):=by
  unfold a1D
  rw [List.map_map]
  conv=>lhs; rw [<- List.map_id l]
  refine List.map_congr_left λ x hx=>?_
  have:=h x hx
  show x = ((x.toNat:Nat):Int)
  omega
 refine ⟨_,e,?_⟩
 refine List.pairwise_map.mpr (List.Pairwise.imp_of_mem (λ {a b} ha hb hab=>?_) up)
 have:=h a ha
 have:=h b hb
 omega
theorem b6K {p ls:List Nat} (up:p.Pairwise (· < ·)) (ul:ls.Pairwise (· < ·)) (h:∀ x ∈ p,x ∈ ls):p.Sublist ls:=by
 have ndp:p.Nodup:=up.imp λ h=>Nat.ne_of_lt h
 have ndl:ls.Nodup:=ul.imp λ h=>Nat.ne_of_lt h
 have e:p = ls.filter λ x=>decide (x ∈ p):=by
  refine List.Perm.eq_of_pairwise (le:=(· < ·)) (λ a b _ _ h1 h2=>by omega) up (ul.sublist List.filter_sublist) ((List.perm_ext_iff_of_nodup ndp (ndl.sublist List.filter_sublist)).mpr λ x=>?_)
  rw [List.mem_filter,decide_eq_true_iff]
  exact ⟨λ hx=>⟨h x hx,hx⟩,λ hx=>hx.2⟩
 rw [e]
 exact List.filter_sublist
theorem pigJ {α:Type} [DecidableEq α]:∀ {l U:List α},l.Nodup->(∀ x ∈ l,x ∈ U)->l.length <= U.length
 | [],_,_,_=>Nat.zero_le _
 | x :: r,U,h,s=>by
  have h':=List.nodup_cons.mp h
  have hx:=s x List.mem_cons_self
  have:=List.length_erase_of_mem hx
  have p:=List.length_pos_of_mem hx
  have ih:=pigJ (l:=r) (U:=U.erase x) h'.2 λ y hy=>(List.mem_erase_of_ne (λ (e:y = x)=>h'.1 (e ▸ hy))).mpr (s y (List.mem_cons_of_mem _ hy))
  rw [List.length_cons]; omega
structure PieceOf (ts:List ζζ) (ls:List Nat) (v:Nat) (p:List Nat):Prop where
 up:p.Pairwise (· < ·)
 mem:∀ y,y ∈ p ↔ y ∈ ls/\(y = v\/PathT ts ls v y)
def b3M (K:Φρ):Sp:=λ vs H Q _=>∃ (g:V) (n:Nat) (ts:List ζζ) (a:Addr) (ls:List Nat) (v:Nat),vs = [g,.ref a,.int (v:Int)]/\GraphV K H g n ts/\(∀ t ∈ ts,0 <= t.1/\t.1 < t.2/\t.2 < (n:Int))/\n <= 10/\ts.length <= 100/\SqL K H a (natV ls)/\ls.Nodup/\(∀ x ∈ ls,x < n)/\v ∈ ls /\
 ∀ r p H',Same H H'->H r = none->H' r = some (.lst (natV p))->PieceOf ts ls v p->Q (.ref r) H'
def c3F (K:Φρ):Sp:=λ vs H Q _=>∃ (g:V) (n:Nat) (ts:List ζζ) (a:Addr) (ls:List Nat),vs = [g,.ref a]/\GraphV K H g n ts/\(∀ t ∈ ts,0 <= t.1/\t.1 < t.2/\t.2 < (n:Int))/\n <= 10/\ts.length <= 100/\H a = some (.lst (natV ls))/\ls.Pairwise (· < ·)/\(∀ x ∈ ls,x < n) /\
 ∀ r ps H',Same H H'->H r = none->d2C H' r ps->Pcs ts ls ps->Q (.ref r) H'
def c0Q (ts:List ζζ) (ls:List Nat):Prop:=ls ≠ []/\∀ x ∈ ls,∀ y ∈ ls,x = y\/PathT ts ls x y
def c3G (K:Φρ):Sp:=λ vs H Q _=>∃ (g:V) (n:Nat) (ts:List ζζ) (a:Addr) (ls:List Nat),vs = [g,.ref a]/\GraphV K H g n ts/\(∀ t ∈ ts,0 <= t.1/\t.1 < t.2/\t.2 < (n:Int))/\n <= 10/\ts.length <= 100/\H a = some (.lst (natV ls))/\ls.Pairwise (· < ·)/\(∀ x ∈ ls,x < n) /\
 ∀ b H',Same H H'->(b = true ↔ c0Q ts ls)->Q (.bl b) H'
theorem c7U {ts:List ζζ} {ls:List Nat} {ps:List (List Nat)} (h:Pcs ts ls ps):ps.length = 1 ↔ c0Q ts ls:=by
 constructor
 ·intro e
  match ps,e,h with
  | [p],_,h =>
   have pm:p ∈ [p]:=List.mem_singleton.mpr rfl
   refine ⟨λ z=>?_,λ x hx y hy=>?_⟩
   ·obtain ⟨x,r,e⟩:=List.exists_cons_of_ne_nil (h.ne p pm)
    have:=(h.sub p pm).subset (show x ∈ p by rw [e]; exact List.mem_cons_self)
    rw [z] at this
    exact absurd this List.not_mem_nil
   ·obtain ⟨q,hq,qx⟩:=h.all x hx
    obtain ⟨q',hq',qy⟩:=h.all y hy
    rw [List.mem_singleton.mp hq] at qx
    rw [List.mem_singleton.mp hq'] at qy
    exact (h.con p pm x qx y qy).imp id λ z=>z.mono λ a ha=>(h.sub p pm).subset ha
 ·rintro ⟨ne,co⟩
  match ps,h with
  | [],h =>
   obtain ⟨x,r,e⟩:=List.exists_cons_of_ne_nil ne
   obtain ⟨q,hq,_⟩:=h.all x (by rw [e]; exact List.mem_cons_self)
   exact absurd hq List.not_mem_nil
  | [p],_=>rfl
  | p :: q :: r,h =>
   exfalso
   obtain ⟨x,r1,ex⟩:=List.exists_cons_of_ne_nil (h.ne p List.mem_cons_self)
   obtain ⟨y,r2,ey⟩:=List.exists_cons_of_ne_nil (h.ne q (List.mem_cons_of_mem _ List.mem_cons_self))
   have xp:x ∈ p:=by rw [ex]; exact List.mem_cons_self
   have yq:y ∈ q:=by rw [ey]; exact List.mem_cons_self
   have xl:=(h.sub p List.mem_cons_self).subset xp
   have yl:=(h.sub q (List.mem_cons_of_mem _ List.mem_cons_self)).subset yq
   obtain ⟨d1,_⟩:=List.pairwise_cons.mp h.dis
   obtain ⟨a1,_⟩:=List.pairwise_cons.mp h.apart
   have stay:∀ {a u:Nat},a ∈ p->u ∈ ls->tieT ts a u = true->u ∈ p:=λ {a u} ha hu t=>by
    obtain ⟨s,hs,us⟩:=h.all u hu
    rcases List.mem_cons.mp hs with e | hs
    ·rw [<- e]; exact us
    ·rw [a1 s hs a ha u us] at t
     cases t
   have all:∀ u,PathT ts ls x u->u ∈ ls->u ∈ p:=λ u pth=>by
    induction pth with
    | one t=>exact λ hu=>stay xp hu t
    | step _ m t ih=>exact λ hu=>stay (ih m) hu t
   rcases co x xl y yl with e | pth
   ·rw [e] at xp
    exact d1 q List.mem_cons_self y xp yq
   ·exact d1 q List.mem_cons_self y (all y pth yl) yq
theorem a8O {α β:Type} {F G:α->β->Prop}:∀ {xs:List α} {ys:List β},Paired F xs ys->(∀ x y,x ∈ xs->F x y->G x y)->Paired G xs ys
 | _,_,.nil,_=>.nil
 | _,_,.cons h t,g=>.cons (g _ _ List.mem_cons_self h) (a8O t λ x y hx=>g x y (List.mem_cons_of_mem _ hx))
theorem d0E {K:Φρ} {H H':Hp} {a b:Addr} {xs:List V} {o:HO} (h:SqL K H a xs) (ne:a ≠ b) (c:Chg H b o H'):SqL K H' a xs:=by
 rcases h with (h | ⟨o',h⟩) | h
 ·exact .inl (.inl ((c.rest a ne).trans h))
 ·exact .inl (.inr ⟨o',(c.rest a ne).trans h⟩)
 ·exact .inr h
section
variable {P:Program} {w:World} {K:Φρ} {mg:Str->Option Value} {base:Heap}
abbrev DZ26 (K:PySem.W.Frag) (mg:Str->Option Value):=Dn K mg "piece_from" a6E ["graph", "places", "v"]
set_option maxHeartbeats 8000000 in
theorem a9Q (B:Bl mg) (dZ16:DZ16 K mg) (dZ12:DZ12 K mg) (dZ6:DZ6 K mg) (dZ17:DZ17 K mg) (dZ20:DZ20 K mg) (dZ5:DZ5 K mg) (dZ30:DZ30 K mg) (dZ26:DZ26 K mg):FnOk P w K mg base CX0 5 dZ26.f dZ26.fd ["graph", "places", "v"] (b3M K):=by
 have gZ5:FnOk P w K mg base CX0 4 _ _ _ _:=(a4W B dZ16 dZ12 dZ5).mono (by decide)
 have gZ6:FnOk P w K mg base CX0 4 _ _ _ _:=(a3R B dZ6).mono (by decide)
 have gZ17:FnOk P w K mg base CX0 4 _ _ _ _:=(a6L B dZ17).mono (by decide)
 have gZ30:FnOk P w K mg base CX0 4 _ _ _ _:=c4T B dZ16 dZ12 dZ20 dZ17 dZ5 dZ30
 refine dZ26.F.ok sc_piece_from (λ vs H Q E h=>?_) (λ cdv A outer s H vs Q E hr h=>?_)
 ·obtain ⟨g,n,ts,a,ls,v,rfl,_⟩:=h
  rfl
 obtain ⟨g,n,ts,a,ls,v,rfl,hG,okt,n10,l100,hA,nd,hn,vl,q⟩:=h
 have vn:=hn v vl
 have t16:∀ t ∈ ts,0 <= t.1/\t.1 < 16/\0 <= t.2/\t.2 < 16:=λ t ht=>by have:=okt t ht; omega
 have hA':∀ {H':Hp},Same H H'->SqL K H' a ((a1D ls).map V.int):=λ {H'} s=>by
  have:=s.seq hA
  rw [a0S] at this
  exact this
 have al:∀ u:Nat,(a1B ts (u:Int)).length <= 1000:=λ u=>by
  unfold a1B
  rw [List.length_append]
  have h1:=List.length_filterMap_le (λ t:Int × Int=>if t.2 = (u:Int) then some t.1 else none) ts
  have h2:=List.length_filterMap_le (λ t:Int × Int=>if t.1 = (u:Int) then some t.2 else none) ts
  omega
 have tn:∀ {x y:Nat},tieT ts x y = true->x ≠ y:=λ {x y} h z=>by
  subst z
  unfold tieT at h
  rw [Bool.or_self] at h
  have:=okt _ (of_decide_eq_true h)
  omega
 refine ⟨_,(a0C (a0L (i:=3) sc_piece_from.nd rfl (Or.inl rfl) (a1G (a0A (pv 2) a0B)))
   (a0C (a0L (i:=4) sc_piece_from.nd rfl (Or.inl rfl) (a0F gZ6 hr rfl dZ6.m dZ6.F.kp dZ6.b .nil a0M (a0A (a0F gZ5 hr rfl dZ5.m dZ5.F.kp dZ5.b .nil a0M (a0A (pv 0) (a0A (pv 2) a0B))) (a0A (pv 1) a0B))))
   (a0C (a4N PassesOwn.never (a0W (K:=K) rfl (pv 4) (λ _=>rfl))
   (a0C (a0L (i:=3) sc_piece_from.nd rfl (Or.inl rfl) (a0F gZ17 hr rfl dZ17.m dZ17.F.kp dZ17.b .nil a0M (a0A (pv 3) (a0A (pv 4) a0B))))
   (a0D (a0L (i:=4) sc_piece_from.nd rfl (Or.inl rfl) (a0F gZ6 hr rfl dZ6.m dZ6.F.kp dZ6.b .nil a0M (a0A (a0F gZ30 hr rfl dZ30.m dZ30.F.kp dZ30.b .nil a0M (a0A (pv 0) (a0A (pv 3) a0B))) (a0A (pv 1) a0B)))))))
   (a0D (a0K (pv 3)))))),?_⟩
 refine ⟨_,rfl,(by show 1 <= 1000; decide),λ p1 H1 n1=>?_⟩
 refine ⟨_,rfl,_,rfl,g,n,ts,v,rfl,hG.same n1.same,by omega,by omega,by omega,λ H2 p3 H3 s2 n3=>?_⟩
 have s13:Same H1 H3:=s2.trans n3.same
 have s03:Same H H3:=n1.same.trans s13
 refine ⟨_,rfl,p3,a,_,_,rfl,SqL.of n3.here,hA' s03,al v,λ H4 p5 H5 s4 n5=>?_⟩
 have s05:Same H H5:=s03.trans (s4.trans n5.same)
 refine ⟨λ m σ H'=>∃ (pp pm:Addr) (P M:List Int),σ = [some g,some (.ref a),some (.int (v:Int)),some (.ref pp),some (.ref pm)]/\Same H H'/\H pp = none/\H' pp = some (.lst (P.map V.int))/\H' pm = some (.lst (M.map V.int))/\M.length <= 1000/\m = ls.length - P.length/\P.Pairwise (· < ·)/\((v:Nat):Int) ∈ P /\
   (∀ x ∈ P,∃ u:Nat,x = (u:Int)/\u ∈ ls/\(u = v\/PathT ts ls v u))/\∀ x,x ∈ M ↔ ∃ u:Nat,x = (u:Int)/\u ∈ ls/\x ∉ P/\∃ y:Nat,(y:Int) ∈ P/\tieT ts y u = true,
  ⟨_,p1,p5,[(v:Int)],_,rfl,s05,n1.fresh,(s13.trans (s4.trans n5.same)) _ _ n1.here,n5.here,Nat.le_trans (List.length_filter_le _ _) (al v),rfl,List.pairwise_singleton _ _,List.mem_singleton.mpr rfl,λ x hx=>⟨v,List.mem_singleton.mp hx,vl,.inl rfl⟩,λ x=>?_⟩,?_⟩
 ·unfold a0X
  rw [List.mem_filter,decide_eq_true_iff]
  constructor
  ·rintro ⟨h1,h2⟩
   obtain ⟨u,ul,e⟩:=mem_natIp.mp h2
   subst e
   have t:=tieT_around.mp h1
   refine ⟨u,rfl,ul,λ z=>tn t ?_,v,List.mem_singleton.mpr rfl,t⟩
   have:=List.mem_singleton.mp z
   omega
  ·rintro ⟨u,rfl,ul,_,y,hy,t⟩
   have e:=List.mem_singleton.mp hy
   have:y = v:=by omega
   subst this
   exact ⟨tieT_around.mpr t,mem_natIp.mpr ⟨u,ul,rfl⟩⟩
 rintro m σ H6 ⟨pp,pm,P,M,rfl,s6,fpp,hp6,hm6,lM,rfl,up,vP,sP,mM⟩
 refine ⟨_,rfl,_,.inl ⟨_,SqL.of hm6,rfl⟩,?_⟩
 have clo:∀ u,PathT ts ls v u->M = []->u ∈ ls->(u:Int) ∈ P:=λ u pth=>by
  intro eM
  have step:∀ {y u:Nat},(y:Int) ∈ P->u ∈ ls->tieT ts y u = true->(u:Int) ∈ P:=λ {y u} hy hu t=>by
   apply Classical.byContradiction
   intro c
   have:(u:Int) ∈ M:=(mM _).mpr ⟨u,rfl,hu,c,y,hy,t⟩
   rw [eM] at this
   exact absurd this List.not_mem_nil
  induction pth with
  | one t=>exact λ hu=>step vP hu t
  | step _ m t ih=>exact λ hu=>step (ih m) hu t
 by_cases hM:M = []
 ·rw [show (!(M.map V.int).isEmpty) = false by rw [hM]; rfl]
  refine iteF ⟨_,rfl,?_⟩
  obtain ⟨p,ep,pu⟩:=a9P up λ x hx=>by
   obtain ⟨u,e,_⟩:=sP x hx
   omega
  have hp6':H6 pp = some (.lst (natV p)):=by
   rw [hp6,ep,a0S]; rfl
  refine q pp p H6 s6 fpp hp6' ⟨pu,λ y=>?_⟩
  have inP:(y:Int) ∈ P ↔ y ∈ p:=by
   rw [ep,mem_natIp]
   constructor
   ·rintro ⟨u,hu,e⟩
    have:u = y:=by omega
    rw [<- this]; exact hu
   ·exact λ h=>⟨y,h,rfl⟩
  rw [<- inP]
  constructor
  ·intro h
   obtain ⟨u,e,ul,c⟩:=sP _ h
   have:u = y:=by omega
   subst this
   exact ⟨ul,c⟩
  ·rintro ⟨yl,c⟩
   rcases c with c | c
   ·rw [c]; exact vP
   ·exact clo y c hM yl
 ·have Mne:M ≠ []:=hM
  rw [show (!(M.map V.int).isEmpty) = true by
   cases M with
   | nil=>exact absurd rfl hM
   | cons _ _=>rfl]
  refine iteT ⟨λ σ' H'=>∃ m',m' < ls.length - P.length/\∃ (pp pm:Addr) (P M:List Int),σ' = [some g,some (.ref a),some (.int (v:Int)),some (.ref pp),some (.ref pm)]/\Same H H'/\H pp = none/\H' pp = some (.lst (P.map V.int))/\H' pm = some (.lst (M.map V.int))/\M.length <= 1000/\m' = ls.length - P.length/\P.Pairwise (· < ·)/\((v:Nat):Int) ∈ P /\
   (∀ x ∈ P,∃ u:Nat,x = (u:Int)/\u ∈ ls/\(u = v\/PathT ts ls v u))/\∀ x,x ∈ M ↔ ∃ u:Nat,x = (u:Int)/\u ∈ ls/\x ∉ P/\∃ y:Nat,(y:Int) ∈ P/\tieT ts y u = true,λ σ' H' z=>z,?_⟩
  have smP:a7O P:=λ x hx=>by
   obtain ⟨u,e,ul,_⟩:=sP x hx
   have:=hn u ul
   omega
  have smM:a7O M:=λ x hx=>by
   obtain ⟨u,e,ul,_⟩:=(mM x).mp hx
   have:=hn u ul
   omega
  refine ⟨_,rfl,_,rfl,pp,pm,P,M,rfl,SqL.of hp6,SqL.of hm6,smP,smM,λ H7 p8 H8 s7 n8=>?_⟩
  have s68:Same H6 H8:=s7.trans n8.same
  have s08:=s6.trans s68
  have mJ:∀ x,x ∈ a0J P M ↔ x ∈ P\/x ∈ M:=λ x=>by
   unfold a0J
   rw [mem_upF,decide_eq_true_iff]
   constructor
   ·exact λ h=>h.2.2
   ·intro h
    have:=h.elim (smP x) (smM x)
    exact ⟨this.1,this.2,h⟩
  have sJ:∀ x ∈ a0J P M,∃ u:Nat,x = (u:Int)/\u ∈ ls/\(u = v\/PathT ts ls v u):=λ x hx=>by
   rcases (mJ x).mp hx with h | h
   ·exact sP x h
   ·obtain ⟨u,e,ul,_,y,hy,t⟩:=(mM x).mp h
    refine ⟨u,e,ul,.inr ?_⟩
    obtain ⟨y',ey,yl,c⟩:=sP _ hy
    have:y' = y:=by omega
    subst this
    rcases c with c | c
    ·rw [<- c]; exact .one t
    ·exact .step c yl t
  have rb:∀ x ∈ a0J P M,0 <= x/\x < ((n:Nat):Int):=λ x hx=>by
   obtain ⟨u,e,ul,_⟩:=sJ x hx
   have:=hn u ul
   omega
  refine ⟨_,rfl,_,rfl,g,(n:Int),ts,p8,a0J P M,rfl,hG.same s08,by omega,by omega,t16,SqL.of n8.here,rb,λ H9 p10 H10 s9 n10=>?_⟩
  have s8_10:Same H8 H10:=s9.trans n10.same
  have s0_10:=s08.trans s8_10
  have rl:(rimF ts (a0J P M)).length <= 1000:=by
   unfold rimF a4J
   refine Nat.le_trans (List.length_filter_le _ _) (Nat.le_trans (b3I _) (by decide))
  refine ⟨_,rfl,p10,a,_,_,rfl,SqL.of n10.here,hA' s0_10,rl,λ H11 p12 H12 s11 n12=>?_⟩
  have s8_12:Same H8 H12:=s8_10.trans (s11.trans n12.same)
  have Jlen:P.length < (a0J P M).length:=by
   obtain ⟨z,zr,ez⟩:=List.exists_cons_of_ne_nil Mne
   have zM:z ∈ M:=by rw [ez]; exact List.mem_cons_self
   obtain ⟨_,_,_,zP,_⟩:=(mM z).mp zM
   have ndP:P.Nodup:=up.imp λ h=>Int.ne_of_lt h
   have:=pigJ (l:=z :: P) (U:=a0J P M) (List.nodup_cons.mpr ⟨zP,ndP⟩) λ x hx=>by
    rcases List.mem_cons.mp hx with e | h
    ·rw [e]; exact (mJ z).mpr (.inr zM)
    ·exact (mJ x).mpr (.inl h)
   exact this
  have Jle:(a0J P M).length <= ls.length:=by
   have nd2:(a0J P M).Nodup:=(b1C _).imp λ h=>Int.ne_of_lt h
   have:=pigJ (l:=a0J P M) (U:=a1D ls) nd2 λ x hx=>by
    obtain ⟨u,e,ul,_⟩:=sJ x hx
    exact mem_natIp.mpr ⟨u,ul,e⟩
   unfold a1D at this
   rw [List.length_map] at this
   exact this
  refine ⟨_,by omega,p8,p12,a0J P M,_,rfl,s08.trans s8_12,s6.free (s7.free n8.fresh),s8_12 _ _ n8.here,n12.here,Nat.le_trans (List.length_filter_le _ _) rl,rfl,b1C _,(mJ _).mpr (.inl vP),sJ,λ x=>?_⟩
  unfold a0X rimF a4J a9K
  rw [List.mem_filter,decide_eq_true_iff,List.mem_filter,mem_upF,List.any_eq_true]
  constructor
  ·rintro ⟨⟨⟨_,_,y,hy,ty⟩,nj⟩,hx⟩
   obtain ⟨u,ul,e⟩:=mem_natIp.mp hx
   subst e
   obtain ⟨y',ey,_⟩:=sJ y hy
   subst ey
   refine ⟨u,rfl,ul,by simpa using nj,y',hy,tieT_around.mp (of_decide_eq_true ty)⟩
  ·rintro ⟨u,rfl,ul,nj,y,hy,t⟩
   have:=hn u ul
   exact ⟨⟨⟨by omega,by omega,(y:Int),hy,decide_eq_true (tieT_around.mpr t)⟩,by simpa using nj⟩,mem_natIp.mpr ⟨u,ul,rfl⟩⟩
abbrev DZ27 (K:PySem.W.Frag) (mg:Str->Option Value):=Dn K mg "pieces" b5F ["graph", "places"]
set_option maxHeartbeats 8000000 in
theorem c0R (B:Bl mg) (dZ16:DZ16 K mg) (dZ12:DZ12 K mg) (dZ6:DZ6 K mg) (dZ17:DZ17 K mg) (dZ20:DZ20 K mg) (dZ5:DZ5 K mg) (dZ30:DZ30 K mg) (dZ26:DZ26 K mg) (dZ27:DZ27 K mg):FnOk P w K mg base CX0 6 dZ27.f dZ27.fd ["graph", "places"] (c3F K):=by
 have gZ26:FnOk P w K mg base CX0 5 _ _ _ _:=a9Q B dZ16 dZ12 dZ6 dZ17 dZ20 dZ5 dZ30 dZ26
 have gZ20:FnOk P w K mg base CX0 5 _ _ _ _:=(a5M B dZ20).mono (by decide)
 refine dZ27.F.ok sc_pieces (λ vs H Q E h=>?_) (λ cdv A outer s H vs Q E hr h=>?_)
 ·obtain ⟨g,n,ts,a,ls,rfl,_⟩:=h
  rfl
 obtain ⟨g,n,ts,a,ls,rfl,hG,okt,n10,l100,hA,up,hn,q⟩:=h
 have nd:ls.Nodup:=up.imp λ h=>Nat.ne_of_lt h
 have ll:=a4X nd hn
 refine ⟨_,(a0C (a0L (i:=2) sc_pieces.nd rfl (Or.inl rfl) (a1G a0B))
   (a0C (a0L (i:=3) sc_pieces.nd rfl (Or.inl rfl) (pv 1))
   (a0C (a4N PassesOwn.never (a0W (K:=K) rfl (pv 3) (λ _=>rfl))
   (a0C (a0L (i:=4) sc_pieces.nd rfl (Or.inl rfl) (a0F gZ26 hr rfl dZ26.m dZ26.F.kp dZ26.b .nil a0M (a0A (pv 0) (a0A (pv 3) (a0A (a0U (a0I (K:=K) rfl) (pv 3) a0G (λ _ _=>rfl)) a0B)))))
   (a0C (a2L (a3A (K:=K) rfl PySem.F.plainAttrs_list PySem.F.slot_list_append PySem.F.type_list_append a2A (pv 2) (a0A (pv 4) a0B)))
   (a0D (a0L (i:=3) sc_pieces.nd rfl (Or.inl rfl) (a0F gZ20 hr rfl dZ20.m dZ20.F.kp dZ20.b .nil a0M (a0A (pv 3) (a0A (pv 4) a0B))))))))
   (a0D (a0K (pv 2)))))),?_⟩
 refine ⟨(by show 0 <= 1000; decide),λ pt H1 n1=>?_⟩
 refine ⟨_,rfl,?_⟩
 refine ⟨λ m σ H'=>∃ (al:Addr) (lf:List Nat) (ps:List (List Nat)) (qs:List Addr) (pp:Option V),σ = [some g,some (.ref a),some (.ref pt),some (.ref al),pp]/\Same H H'/\H' pt = some (.lst (qs.map V.ref))/\pt ∉ qs/\al ≠ pt/\Paired (λ q l=>H' q = some (.lst (natV l))) qs ps/\SqL K H' al (natV lf)/\m = lf.length/\lf.Sublist ls/\qs.length + lf.length <= ls.length /\
   (∀ p ∈ ps,p.Sublist ls/\p ≠ []/\(∀ x ∈ p,∀ y ∈ p,x = y\/PathT ts p x y)/\(∀ x ∈ p,x ∉ lf)/\∀ x ∈ p,∀ y ∈ lf,tieT ts x y = false)/\(∀ x ∈ ls,x ∈ lf\/∃ p ∈ ps,x ∈ p)/\(ps.Pairwise λ p q=>∀ x ∈ p,x ∉ q)/\ps.Pairwise λ p q=>∀ x ∈ p,∀ y ∈ q,tieT ts x y = false,
  ⟨_,a,ls,[],[],none,rfl,n1.same,n1.here,List.not_mem_nil,?_,.nil,SqL.of (n1.same _ _ hA),rfl,List.Sublist.refl _,by simp,λ p hp=>absurd hp List.not_mem_nil,λ x hx=>.inl hx,.nil,.nil⟩,?_⟩
 ·intro z
  have:=n1.fresh
  rw [<- z,hA] at this
  cases this
 rintro m σ H2 ⟨al,lf,ps,qs,pp,rfl,s2,ht2,nq,alt,pq,hl2,rfl,sub,cnt,pr,all,dis,apa⟩
 refine ⟨_,rfl,_,.inl ⟨_,hl2,rfl⟩,?_⟩
 by_cases hlf:lf = []
 ·rw [show (!(natV lf).isEmpty) = false by rw [hlf]; rfl]
  refine iteF ⟨_,rfl,q pt ps H2 s2 n1.fresh ⟨qs,ht2,pq⟩ ⟨λ p hp=>(pr p hp).1,λ p hp=>(pr p hp).2.1,λ x hx=>?_,dis,apa,λ p hp=>(pr p hp).2.2.1⟩⟩
  rcases all x hx with h | h
  ·rw [hlf] at h; exact absurd h List.not_mem_nil
  ·exact h
 ·rw [show (!(natV lf).isEmpty) = true by
   cases lf with
   | nil=>exact absurd rfl hlf
   | cons _ _=>rfl]
  obtain ⟨v,lr,el⟩:=List.exists_cons_of_ne_nil hlf
  have vl:v ∈ lf:=by rw [el]; exact List.mem_cons_self
  have upf:lf.Pairwise (· < ·):=up.sublist sub
  have ndf:lf.Nodup:=nd.sublist sub
  have at0:atI (natV lf) 0 = some (.int (v:Int)):=by
   have:atI (natV lf) ((0:Nat):Int) = some (.int (v:Int)):=a2M (by rw [el]; rfl)
   exact this
  refine iteT ⟨λ σ' H'=>∃ m',m' < lf.length/\∃ (al:Addr) (lf:List Nat) (ps:List (List Nat)) (qs:List Addr) (pp:Option V),σ' = [some g,some (.ref a),some (.ref pt),some (.ref al),pp]/\Same H H'/\H' pt = some (.lst (qs.map V.ref))/\pt ∉ qs/\al ≠ pt/\Paired (λ q l=>H' q = some (.lst (natV l))) qs ps/\SqL K H' al (natV lf)/\m' = lf.length/\lf.Sublist ls/\qs.length + lf.length <= ls.length /\
   (∀ p ∈ ps,p.Sublist ls/\p ≠ []/\(∀ x ∈ p,∀ y ∈ p,x = y\/PathT ts p x y)/\(∀ x ∈ p,x ∉ lf)/\∀ x ∈ p,∀ y ∈ lf,tieT ts x y = false)/\(∀ x ∈ ls,x ∈ lf\/∃ p ∈ ps,x ∈ p)/\(ps.Pairwise λ p q=>∀ x ∈ p,x ∉ q)/\ps.Pairwise λ p q=>∀ x ∈ p,∀ y ∈ q,tieT ts x y = false,λ σ' H' z=>z,?_⟩
  refine ⟨_,rfl,_,rfl,_,rfl,al,_,_,_,rfl,rfl,hl2,at0,g,n,ts,al,lf,v,rfl,hG.same s2,okt,n10,l100,hl2,ndf,λ x hx=>hn x (sub.subset hx),vl,λ pr3 p H3 s3 f3 h3 PO=>?_⟩
  have vp:v ∈ p:=(PO.mem v).mpr ⟨vl,.inl rfl⟩
  have s03:=s2.trans s3
  have ht3:=s3 _ _ ht2
  have lq2:=Paired.length pq
  refine ⟨_,rfl,.inl ⟨rfl,_,SqL.of ht3⟩,_,rfl,pt,_,_,rfl,rfl,ht3,by rw [List.length_map]; omega,λ H4 c4=>?_⟩
  have s04:Same H H4:=s03.chg n1.fresh c4
  have p3t:pr3 ≠ pt:=λ z=>by
   rw [z,ht2] at f3
   cases f3
  have h4:H4 pr3 = some (.lst (natV p)):=(c4.rest pr3 p3t).trans h3
  have hl4:SqL K H4 al (natV lf):=d0E (s3.seq hl2) alt c4
  have hl4':SqL K H4 al ((a1D lf).map V.int):=by rw [a0S] at hl4; exact hl4
  have h4':SqL K H4 pr3 ((a1D p).map V.int):=by
   have:=SqL.of (K:=K) h4
   rw [a0S] at this
   exact this
  have lfl:lf.length <= 10:=by have:=sub.length_le; omega
  refine ⟨_,rfl,_,rfl,al,pr3,_,_,rfl,hl4',h4',by unfold a1D; rw [List.length_map]; omega,λ H5 p6 H6 s5 n6=>?_⟩
  have s46:Same H4 H6:=s5.trans n6.same
  have e6:a4J (a1D lf) (a1D p) = a1D (lf.filter λ x=>!decide (x ∈ p)):=by
   unfold a4J a1D
   rw [List.filter_map]
   refine congrArg _ (List.filter_congr λ x _=>?_)
   show (!decide ((x:Int) ∈ p.map λ (y:Nat)=>(y:Int))) = _
   rw [show decide ((x:Int) ∈ p.map λ (y:Nat)=>(y:Int)) = decide (x ∈ p) from decide_eq_decide.mpr (by
    rw [List.mem_map]
    constructor
    ·rintro ⟨y,hy,e⟩
     have:y = x:=by omega
     rw [<- this]; exact hy
    ·exact λ h=>⟨x,h,rfl⟩)]
  have h6:H6 p6 = some (.lst (natV (lf.filter λ x=>!decide (x ∈ p)))):=by
   rw [n6.here,e6,a0S]; rfl
  have p6t:p6 ≠ pt:=λ z=>by
   have:=n6.fresh
   rw [z,s5 _ _ c4.here] at this
   cases this
  have lf':(lf.filter λ x=>!decide (x ∈ p)).length < lf.length:=by
   have:=List.length_filter_lt_length_iff_exists (l:=lf) (p:=λ x=>!decide (x ∈ p))
   refine this.mpr ⟨v,vl,?_⟩
   rw [decide_eq_true vp]; exact Bool.false_ne_true
  have subp:p.Sublist lf:=b6K PO.up upf λ x hx=>((PO.mem x).mp hx).1
  have mf:∀ x,(x ∈ lf.filter λ x=>!decide (x ∈ p)) ↔ x ∈ lf/\x ∉ p:=λ x=>by rw [List.mem_filter]; simp
  have inP:∀ u,PathT ts lf v u->PathT ts p v u:=λ u pth=>by
   induction pth with
   | one t=>exact .one t
   | step q m t ih=>exact .step ih ((PO.mem _).mpr ⟨m,.inr q⟩) t
  have conv:∀ x ∈ p,x = v\/PathT ts p v x:=λ x hx=>((PO.mem x).mp hx).2.imp id (inP x)
  refine ⟨_,lf',p6,lf.filter λ x=>!decide (x ∈ p),ps ++ [p],qs ++ [pr3],_,rfl,s04.trans s46,?_,?_,p6t,?_,SqL.of h6,rfl,List.filter_sublist.trans sub,?_,?_,?_,?_,?_⟩
  ·rw [s46 _ _ c4.here,List.map_append]; rfl
  ·intro z
   rcases List.mem_append.mp z with z | z
   ·exact nq z
   ·exact p3t (List.mem_singleton.mp z).symm
  ·refine a0R (a8O pq λ q l hq h=>s46 _ _ ((c4.rest q λ z=>nq (by rw [<- z]; exact hq)).trans (s3 _ _ h))) (s46 _ _ h4)
  ·rw [List.length_append]
   show qs.length + 1 + _ <= _
   omega
  ·intro q hq
   rcases List.mem_append.mp hq with hq | hq
   ·obtain ⟨a1,a2,a3,a4,a5⟩:=pr q hq
    exact ⟨a1,a2,a3,λ x hx z=>a4 x hx ((mf x).mp z).1,λ x hx y hy=>a5 x hx y ((mf y).mp hy).1⟩
   ·rw [List.mem_singleton.mp hq]
    refine ⟨subp.trans sub,List.ne_nil_of_mem vp,λ x hx y hy=>?_,λ x hx z=>((mf x).mp z).2 hx,λ x hx y hy=>?_⟩
    ·by_cases c:x = y
     ·exact .inl c
     ·refine .inr ?_
      rcases conv x hx with e | p1
      ·rcases conv y hy with e' | p2
       ·exact absurd (e.trans e'.symm) c
       ·rw [e]; exact p2
      ·rcases conv y hy with e' | p2
       ·rw [e']; exact p1.symm
       ·exact PathT.glue vp p1.symm p2
    ·obtain ⟨yl,yp⟩:=(mf y).mp hy
     cases t:tieT ts x y with
     | false=>rfl
     | true =>
      refine absurd ((PO.mem y).mpr ⟨yl,.inr ?_⟩) yp
      obtain ⟨xl,c⟩:=(PO.mem x).mp hx
      rcases c with c | c
      ·rw [<- c]; exact .one t
      ·exact .step c xl t
  ·intro x hx
   rcases all x hx with h | ⟨q,hq,h⟩
   ·by_cases c:x ∈ p
    ·exact .inr ⟨p,List.mem_append_right _ (List.mem_singleton.mpr rfl),c⟩
    ·exact .inl ((mf x).mpr ⟨h,c⟩)
   ·exact .inr ⟨q,List.mem_append_left _ hq,h⟩
  ·refine List.pairwise_append.mpr ⟨dis,List.pairwise_singleton _ _,λ q hq r hr x hx z=>?_⟩
   rw [List.mem_singleton.mp hr] at z
   exact (pr q hq).2.2.2.1 x hx (subp.subset z)
  ·refine List.pairwise_append.mpr ⟨apa,List.pairwise_singleton _ _,λ q hq r hr x hx y hy=>?_⟩
   rw [List.mem_singleton.mp hr] at hy
   exact (pr q hq).2.2.2.2 x hx y (subp.subset hy)
abbrev DZ14 (K:PySem.W.Frag) (mg:Str->Option Value):=Dn K mg "is_joined" a7H ["graph", "places"]
set_option maxHeartbeats 8000000 in
theorem b1W (B:Bl mg) (dZ16:DZ16 K mg) (dZ12:DZ12 K mg) (dZ6:DZ6 K mg) (dZ17:DZ17 K mg) (dZ20:DZ20 K mg) (dZ5:DZ5 K mg) (dZ30:DZ30 K mg) (dZ26:DZ26 K mg) (dZ27:DZ27 K mg) (dZ14:DZ14 K mg):FnOk P w K mg base CX0 7 dZ14.f dZ14.fd ["graph", "places"] (c3G K):=by
 have gZ27:FnOk P w K mg base CX0 6 _ _ _ _:=c0R B dZ16 dZ12 dZ6 dZ17 dZ20 dZ5 dZ30 dZ26 dZ27
 refine dZ14.F.ok b1V (λ vs H Q E h=>?_) (λ cdv A outer s H vs Q E hr h=>?_)
 ·obtain ⟨g,n,ts,a,ls,rfl,_⟩:=h
  rfl
 obtain ⟨g,n,ts,a,ls,rfl,hG,okt,n10,l100,hA,up,hn,q⟩:=h
 refine ⟨_,(a0D (a0K (b2I a9Z (a0N (a0T (K:=K) rfl) rfl B.len (by decide +kernel) (a0A (a0F gZ27 hr rfl dZ27.m dZ27.F.kp dZ27.b .nil a0M (a0A (pv 0) (a0A (pv 1) a0B))) a0B)) a0G (a1J _)))),?_⟩
 refine ⟨_,rfl,_,rfl,g,n,ts,a,ls,rfl,hG,okt,n10,l100,hA,up,hn,λ r ps H1 s1 f1 ⟨qs,h1,d1⟩ PO=>?_⟩
 have lq:=Paired.length d1
 refine ⟨r,_,rfl,.inl (SqL.of h1),rfl,?_⟩
 refine q _ H1 s1 ?_
 rw [decide_eq_true_iff,List.length_map,lq,<- c7U PO]
 constructor
 ·intro h; injection h with h; omega
 ·intro h; rw [h]; rfl
end
end K
namespace K
open PySem L2 Lw Bg
abbrev b5G:Stmt:=top 25
theorem sc_ringed:FnScope ["graph", "left", "loose"] ["graph"] (a0E b5G):=⟨rfl,rfl,rfl,by decide +kernel,rfl,by decide +kernel,by decide +kernel⟩
abbrev a5B:Stmt:=top 26
theorem a7P:FnScope ["graph", "left"] ["graph", "left"] (a0E a5B):=⟨rfl,rfl,rfl,by decide +kernel,rfl,by decide +kernel,by decide +kernel⟩
abbrev c0S:Stmt:=top 28
theorem c3H:FnScope ["graph", "piece", "v", "home"] ["graph", "piece", "v"] (a0E c0S):=⟨rfl,rfl,rfl,by decide +kernel,rfl,by decide +kernel,by decide +kernel⟩
theorem b1X {ts:List ζζ} {n:Nat} (ok:∀ t ∈ ts,0 <= t.1/\t.1 < t.2/\t.2 < (n:Int)) (nd:ts.Nodup) (v:Int):(a1B ts v).Nodup:=by
 unfold a1B
 have fm:∀ (f:Int × Int->Option Int),(∀ a b c,f a = some c->f b = some c->a = b)->(ts.filterMap f).Nodup:=λ f hf=>by
  refine List.Pairwise.filterMap f (λ {a a'} ne b hb b' hb' e=>ne ?_) nd
  subst e
  exact hf a a' b hb hb'
 refine List.nodup_append.mpr ⟨fm _ λ a b c ha hb=>?_,fm _ λ a b c ha hb=>?_,λ a ha b hb e=>?_⟩
 ·split at ha
  ·split at hb
   ·rename_i e1 e2
    injection ha with ha
    injection hb with hb
    exact Prod.ext (ha.trans hb.symm) (e1.trans e2.symm)
   ·cases hb
  ·cases ha
 ·split at ha
  ·split at hb
   ·rename_i e1 e2
    injection ha with ha
    injection hb with hb
    exact Prod.ext (e1.trans e2.symm) (ha.trans hb.symm)
   ·cases hb
  ·cases ha
 ·subst e
  obtain ⟨s,hs,es⟩:=List.mem_filterMap.mp ha
  obtain ⟨t,ht,et⟩:=List.mem_filterMap.mp hb
  have o1:=ok s hs
  have o2:=ok t ht
  split at es
  ·split at et
   ·injection es with es
    injection et with et
    omega
   ·cases et
  ·cases es
def a1I (ts:List ζζ) (ls:List Nat) (v:Nat):Bool:=decide ((a0X (a1B ts (v:Int)) (a1D ls)).length < 2)
theorem a5C {ts:List ζζ} {n:Nat} (ok:∀ t ∈ ts,0 <= t.1/\t.1 < t.2/\t.2 < (n:Int)) (nd:ts.Nodup) (ls:List Nat) (v:Nat):a1I ts ls v = true ↔ ∀ a ∈ ls,∀ b ∈ ls,tieT ts v a = true->tieT ts v b = true->a = b:=by
 unfold a1I
 rw [decide_eq_true_iff]
 have mem:∀ x:Nat,(x:Int) ∈ a0X (a1B ts (v:Int)) (a1D ls) ↔ tieT ts v x = true/\x ∈ ls:=λ x=>by
  unfold a0X
  rw [List.mem_filter,decide_eq_true_iff,tieT_around]
  refine and_congr_right λ _=>?_
  rw [mem_natIp]
  constructor
  ·rintro ⟨u,hu,e⟩
   have:u = x:=by omega
   rw [<- this]; exact hu
  ·exact λ h=>⟨x,h,rfl⟩
 have nd':(a0X (a1B ts (v:Int)) (a1D ls)).Nodup:=(b1X ok nd _).sublist List.filter_sublist
 constructor
 ·intro h a ha b hb ta tb
  refine Classical.byContradiction λ ne=>?_
  have:=pigJ (l:=[(a:Int),(b:Int)]) (U:=a0X (a1B ts (v:Int)) (a1D ls)) (by simp; omega) λ x hx=>by
   rcases List.mem_cons.mp hx with e | hx
   ·rw [e]; exact (mem a).mpr ⟨ta,ha⟩
   ·rw [List.mem_singleton.mp hx]; exact (mem b).mpr ⟨tb,hb⟩
  simp at this
  omega
 ·intro h
  rcases e:a0X (a1B ts (v:Int)) (a1D ls) with _ | ⟨x,_ | ⟨y,r⟩⟩
  ·simp
  ·simp
  ·exfalso
   have nat:∀ z ∈ a0X (a1B ts (v:Int)) (a1D ls),∃ u:Nat,z = (u:Int):=λ z hz=>by
    unfold a0X at hz
    obtain ⟨u,_,e⟩:=mem_natIp.mp (of_decide_eq_true (List.mem_filter.mp hz).2)
    exact ⟨u,e⟩
   have hx:x ∈ a0X (a1B ts (v:Int)) (a1D ls):=by rw [e]; exact List.mem_cons_self
   have hy:y ∈ a0X (a1B ts (v:Int)) (a1D ls):=by rw [e]; exact List.mem_cons_of_mem _ List.mem_cons_self
   obtain ⟨a,rfl⟩:=nat x hx
   obtain ⟨b,rfl⟩:=nat y hy
   obtain ⟨ta,ha⟩:=(mem a).mp hx
   obtain ⟨tb,hb⟩:=(mem b).mp hy
   have:=h a ha b hb ta tb
   rw [e,this] at nd'
   exact (List.nodup_cons.mp nd').1 List.mem_cons_self
theorem a4A {ts:List ζζ} (l:ts.length <= 100) (v:Int):(a1B ts v).length <= 1000:=by
 unfold a1B
 rw [List.length_append]
 have h1:=List.length_filterMap_le (λ t:Int × Int=>if t.2 = v then some t.1 else none) ts
 have h2:=List.length_filterMap_le (λ t:Int × Int=>if t.1 = v then some t.2 else none) ts
 omega
def c7V (K:Φρ):Sp:=λ vs H Q _=>∃ (g:V) (n:Nat) (ts:List ζζ) (a:Addr) (ls:List Nat),vs = [g,.ref a]/\GraphV K H g n ts/\n <= 10/\ts.length <= 100/\SqL K H a (natV ls)/\ls.length <= 10/\(∀ x ∈ ls,x < n) /\
 ∀ H0 p H',Same H H0->New H0 p (.lst (natV (ls.filter (a1I ts ls)))) H'->Q (.ref p) H'
structure Core (ts:List ζζ) (n:Nat) (lf:List Nat):Prop where
 sub:lf.Sublist (List.range n)
 two:∀ v ∈ lf,a1I ts lf v = false
 all:∀ S:List Nat,(∀ v ∈ S,v < n/\a1I ts S v = false)->∀ v ∈ S,v ∈ lf
def c3I (K:Φρ):Sp:=λ vs H Q _=>∃ (g:V) (n:Nat) (ts:List ζζ),vs = [g]/\GraphV K H g n ts/\(∀ t ∈ ts,0 <= t.1/\t.1 < t.2/\t.2 < (n:Int))/\ts.Nodup/\n <= 10/\ts.length <= 100 /\
 ∀ r lf H',Same H H'->H r = none->H' r = some (.lst (natV lf))->Core ts n lf->Q (.ref r) H'
theorem b6L (lf p:List Nat):a4J (a1D lf) (a1D p) = a1D (lf.filter λ x=>!decide (x ∈ p)):=by
 unfold a4J a1D
 rw [List.filter_map]
 refine congrArg _ (List.filter_congr λ x _=>?_)
 show (!decide ((x:Int) ∈ p.map λ (y:Nat)=>(y:Int))) = _
 rw [show decide ((x:Int) ∈ p.map λ (y:Nat)=>(y:Int)) = decide (x ∈ p) from decide_eq_decide.mpr (by
  rw [List.mem_map]
  constructor
  ·rintro ⟨y,hy,e⟩
   have:y = x:=by omega
   rw [<- this]; exact hy
  ·exact λ h=>⟨x,h,rfl⟩)]
section
variable {P:Program} {w:World} {K:Φρ} {mg:Str->Option Value} {base:Heap}
abbrev DZ21 (K:PySem.W.Frag) (mg:Str->Option Value):=Dn K mg "loose_among" a5B ["graph", "left"]
set_option maxHeartbeats 8000000 in
theorem a7Q (B:Bl mg) (dZ16:DZ16 K mg) (dZ12:DZ12 K mg) (dZ6:DZ6 K mg) (dZ5:DZ5 K mg) (dZ21:DZ21 K mg):FnOk P w K mg base CX0 4 dZ21.f dZ21.fd ["graph", "left"] (c7V K):=by
 have gZ5:FnOk P w K mg base CX0 3 _ _ _ _:=a4W B dZ16 dZ12 dZ5
 have gZ6:FnOk P w K mg base CX0 3 _ _ _ _:=(a3R B dZ6).mono (by decide)
 refine dZ21.F.ok a7P (λ vs H Q E h=>?_) (λ cdv A outer s H vs Q E hr h=>?_)
 ·obtain ⟨g,n,ts,a,ls,rfl,_⟩:=h
  rfl
 obtain ⟨g,n,ts,a,ls,rfl,hG,n10,l100,hA,l10,hn,q⟩:=h
 refine ⟨_,(a0D (a0K (a3K ["v", "left", "graph"] [none,some 1,some 0]  (by kernel_rfl) rfl (a0P (K:=K) rfl (pv 1)) (λ _ _ _ _ _=>(a0H (i:=0) (show (["v", "left", "graph"]:List Str).Nodup by decide +kernel) rfl (Or.inl rfl))) (λ _ _ _ _ _=>(a2O (a0O a8S (a0N (a0T (K:=K) rfl) rfl B.len (by decide +kernel) (a0A (a0F gZ6 hr rfl dZ6.m dZ6.F.kp dZ6.b .nil a0M (a0A (a0F gZ5 hr rfl dZ5.m dZ5.F.kp dZ5.b .nil a0M (a0A (pv 2) (a0A (pv 0) a0B))) (a0A (pv 1) a0B))) a0B)) a0G (a1J _)))) (λ _ _ _ _ _=>(pv 0))))),?_⟩
 refine ⟨_,rfl,a,rfl,⟨_,hA⟩,?_⟩
 refine a5W (λ x=>match x with | .int z=>if a1I ts ls z.toNat then some (.int z) else none | _=>none) hA (by rw [a9L]; omega) (λ x H1 N hx s1 hN=>?_) (λ H1 p H2 s1 n2=>?_)
 ·obtain ⟨v,hv,rfl⟩:=List.mem_map.mp hx
  dsimp only at hN
  rw [Int.toNat_natCast] at hN
  have vn:=hn v hv
  have hA1:∀ {H':Hp},Same H H'->SqL K H' a ((a1D ls).map V.int):=λ {H'} s=>by
   have:=s.seq hA
   rw [a0S] at this
   exact this
  refine ⟨_,rfl,_,rfl,g,n,ts,v,rfl,hG.same s1,by omega,by omega,by omega,λ H2 p3 H3 s2 n3=>?_⟩
  have s03:=s1.trans (s2.trans n3.same)
  refine ⟨_,rfl,p3,a,_,_,rfl,SqL.of n3.here,hA1 s03,a4A l100 _,λ H4 p5 H5 s4 n5=>?_⟩
  have s05:=s03.trans (s4.trans n5.same)
  refine ⟨p5,_,rfl,.inl (SqL.of n5.here),_,_,rfl,rfl,_,rfl,?_⟩
  have e:decide ((((a0X (a1B ts (v:Int)) (a1D ls)).map V.int).length:Int) < 2) = a1I ts ls v:=by
   unfold a1I
   rw [List.length_map]
   exact decide_eq_decide.mpr (by omega)
  have hN':=hN H5 s05
  rw [e]
  cases c:a1I ts ls v with
  | true=>rw [c] at hN'; exact iteT ⟨_,rfl,hN'⟩
  | false=>rw [c] at hN'; exact iteF hN'
 ·rw [b9W (p:=a1I ts ls) λ x _=>by dsimp only; rw [Int.toNat_natCast]] at n2
  exact q _ _ _ s1 n2
abbrev DZ32 (K:PySem.W.Frag) (mg:Str->Option Value):=Dn K mg "ringed" b5G ["graph"]
set_option maxHeartbeats 8000000 in
theorem c0T (B:Bl mg) (dZ16:DZ16 K mg) (dZ12:DZ12 K mg) (dZ6:DZ6 K mg) (dZ20:DZ20 K mg) (dZ5:DZ5 K mg) (dZ21:DZ21 K mg) (dZ32:DZ32 K mg):FnOk P w K mg base CX0 5 dZ32.f dZ32.fd ["graph"] (c3I K):=by
 have gZ21:FnOk P w K mg base CX0 4 _ _ _ _:=a7Q B dZ16 dZ12 dZ6 dZ5 dZ21
 have gZ20:FnOk P w K mg base CX0 4 _ _ _ _:=(a5M B dZ20).mono (by decide)
 refine dZ32.F.ok sc_ringed (λ vs H Q E h=>?_) (λ cdv A outer s H vs Q E hr h=>?_)
 ·obtain ⟨g,n,ts,rfl,_⟩:=h
  rfl
 obtain ⟨g,n,ts,rfl,hG,okt,nd,n10,l100,q⟩:=h
 obtain ⟨pg,ta,rfl,hP,hT⟩:=id hG
 refine ⟨_,(a0C (a0L (i:=1) sc_ringed.nd rfl (Or.inl rfl) (b4K rfl B.list B.range (a0A (a0U (a1P (K:=K) rfl) (pv 0) a0G (λ _ _=>rfl)) a0B)))
   (a0C (a0L (i:=2) sc_ringed.nd rfl (Or.inl rfl) (a0F gZ21 hr rfl dZ21.m dZ21.F.kp dZ21.b .nil a0M (a0A (pv 0) (a0A (pv 1) a0B))))
   (a0C (a4N PassesOwn.never (a0W (K:=K) rfl (pv 2) (λ _=>rfl))
   (a0C (a0L (i:=1) sc_ringed.nd rfl (Or.inl rfl) (a0F gZ20 hr rfl dZ20.m dZ20.F.kp dZ20.b .nil a0M (a0A (pv 1) (a0A (pv 2) a0B))))
   (a0D (a0L (i:=2) sc_ringed.nd rfl (Or.inl rfl) (a0F gZ21 hr rfl dZ21.m dZ21.F.kp dZ21.b .nil a0M (a0A (pv 0) (a0A (pv 1) a0B)))))))
   (a0D (a0K (pv 1)))))),?_⟩
 refine ⟨_,rfl,pg,_,_,_,rfl,rfl,hP,rfl,n,rfl,by omega,λ p1 H1 n1=>?_⟩
 refine ⟨_,rfl,_,rfl,.ref pg,n,ts,p1,List.range n,rfl,hG.same n1.same,n10,l100,SqL.of n1.here,by rw [List.length_range]; exact n10,λ x hx=>List.mem_range.mp hx,λ H2 p3 H3 s2 n3=>?_⟩
 refine ⟨λ m σ H'=>∃ (pl pq:Addr) (lf:List Nat),σ = [some (.ref pg),some (.ref pl),some (.ref pq)]/\Same H H'/\H pl = none/\H' pl = some (.lst (natV lf))/\H' pq = some (.lst (natV (lf.filter (a1I ts lf))))/\m = lf.length/\lf.Sublist (List.range n)/\∀ S:List Nat,(∀ v ∈ S,v < n/\a1I ts S v = false)->∀ v ∈ S,v ∈ lf,
  ⟨_,p1,p3,List.range n,rfl,n1.same.trans (s2.trans n3.same),n1.fresh,(s2.trans n3.same) _ _ n1.here,n3.here,rfl,List.Sublist.refl _,λ S hS v hv=>List.mem_range.mpr (hS v hv).1⟩,?_⟩
 rintro m σ H4 ⟨pl,pq,lf,rfl,s4,f4,h4,h4',rfl,sub,all⟩
 refine ⟨_,rfl,_,.inl ⟨_,SqL.of h4',rfl⟩,?_⟩
 by_cases c:lf.filter (a1I ts lf) = []
 ·rw [show (!(natV (lf.filter (a1I ts lf))).isEmpty) = false by rw [c]; rfl]
  refine iteF ⟨_,rfl,q pl lf H4 s4 f4 h4 ⟨sub,λ v hv=>?_,all⟩⟩
  cases e:a1I ts lf v with
  | false=>rfl
  | true =>
   have:=List.mem_filter.mpr ⟨hv,e⟩
   rw [c] at this
   exact absurd this List.not_mem_nil
 ·rw [show (!(natV (lf.filter (a1I ts lf))).isEmpty) = true by
   cases e:lf.filter (a1I ts lf) with
   | nil=>exact absurd e c
   | cons _ _=>rfl]
  refine iteT ⟨λ σ' H'=>∃ m',m' < lf.length/\∃ (pl pq:Addr) (lf:List Nat),σ' = [some (.ref pg),some (.ref pl),some (.ref pq)]/\Same H H'/\H pl = none/\H' pl = some (.lst (natV lf))/\H' pq = some (.lst (natV (lf.filter (a1I ts lf))))/\m' = lf.length/\lf.Sublist (List.range n)/\∀ S:List Nat,(∀ v ∈ S,v < n/\a1I ts S v = false)->∀ v ∈ S,v ∈ lf,λ σ' H' z=>z,?_⟩
  have nk:∀ {H':Hp} {a:Addr} {l:List Nat},H' a = some (.lst (natV l))->SqL K H' a ((a1D l).map V.int):=λ {H' a l} h=>by
   have:=SqL.of (K:=K) h
   rw [a0S] at this
   exact this
  have ll:lf.length <= 10:=by have:=sub.length_le; rw [List.length_range] at this; omega
  refine ⟨_,rfl,_,rfl,pl,pq,_,_,rfl,nk h4,nk h4',by unfold a1D; rw [List.length_map]; omega,λ H5 p6 H6 s5 n6=>?_⟩
  rw [b6L,show (a1D (lf.filter λ x=>!decide (x ∈ lf.filter (a1I ts lf)))).map V.int = natV (lf.filter λ x=>!decide (x ∈ lf.filter (a1I ts lf))) by rw [a0S]; rfl] at n6
  have s46:=s5.trans n6.same
  have sub':(lf.filter λ x=>!decide (x ∈ lf.filter (a1I ts lf))).Sublist (List.range n):=List.filter_sublist.trans sub
  have ll':(lf.filter λ x=>!decide (x ∈ lf.filter (a1I ts lf))).length <= 10:=by have:=sub'.length_le; rw [List.length_range] at this; omega
  refine ⟨_,rfl,_,rfl,.ref pg,n,ts,p6,_,rfl,hG.same (s4.trans s46),n10,l100,SqL.of n6.here,ll',λ x hx=>List.mem_range.mp (sub'.subset hx),λ H7 p8 H8 s7 n8=>?_⟩
  refine ⟨_,?_,p6,p8,_,rfl,s4.trans (s46.trans (s7.trans n8.same)),s4.free (s5.free n6.fresh),(s7.trans n8.same) _ _ n6.here,n8.here,rfl,sub',λ S hS v hv=>?_⟩
  ·obtain ⟨v,r,e⟩:=List.exists_cons_of_ne_nil c
   have vm:v ∈ lf.filter (a1I ts lf):=by rw [e]; exact List.mem_cons_self
   refine List.length_filter_lt_length_iff_exists.mpr ⟨v,(List.mem_filter.mp vm).1,?_⟩
   rw [decide_eq_true vm]; exact Bool.false_ne_true
  ·have vl:=all S hS v hv
   refine List.mem_filter.mpr ⟨vl,?_⟩
   rw [show decide (v ∈ lf.filter (a1I ts lf)) = false from decide_eq_false λ z=>?_]
   ·rfl
   ·have h1:=(a5C okt nd lf v).mp (List.mem_filter.mp z).2
    have h2:=(a5C okt nd S v).mpr λ a ha b hb=>h1 a (all S hS a ha) b (all S hS b hb)
    rw [(hS v hv).2] at h2
    cases h2
end
theorem c0U (xs:List V) (k:Nat):cutV xs none (some (k:Int)) = xs.take k:=by
 unfold cutV
 rw [HT.sIx_nat,show HT.sIx xs.length 0 none = 0 from rfl,List.drop_zero,Nat.sub_zero]
 rcases Nat.le_total k xs.length with c | c
 ·rw [Nat.min_eq_left c]
 ·rw [Nat.min_eq_right c,List.take_of_length_le (Nat.le_refl _),List.take_of_length_le c]
theorem c0V (xs:List V) (k:Nat):cutV xs (some (k:Int)) none = xs.drop k:=by
 unfold cutV
 rw [HT.sIx_nat,show HT.sIx xs.length xs.length none = xs.length from rfl]
 rcases Nat.le_total k xs.length with c | c
 ·rw [Nat.min_eq_left c,List.take_of_length_le (by rw [List.length_drop]; exact Nat.le_refl _)]
 ·rw [Nat.min_eq_right c,List.drop_of_length_le (Nat.le_refl _),List.drop_of_length_le c,List.take_nil]
structure WayR (ts:List ζζ) (lf w:List Nat) (v:Nat):Prop where
 ne:0 < w.length
 nd:w.Nodup
 mem:∀ x ∈ w,x ∈ lf
 tie:∀ i,i + 1 < w.length->tieT ts (w.getD i 0) (w.getD (i + 1) 0) = true
 vin:v ∈ lf
 last:tieT ts (w.getD (w.length - 1) 0) v = true
 back:∀ i,i + 2 = w.length->v ≠ w.getD i 0
structure RingR (ts:List ζζ) (n:Nat) (r:List Nat):Prop where
 len:3 <= r.length
 nd:r.Nodup
 lt:∀ x ∈ r,x < n
 tie:∀ i,i + 1 < r.length->tieT ts (r.getD i 0) (r.getD (i + 1) 0) = true
 clo:tieT ts (r.getD (r.length - 1) 0) (r.getD 0 0) = true
theorem c3J {ts:List ζζ} {n:Nat} (ok:∀ t ∈ ts,0 <= t.1/\t.1 < t.2/\t.2 < (n:Int)) {x:Nat}:tieT ts x x = false:=by
 cases e:tieT ts x x with
 | false=>rfl
 | true =>
  unfold tieT at e
  rw [Bool.or_self,decide_eq_true_iff] at e
  have:=ok _ e
  dsimp only at this
  omega
theorem a5Q {w:List Nat} {i x:Nat} (h:i < w.length):(w ++ [x]).getD i 0 = w.getD i 0:=by
 rw [τα,List.getElem?_append_left h,τα]
theorem a8P {w:List Nat} {x:Nat}:(w ++ [x]).getD w.length 0 = x:=by
 rw [τα,List.getElem?_append_right (Nat.le_refl _),Nat.sub_self]; rfl
theorem WayR.add {ts:List ζζ} {lf w:List Nat} {v u:Nat} (h:WayR ts lf w v) (nv:v ∉ w) (hu:u ∈ lf) (t:tieT ts v u = true) (b:u ≠ w.getD (w.length - 1) 0):WayR ts lf (w ++ [v]) u:=by
 have l1:(w ++ [v]).length = w.length + 1:=by rw [List.length_append]; rfl
 have p:=h.ne
 refine ⟨by omega,?_,λ x hx=>?_,λ i hi=>?_,hu,?_,λ i hi=>?_⟩
 ·refine List.nodup_append.mpr ⟨h.nd,by simp,λ a ha b hb e=>nv ?_⟩
  rw [List.mem_singleton.mp hb] at e
  rw [<- e]; exact ha
 ·rcases List.mem_append.mp hx with hx | hx
  ·exact h.mem x hx
  ·rw [List.mem_singleton.mp hx]; exact h.vin
 ·rw [l1] at hi
  rw [a5Q (by omega)]
  rcases Nat.lt_or_ge (i + 1) w.length with c | c
  ·rw [a5Q c]; exact h.tie i c
  ·have e:i + 1 = w.length:=by omega
   rw [e,a8P,show i = w.length - 1 by omega]
   exact h.last
 ·rw [l1,Nat.add_sub_cancel,a8P]; exact t
 ·rw [l1] at hi
  rw [a5Q (by omega),show i = w.length - 1 by omega]
  exact b
theorem WayR.len {ts:List ζζ} {lf w:List Nat} {v:Nat} (h:WayR ts lf w v):w.length <= lf.length:=by
 have:=pigN h.nd h.mem
 exact this
theorem a5D {w:List Nat} (j i:Nat):(w.drop j).getD i 0 = w.getD (j + i) 0:=by
 rw [τα,List.getElem?_drop,τα]
theorem WayR.ring {ts:List ζζ} {n:Nat} {lf w:List Nat} {v j:Nat} (ok:∀ t ∈ ts,0 <= t.1/\t.1 < t.2/\t.2 < (n:Int)) (lt:∀ x ∈ lf,x < n) (h:WayR ts lf w v) (hj:w[j]? = some v):RingR ts n (w.drop j):=by
 have jl:=(List.getElem?_eq_some_iff.mp hj).1
 have ev:w.getD j 0 = v:=by rw [τα,hj]; rfl
 have n1:j + 1 ≠ w.length:=λ e=>by
  have:=h.last
  rw [show w.length - 1 = j by omega,ev,c3J ok] at this
  cases this
 have n2:j + 2 ≠ w.length:=λ e=>h.back j e ev.symm
 have l1:(w.drop j).length = w.length - j:=List.length_drop ..
 refine ⟨by omega,h.nd.sublist (List.drop_sublist ..),λ x hx=>lt x (h.mem x (List.mem_of_mem_drop hx)),λ i hi=>?_,?_⟩
 ·rw [a5D,a5D]
  exact h.tie (j + i) (by omega)
 ·rw [a5D,a5D,l1,show j + (w.length - j - 1) = w.length - 1 by omega,Nat.add_zero,ev]
  exact h.last
theorem nb_mem {ts:List ζζ} {lf:List Nat} {v:Nat} {x:Int}:x ∈ a0X (a1B ts (v:Int)) (a1D lf) ↔ ∃ u:Nat,x = (u:Int)/\tieT ts v u = true/\u ∈ lf:=by
 unfold a0X
 rw [List.mem_filter,decide_eq_true_iff,mem_natIp]
 constructor
 ·rintro ⟨h,u,hu,e⟩
  subst e
  exact ⟨u,rfl,tieT_around.mp h,hu⟩
 ·rintro ⟨u,e,t,hu⟩
  subst e
  exact ⟨tieT_around.mpr t,u,hu,rfl⟩
theorem c4W {ts:List ζζ} {n:Nat} (ok:∀ t ∈ ts,0 <= t.1/\t.1 < t.2/\t.2 < (n:Int)) (nd:ts.Nodup) {lf:List Nat} {v:Nat} (h:a1I ts lf v = false) (p:Nat):∃ u ∈ lf,tieT ts v u = true/\u ≠ p:=by
 have:¬ ∀ a ∈ lf,∀ b ∈ lf,tieT ts v a = true->tieT ts v b = true->a = b:=λ z=>by
  rw [(a5C ok nd lf v).mpr z] at h
  cases h
 refine Classical.byContradiction λ c=>this λ a ha b hb ta tb=>?_
 have e1:a = p:=Classical.byContradiction λ q=>c ⟨a,ha,ta,q⟩
 have e2:b = p:=Classical.byContradiction λ q=>c ⟨b,hb,tb,q⟩
 rw [e1,e2]
theorem c3K (xs:List V) (a:V) (h:2 <= xs.length) (ha:xs[xs.length - 2]? = some a):cutV xs (some (-2)) (some (-1)) = [a]:=by
 unfold cutV
 have e1:HT.sIx xs.length 0 (some (-2)) = xs.length - 2:=by
  unfold HT.sIx; simp; omega
 have e2:HT.sIx xs.length xs.length (some (-1)) = xs.length - 1:=by
  unfold HT.sIx; simp; omega
 rw [e1,e2,show xs.length - 1 - (xs.length - 2) = 1 by omega]
 have hl:xs.length - 2 < xs.length:=by omega
 rw [List.drop_eq_getElem_cons hl,List.take_succ_cons,List.take_zero]
 rw [List.getElem?_eq_getElem hl] at ha
 injection ha with ha
 rw [ha]
abbrev c4X:Stmt:=top 24
theorem sc_wood:FnScope ["graph", "left", "ups", "v", "piece"] ["graph"] (a0E c4X):=⟨rfl,rfl,rfl,by decide +kernel,rfl,by decide +kernel,by decide +kernel⟩
abbrev a3T:Stmt:=top 27
theorem sc_ring_among:FnScope ["graph", "left", "way", "v"] ["graph", "left"] (a0E a3T):=⟨rfl,rfl,rfl,by decide +kernel,rfl,by decide +kernel,by decide +kernel⟩
def d0F (K:Φρ):Sp:=λ vs H Q _=>∃ (g:V) (n:Nat) (ts:List ζζ) (a:Addr) (lf:List Nat),vs = [g,.ref a]/\GraphV K H g n ts/\(∀ t ∈ ts,0 <= t.1/\t.1 < t.2/\t.2 < (n:Int))/\ts.Nodup/\n <= 10/\ts.length <= 100/\SqL K H a (natV lf)/\Core ts n lf/\lf ≠ [] /\
 ∀ p r H',Same H H'->H p = none->H' p = some (.lst (natV r))->RingR ts n r->Q (.ref p) H'
def c7W (K:Φρ):Sp:=λ vs H Q _=>∃ (g:V) (n:Nat) (ts:List ζζ),vs = [g]/\GraphV K H g n ts/\(∀ t ∈ ts,0 <= t.1/\t.1 < t.2/\t.2 < (n:Int))/\ts.Nodup/\n <= 10/\ts.length <= 100/\(∀ lf,Core ts n lf->lf ≠ []) /\
 ∀ p q r H',Same H H'->H q = none->H' q = some (.lst (natV r))->H' p = some (.tup [.str "ring", .ref q])->RingR ts n r->Q (.ref p) H'
theorem c3L (a b:List Nat):natV (a ++ b) = natV a ++ natV b:=List.map_append
section
variable {P:Program} {w:World} {K:Φρ} {mg:Str->Option Value} {base:Heap}
abbrev DZ31 (K:PySem.W.Frag) (mg:Str->Option Value):=Dn K mg "ring_among" a3T ["graph", "left"]
set_option maxHeartbeats 8000000 in
theorem a9R (B:Bl mg) (dZ16:DZ16 K mg) (dZ12:DZ12 K mg) (dZ6:DZ6 K mg) (dZ20:DZ20 K mg) (dZ5:DZ5 K mg) (dZ31:DZ31 K mg):FnOk P w K mg base CX0 7 dZ31.f dZ31.fd ["graph", "left"] (d0F K):=by
 have gZ5:FnOk P w K mg base CX0 6 _ _ _ _:=(a4W B dZ16 dZ12 dZ5).mono (by decide)
 have gZ6:FnOk P w K mg base CX0 6 _ _ _ _:=(a3R B dZ6).mono (by decide)
 have gZ20:FnOk P w K mg base CX0 6 _ _ _ _:=(a5M B dZ20).mono (by decide)
 refine dZ31.F.ok sc_ring_among (λ vs H Q E h=>?_) (λ cdv A outer s H vs Q E hr h=>?_)
 ·obtain ⟨g,n,ts,a,lf,rfl,_⟩:=h
  rfl
 obtain ⟨g,n,ts,a,lf,rfl,hG,okt,nd,n10,l100,hA,C,ne,q⟩:=h
 have hv:(A.deeper (PyProof.Rows.envOfC "ring_among" (a0E a3T) s.heap.objs.size dZ31.f cdv)).units + 65 < cLine:=by have:=hr.un; omega
 have lt:∀ x ∈ lf,x < n:=λ x hx=>List.mem_range.mp (C.sub.subset hx)
 have ll:lf.length <= 10:=by have:=C.sub.length_le; rw [List.length_range] at this; omega
 obtain ⟨x0,lf',elf⟩:=List.exists_cons_of_ne_nil ne
 have x0m:x0 ∈ lf:=by rw [elf]; exact List.mem_cons_self
 have nk:∀ {H':Hp} {l:List Nat} {a:Addr},SqL K H' a (natV l)->SqL K H' a ((a1D l).map V.int):=λ {H' l a} h=>by
  rw [a0S] at h
  exact h
 refine ⟨_,(a0C (a0L (i:=2) sc_ring_among.nd rfl (Or.inl rfl) (a3X (a3Y (K:=K) rfl) (pv 1) a6S (a4F a0G)))
   (a0C (a0L (i:=3) sc_ring_among.nd rfl (Or.inl rfl) (a0U (a0I (K:=K) rfl) (a0F gZ6 hr rfl dZ6.m dZ6.F.kp dZ6.b .nil a0M (a0A (a0F gZ5 hr rfl dZ5.m dZ5.F.kp dZ5.b .nil a0M (a0A (pv 0) (a0A (a0U (a0I (K:=K) rfl) (pv 2) a0G (λ _ _=>rfl)) a0B))) (a0A (pv 1) a0B))) a0G (λ _ _=>rfl)))
   (a0C (a4N PassesOwn.never (a0O (a5I (K:=K) rfl hv) (pv 3) (pv 2) (by with_unfolding_all rfl))
   (a0C (a2L (a3A (K:=K) rfl PySem.F.plainAttrs_list PySem.F.slot_list_append PySem.F.type_list_append a2A (pv 2) (a0A (pv 3) a0B)))
   (a0D (a0L (i:=3) sc_ring_among.nd rfl (Or.inl rfl) (a0U (a0I (K:=K) rfl) (a0F gZ20 hr rfl dZ20.m dZ20.F.kp dZ20.b .nil a0M (a0A (a0F gZ6 hr rfl dZ6.m dZ6.F.kp dZ6.b .nil a0M (a0A (a0F gZ5 hr rfl dZ5.m dZ5.F.kp dZ5.b .nil a0M (a0A (pv 0) (a0A (pv 3) a0B))) (a0A (pv 1) a0B))) (a0A (a3X (a3Y (K:=K) rfl) (pv 2) (a4F (c1O b3T a0G)) (a4F (c1O b3T a0G))) a0B))) a0G (λ _ _=>rfl))))))
   (a0D (a0K (a3X (a3Y (K:=K) rfl) (pv 2) (a4F (a3A (K:=K) rfl PySem.F.plainAttrs_list PySem.F.slot_list_index PySem.F.type_list_index b0X (pv 2) (a0A (pv 3) a0B))) a6S)))))),?_⟩
 refine ⟨_,rfl,1,rfl,a,_,rfl,hA,λ pw H1 n1=>?_⟩
 have e1:cutV (natV lf) none (some 1) = natV [x0]:=by
  rw [show (1:Int) = ((1:Nat):Int) from rfl,c0U,elf]; rfl
 rw [e1] at n1
 have hd:∀ {L:List Int} {v:Nat},(∀ x ∈ L,∃ u:Nat,x = (u:Int)/\tieT ts v u = true/\u ∈ lf)->L ≠ []->∃ u:Nat,((u:Int)) ∈ L/\atI (L.map V.int) 0 = some (.int (u:Int))/\tieT ts v u = true/\u ∈ lf:=λ {L v} h ne=>by
  obtain ⟨x,r,e⟩:=List.exists_cons_of_ne_nil ne
  obtain ⟨u,rfl,t,m⟩:=h x (by rw [e]; exact List.mem_cons_self)
  refine ⟨u,by rw [e]; exact List.mem_cons_self,?_,t,m⟩
  have:atI (L.map V.int) ((0:Nat):Int) = some (.int (u:Int)):=a2M (by rw [e]; rfl)
  exact this
 have x0n:=lt x0 x0m
 have a0:atI (natV [x0]) 0 = some (.int (x0:Int)):=by
  have:atI (natV [x0]) ((0:Nat):Int) = some (.int (x0:Int)):=a2M rfl
  exact this
 refine ⟨_,rfl,_,rfl,pw,_,_,_,rfl,rfl,SqL.of n1.here,a0,g,n,ts,x0,rfl,hG.same n1.same,by omega,by omega,by omega,λ H2 p3 H3 s2 n3=>?_⟩
 have s13:=s2.trans n3.same
 have s03:=n1.same.trans s13
 refine ⟨_,rfl,p3,a,_,_,rfl,SqL.of n3.here,nk (s03.seq hA),a4A l100 _,λ H4 p5 H5 s4 n5=>?_⟩
 have s15:=s13.trans (s4.trans n5.same)
 obtain ⟨u0,_,at5,t0,m0⟩:=hd (v:=x0) (λ x hx=>nb_mem.mp hx) (by
  obtain ⟨u,hu,tu,_⟩:=c4W okt nd (C.two x0 x0m) 0
  exact List.ne_nil_of_mem (nb_mem.mpr ⟨u,rfl,tu,hu⟩))
 refine ⟨p5,_,_,_,rfl,rfl,SqL.of n5.here,at5,?_⟩
 refine ⟨λ m σ H'=>∃ (ws:List Nat) (v:Nat),σ = [some g,some (.ref a),some (.ref pw),some (.int (v:Int))]/\Same H H'/\H' pw = some (.lst (natV ws))/\WayR ts lf ws v/\m = lf.length + 1 - ws.length,
  ⟨_,[x0],u0,rfl,n1.same.trans s15,s15 _ _ n1.here,⟨Nat.one_pos,by simp,λ x hx=>by rw [List.mem_singleton.mp hx]; exact x0m,λ i hi=>absurd hi (by simp),m0,t0,λ i hi=>absurd hi (by simp)⟩,rfl⟩,?_⟩
 rintro m σ H6 ⟨ws,v,rfl,s6,h6,W,rfl⟩
 have vn:=lt v W.vin
 have wl:=W.len
 refine ⟨_,rfl,_,rfl,b0Q (nk (SqL.of h6)) ⟨_,rfl,?_⟩⟩
 have ev:decide ((v:Int) ∈ a1D ws) = decide (v ∈ ws):=decide_eq_decide.mpr (by
  rw [mem_natIp]
  constructor
  ·rintro ⟨u,hu,e⟩
   have:u = v:=by omega
   rw [<- this]; exact hu
  ·exact λ h=>⟨v,h,rfl⟩)
 rw [ev]
 by_cases c:v ∈ ws
 ·rw [decide_eq_true c]
  refine iteF ?_
  have ws0:ws[ws.idxOf v]? = some v:=by
   rw [List.getElem?_eq_getElem (List.idxOf_lt_length_of_mem c)]
   exact congrArg some (List.getElem_idxOf _)
  have h6':H6 pw = some (.lst ((a1D ws).map V.int)):=by rw [h6,a0S]; rfl
  refine ⟨_,rfl,_,rfl,.inl ⟨rfl,_,SqL.of h6⟩,_,rfl,pw,a1D ws,v,ws.idxOf v,rfl,rfl,h6',?_,λ m hm e=>?_,?_,_,rfl,pw,_,rfl,SqL.of h6,λ p7 H7 n7=>?_⟩
  ·unfold a1D
   rw [List.getElem?_map,ws0]; rfl
  ·unfold a1D at e
   rw [List.getElem?_map] at e
   have ml:m < ws.length:=Nat.lt_trans hm (List.idxOf_lt_length_of_mem c)
   rw [List.getElem?_eq_getElem ml] at e
   have e':((ws[m]:Nat):Int) = (v:Int):=Option.some.inj e
   have e2:ws[m] = v:=by omega
   have:=List.Nodup.idxOf_getElem W.nd m ml
   rw [e2] at this
   omega
  ·unfold a1D
   rw [List.length_map]; omega
  ·rw [c0V] at n7
   have h7:H7 p7 = some (.lst (natV (ws.drop (ws.idxOf v)))):=by rw [n7.here]; unfold natV; rw [List.map_drop]
   exact q p7 _ H7 (s6.trans n7.same) (s6.free n7.fresh) h7 (W.ring okt lt ws0)
 ·rw [decide_eq_false c]
  refine iteT ⟨λ σ' H'=>∃ m',m' < lf.length + 1 - ws.length/\∃ (ws:List Nat) (v:Nat),σ' = [some g,some (.ref a),some (.ref pw),some (.int (v:Int))]/\Same H H'/\H' pw = some (.lst (natV ws))/\WayR ts lf ws v/\m' = lf.length + 1 - ws.length,λ σ' H' z=>z,?_⟩
  refine ⟨_,rfl,.inl ⟨rfl,_,SqL.of h6⟩,_,rfl,pw,_,_,rfl,rfl,h6,by rw [a9L]; omega,λ H7 c7=>?_⟩
  have h7:H7 pw = some (.lst (natV (ws ++ [v]))):=by rw [c3L]; exact c7.here
  have s7:Same H H7:=s6.chg n1.fresh c7
  refine ⟨_,rfl,_,rfl,g,n,ts,v,rfl,hG.same s7,by omega,by omega,by omega,λ H8 p9 H9 s8 n9=>?_⟩
  have s79:=s8.trans n9.same
  refine ⟨_,rfl,p9,a,_,_,rfl,SqL.of n9.here,nk ((s7.trans s79).seq hA),a4A l100 _,λ H10 p11 H11 s10 n11=>?_⟩
  have s711:=s79.trans (s10.trans n11.same)
  refine ⟨_,rfl,2,rfl,-2,rfl,1,rfl,-1,rfl,pw,_,rfl,SqL.of (s711 _ _ h7),λ p12 H12 n12=>?_⟩
  have lw:(ws ++ [v]).length = ws.length + 1:=by rw [List.length_append]; rfl
  have wp:=W.ne
  have e12:cutV (natV (ws ++ [v])) (some (-2)) (some (-1)) = natV [ws.getD (ws.length - 1) 0]:=by
   refine c3K _ _ (by rw [a9L]; omega) ?_
   unfold natV
   rw [List.length_map,lw,List.getElem?_map,show ws.length + 1 - 2 = ws.length - 1 by omega,List.getElem?_append_left (by omega),List.getElem?_eq_getElem (by omega),τα,List.getElem?_eq_getElem (by omega)]
   rfl
  rw [e12] at n12
  have s712:=s711.trans n12.same
  refine ⟨p11,p12,_,a1D [ws.getD (ws.length - 1) 0],rfl,SqL.of (n12.same _ _ n11.here),nk (SqL.of n12.here),?_,λ H13 p14 H14 s13 n14=>?_⟩
  ·refine Nat.le_trans (List.length_filter_le _ _) (a4A l100 _)
  have s714:=s712.trans (s13.trans n14.same)
  have lm:∀ x ∈ a4J (a0X (a1B ts (v:Int)) (a1D lf)) (a1D [ws.getD (ws.length - 1) 0]),(∃ u:Nat,x = (u:Int)/\tieT ts v u = true/\u ∈ lf)/\x ≠ ((ws.getD (ws.length - 1) 0:Nat):Int):=λ x hx=>by
   unfold a4J at hx
   obtain ⟨h1,h2⟩:=List.mem_filter.mp hx
   refine ⟨nb_mem.mp h1,λ e=>?_⟩
   rw [show decide (x ∈ a1D [ws.getD (ws.length - 1) 0]) = true from decide_eq_true (by rw [e]; exact List.mem_cons_self)] at h2
   cases h2
  obtain ⟨u,hu,at14,tu,um⟩:=hd (v:=v) (λ x hx=>(lm x hx).1) (by
   obtain ⟨u,hu,tu,nu⟩:=c4W okt nd (C.two v W.vin) (ws.getD (ws.length - 1) 0)
   refine List.ne_nil_of_mem (a:=(u:Int)) ?_
   unfold a4J
   refine List.mem_filter.mpr ⟨nb_mem.mpr ⟨u,rfl,tu,hu⟩,?_⟩
   rw [show decide ((u:Int) ∈ a1D [ws.getD (ws.length - 1) 0]) = false from decide_eq_false λ z=>by
    obtain ⟨y,hy,e⟩:=mem_natIp.mp z
    rw [List.mem_singleton.mp hy] at e
    exact nu (by omega)]
   rfl)
  refine ⟨p14,_,_,_,rfl,rfl,SqL.of n14.here,at14,?_⟩
  exact ⟨_,by rw [lw]; omega,ws ++ [v],u,rfl,s7.trans s714,s714 _ _ h7,W.add c um tu λ e=>(lm _ hu).2 (by rw [e]),rfl⟩
abbrev DZ36 (K:PySem.W.Frag) (mg:Str->Option Value):=Dn K mg "up_to" c0S ["graph", "piece", "v"]
abbrev DZ38 (K:PySem.W.Frag) (mg:Str->Option Value):=Dn K mg "wood" c4X ["graph"]
set_option maxHeartbeats 8000000 in
theorem c3M (B:Bl mg) (dZ16:DZ16 K mg) (dZ12:DZ12 K mg) (dZ6:DZ6 K mg) (dZ20:DZ20 K mg) (dZ5:DZ5 K mg) (dZ21:DZ21 K mg) (dZ32:DZ32 K mg) (dZ31:DZ31 K mg) (dZ27:DZ27 K mg) (dZ36:DZ36 K mg) (dZ38:DZ38 K mg):FnOk P w K mg base CX0 8 dZ38.f dZ38.fd ["graph"] (c7W K):=by
 have gZ32:FnOk P w K mg base CX0 7 _ _ _ _:=(c0T B dZ16 dZ12 dZ6 dZ20 dZ5 dZ21 dZ32).mono (by decide)
 have gZ31:FnOk P w K mg base CX0 7 _ _ _ _:=a9R B dZ16 dZ12 dZ6 dZ20 dZ5 dZ31
 have gZ27:FnOk P w K mg base CX0 7 dZ27.f dZ27.fd ["graph", "places"] λ _ _ _ _=>False:=by
  refine dZ27.F.ok sc_pieces (λ vs H Q E h=>?_) (λ cdv A outer s H vs Q E hr h=>?_)
  ·exact h.elim
  ·exact h.elim
 have gZ36:FnOk P w K mg base CX0 7 dZ36.f dZ36.fd ["graph", "piece", "v"] λ _ _ _ _=>False:=by
  refine dZ36.F.ok c3H (λ vs H Q E h=>?_) (λ cdv A outer s H vs Q E hr h=>?_)
  ·exact h.elim
  ·exact h.elim
 refine dZ38.F.ok sc_wood (λ vs H Q E h=>?_) (λ cdv A outer s H vs Q E hr h=>?_)
 ·obtain ⟨g,n,ts,rfl,_⟩:=h
  rfl
 obtain ⟨g,n,ts,rfl,hG,okt,nd,n10,l100,R,q⟩:=h
 refine ⟨_,(a0C (a0L (i:=1) sc_wood.nd rfl (Or.inl rfl) (a0F gZ32 hr rfl dZ32.m dZ32.F.kp dZ32.b .nil a0M (a0A (pv 0) a0B)))
   (a0C (a2Y (a0W (K:=K) rfl (pv 1) (λ _=>rfl))
   (a0D (a0K (a1W (a0A b6S (a0A (a0F gZ31 hr rfl dZ31.m dZ31.F.kp dZ31.b .nil a0M (a0A (pv 0) (a0A (pv 1) a0B))) a0B)))))
   a1O)
   (a0C (a3E (i:=2) ["v"] [none] sc_wood.nd rfl rfl (by kernel_rfl) rfl (a1E rfl B.range (a0A (a0U (a1P (K:=K) rfl) (pv 0) a0G (λ _ _=>rfl)) a0B)) (λ _ _ _ _ _=>(a0H (i:=0) (show (["v"]:List Str).Nodup by decide +kernel) rfl (Or.inl rfl))) (λ _ _ _ _ _=>a2N) (λ _ _ _ _ _=>a5S) (by rfl))
   (a0C (a1U PassesOwn.never rfl (a0P (K:=K) rfl (a0F gZ27 hr rfl dZ27.m dZ27.F.kp dZ27.b .nil a0M (a0A (pv 0) (a0A (b4K rfl B.list B.range (a0A (a0U (a1P (K:=K) rfl) (pv 0) a0G (λ _ _=>rfl)) a0B)) a0B)))) (a0H (i:=4) sc_wood.nd rfl (Or.inl rfl))
   (a0D (a1U PassesOwn.never rfl (a0P (K:=K) rfl (a3X (a3Y (K:=K) rfl) (pv 4) (a4F a0G) a6S)) (a0H (i:=3) sc_wood.nd rfl (Or.inl rfl))
   (a0D (a9Y (a0F gZ36 hr rfl dZ36.m dZ36.F.kp dZ36.b .nil a0M (a0A (pv 0) (a0A (pv 4) (a0A (pv 3) a0B)))) (b3R (pv 2) (pv 3) a4R))))))
   (a0D (a0K (a1W (a0A b6S (a0A (pv 2) a0B))))))))),?_⟩
 refine ⟨_,rfl,g,n,ts,rfl,hG,okt,nd,n10,l100,λ r1 lf H1 s1 f1 h1 C=>?_⟩
 have ne:=R lf C
 refine ⟨_,rfl,_,.inl ⟨_,SqL.of h1,rfl⟩,?_⟩
 rw [show (!(natV lf).isEmpty) = true by
   cases e:lf with
   | nil=>exact absurd e ne
   | cons _ _=>rfl]
 refine iteT ?_
 refine ⟨_,rfl,_,rfl,g,n,ts,r1,lf,rfl,hG.same s1,okt,nd,n10,l100,SqL.of h1,C,ne,λ p r H2 s2 f2 h2 R2=>?_⟩
 refine ⟨(by show 2 <= 1000; decide),λ p3 H3 n3=>?_⟩
 exact q p3 p r H3 (s1.trans (s2.trans n3.same)) (s1.free f2) (n3.same _ _ h2) n3.here R2
end
end K
namespace K
open PySem L2 Lw Bg
theorem a9S {ts:List ζζ} {x y:Nat} (h:tieT ts x y = true):tieT ts y x = true:=by
 unfold tieT at h ⊢
 rw [Bool.or_comm]; exact h
theorem PathT.sym {ts:List ζζ} {S:List Nat} {x u:Nat} (h:PathT ts S x u):PathT ts S u x:=by
 induction h with
 | one h=>exact .one (a9S h)
 | step p m h ih=>exact PathT.glue m (.one (a9S h)) ih
structure Ord (n:Nat) (os:List Nat):Prop where
 pm:os.Perm (List.range n)
theorem Ord.nd {n:Nat} {os:List Nat} (o:Ord n os):os.Nodup:=o.pm.nodup_iff.mpr List.nodup_range
theorem Ord.len {n:Nat} {os:List Nat} (o:Ord n os):os.length = n:=by have:=o.pm.length_eq; simpa using this
theorem Ord.mem {n:Nat} {os:List Nat} (o:Ord n os) {x:Nat} (h:x < n):x ∈ os:=o.pm.mem_iff.mpr (List.mem_range.mpr h)
theorem Ord.lt {n:Nat} {os:List Nat} (o:Ord n os) {x:Nat} (h:x < n):os.idxOf x < n:=by
 rw [<- o.len]; exact List.idxOf_lt_length_iff.mpr (o.mem h)
theorem Ord.at_ {n:Nat} {os:List Nat} (o:Ord n os) {i x:Nat} (h:os[i]? = some x):os.idxOf x = i:=by
 obtain ⟨hi,e⟩:=List.getElem?_eq_some_iff.mp h
 have hm:x ∈ os:=List.mem_of_getElem? h
 have hl:os.idxOf x < os.length:=List.idxOf_lt_length_iff.mpr hm
 have e2:os[os.idxOf x] = x:=List.getElem_idxOf hl
 exact (List.getElem_inj o.nd).mp (e2.trans e.symm)
theorem Ord.get {n:Nat} {os:List Nat} (o:Ord n os) {x:Nat} (h:x < n):os[os.idxOf x]? = some x:=by
 have hl:os.idxOf x < os.length:=by rw [o.len]; exact o.lt h
 rw [List.getElem?_eq_getElem hl,List.getElem_idxOf hl]
theorem Ord.take {n:Nat} {os:List Nat} (o:Ord n os) {x k:Nat} (h:x < n):x ∈ os.take k ↔ os.idxOf x < k:=by
 constructor
 ·intro hx
  obtain ⟨j,hj,e⟩:=List.getElem_of_mem hx
  rw [List.getElem_take] at e
  rw [List.length_take] at hj
  have hj2:j < os.length:=by omega
  have:=o.at_ (i:=j) (x:=x) (by rw [List.getElem?_eq_getElem hj2,e])
  omega
 ·intro hk
  have hl:os.idxOf x < os.length:=by rw [o.len]; exact o.lt h
  have e:(os.take k)[os.idxOf x]? = some x:=by
   rw [List.getElem?_take,if_pos hk]; exact o.get h
  exact List.mem_of_getElem? e
theorem Ord.inj {n:Nat} {os:List Nat} (o:Ord n os) {x y:Nat} (hx:x < n) (hy:y < n) (h:os.idxOf x = os.idxOf y):x = y:=by
 have h1:=o.get hx
 rw [h,o.get hy] at h1
 injection h1 with h1
 exact h1.symm
theorem Ord.run {n:Nat} {os:List Nat} (o:Ord n os) (ts:List ζζ) (k:Nat):RunP n ts (os.take k) :=
 b1N (o.nd.sublist (List.take_sublist _ _)) λ a ha=>List.mem_range.mp (o.pm.mem_iff.mp (List.mem_of_mem_take ha))
def a7R (n:Nat) (ts:List ζζ) (os:List Nat) (a b:Nat):Bool:=runR n ts (os.take (min (os.idxOf a) (os.idxOf b))) a b
theorem a2G {n:Nat} {ts:List ζζ} {os:List Nat} (o:Ord n os) {i v u:Nat} (hv:os[i]? = some v):u ∈ a1A n ts os i ↔ u < n/\i < os.idxOf u/\a7R n ts os v u = true:=by
 have iv:=o.at_ hv
 have vn:v < n:=List.mem_range.mp (o.pm.mem_iff.mp (List.mem_of_getElem? hv))
 have ev:os.getD i 0 = v:=by rw [τα,hv]; rfl
 unfold a1A a1K
 rw [ev,List.mem_filter,List.mem_range,Bool.and_eq_true]
 constructor
 ·rintro ⟨un,h1,h2⟩
  have ne:u ≠ v:=by simpa using h2
  have ge:¬ os.idxOf u < i:=λ z=>by
   have:=(o.run ts i).gone v u vn (λ h=>by have:=(o.take vn).mp h; omega) ((o.take un).mpr z)
   rw [this] at h1; cases h1
  have ne2:os.idxOf u ≠ i:=λ z=>ne (o.inj un vn (by omega))
  refine ⟨un,by omega,?_⟩
  unfold a7R
  rw [show min (os.idxOf v) (os.idxOf u) = i by omega]
  exact h1
 ·rintro ⟨un,h1,h2⟩
  unfold a7R at h2
  rw [show min (os.idxOf v) (os.idxOf u) = i by omega] at h2
  refine ⟨un,h2,?_⟩
  have:u ≠ v:=λ z=>by rw [z] at h1; omega
  simpa using this
theorem getD_some {os:List Nat} {i:Nat} (h:i < os.length):os[i]? = some (os.getD i 0):=by
 rw [τα,List.getElem?_eq_getElem h]; rfl
abbrev b1Y:Stmt:=top 42
theorem sc_tree_of:FnScope ["graph", "order", "n", "behind", "rows", "k", "spot", "first", "up"] ["graph", "order"] (a0E b1Y):=⟨rfl,rfl,rfl,by decide +kernel,rfl,by decide +kernel,by decide +kernel⟩
theorem a6O:∀ (l:List Nat) (m:Nat),l.foldl min m <= m/\(∀ a ∈ l,l.foldl min m <= a)/\(l.foldl min m = m\/l.foldl min m ∈ l)
 | [],m=>⟨Nat.le_refl _,λ a h=>absurd h List.not_mem_nil,.inl rfl⟩
 | x :: r,m=>by
  obtain ⟨h1,h2,h3⟩:=a6O r (min m x)
  rw [List.foldl_cons]
  refine ⟨by omega,λ a ha=>?_,?_⟩
  ·rcases List.mem_cons.mp ha with rfl | ha
   ·omega
   ·exact h2 a ha
  ·rcases h3 with h3 | h3
   ·by_cases c:m <= x
    ·left
     rw [h3]; omega
    ·right
     rw [h3,show min m x = x by omega]
     exact List.mem_cons_self
   ·exact .inr (List.mem_cons_of_mem _ h3)
def a1X (n:Nat) (ts:List ζζ) (os:List Nat) (i:Nat):Nat:=((a1A n ts os i).map λ u=>os.idxOf u).foldl min (n - 1)
def natI (l:List Nat):List Int:=l.map λ (x:Nat)=>(x:Int)
def a1S (n:Nat) (ts:List ζζ) (os:List Nat) (k:Nat):Row:=(if k = 0 then none else some ((n:Int) - 1 - ((a1X n ts os (n - 1 - k):Nat):Int)),a0J [((os.getD (n - 1 - k) 0:Nat):Int)] (natI (a1A n ts os (n - 1 - k))))
def b1Z (n:Nat) (ts:List ζζ) (os:List Nat):List Row:=if n = 0 then [(none,[])] else (List.range n).map (a1S n ts os)
def RowN (H:Hp) (l:Addr) (H':Hp) (v:V) (r:Row):Prop:=∃ p b,v = .ref p/\H' p = some (.tup [upV r.1,.ref b])/\H' b = some (.lst (r.2.map V.int))/\b ≠ l/\H b = none/\r.2.length <= 16
theorem RowN.same {H:Hp} {l:Addr} {H1 H2:Hp} {v:V} {r:Row} (s:Same H1 H2) (h:RowN H l H1 v r):RowN H l H2 v r:=by
 obtain ⟨p,b,e,q1,q2,n,f,z⟩:=h
 exact ⟨p,b,e,s _ _ q1,s _ _ q2,n,f,z⟩
theorem RowN.chg {H H1 H2:Hp} {l:Addr} {xs ys:List V} {v:V} {r:Row} (hl:H1 l = some (.lst xs)) (c:Chg H1 l (.lst ys) H2) (h:RowN H l H1 v r):RowN H l H2 v r:=by
 obtain ⟨p,b,e,q1,q2,n,f,z⟩:=h
 exact ⟨p,b,e,(c.rest p (c8G q1 hl (by intro z; cases z))).trans q1,(c.rest b n).trans q2,n,f,z⟩
theorem c0W (xs ys:List Int):(a0J xs ys).length <= 16:=by
 unfold a0J upF
 refine Nat.le_trans (List.length_filter_le _ _) ?_
 simp
def c3N (K:Φρ):Sp:=λ vs H Q _=>∃ (g:V) (n:Nat) (ts:List ζζ) (a:Addr) (os:List Nat),vs = [g,.ref a]/\GraphV K H g n ts/\(∀ t ∈ ts,0 <= t.1/\t.1 < t.2/\t.2 < (n:Int))/\H a = some (.lst (natV os))/\os.Perm (List.range n)/\n <= 10 /\
 ∀ p xs H',Same H H'->H p = none->H' p = some (.lst xs)->Paired (RowN H p H') xs (b1Z n ts os)->Q (.ref p) H'
section
variable {P:Program} {w:World} {K:Φρ} {mg:Str->Option Value} {base:Heap}
abbrev DZ35 (K:PySem.W.Frag) (mg:Str->Option Value):=Dn K mg "tree_of" b1Y ["graph", "order"]
set_option maxHeartbeats 8000000 in
theorem b6M (B:Bl mg) (dZ16:DZ16 K mg) (dZ12:DZ12 K mg) (dZ15:DZ15 K mg) (dZ17:DZ17 K mg) (dZ20:DZ20 K mg) (dZ28:DZ28 K mg) (dZ8:DZ8 K mg) (dZ33:DZ33 K mg) (dZ29:DZ29 K mg) (dZ18:DZ18 K mg) (dZ35:DZ35 K mg):FnOk P w K mg base CX0 6 dZ35.f dZ35.fd ["graph", "order"] (c3N K):=by
 have gZ18:FnOk P w K mg base CX0 5 _ _ _ _:=b4Y B dZ16 dZ12 dZ15 dZ20 dZ28 dZ8 dZ33 dZ29 dZ18
 have gZ17:FnOk P w K mg base CX0 5 _ _ _ _:=(a6L B dZ17).mono (by decide)
 refine dZ35.F.ok sc_tree_of (λ vs H Q E h=>?_) (λ cdv A outer s H vs Q E hr h=>?_)
 ·obtain ⟨g,n,ts,a,os,rfl,_⟩:=h
  rfl
 obtain ⟨g,n,ts,a,os,rfl,hG,okt,hA,hp,n10,q⟩:=h
 have o:Ord n os:=⟨hp⟩
 have ln:=o.len
 obtain ⟨pg,ta,rfl,hP,hT⟩:=id hG
 refine ⟨_,(a0C (a0L (i:=2) sc_tree_of.nd rfl (Or.inl rfl) (a0U (a1P (K:=K) rfl) (pv 0) a0G (λ _ _=>rfl)))
   (a0C (a0L (i:=3) sc_tree_of.nd rfl (Or.inl rfl) (a0F gZ18 hr rfl dZ18.m dZ18.F.kp dZ18.b .nil a0M (a0A (pv 0) (a0A (pv 1) a0B))))
   (a0C (a2Y (a0O a9Z (pv 2) a0G (a1J _))
   (a0D (a0K (a1G (a0A (a1W (a0A a5S (a0A (a1G a0B) a0B))) a0B))))
   a1O)
   (a0C (a0L (i:=4) sc_tree_of.nd rfl (Or.inl rfl) (a1G a0B))
   (a0C (a1U PassesOwn.never rfl (a1E rfl B.range (a0A (pv 2) a0B)) (a0H (i:=5) sc_tree_of.nd rfl (Or.inl rfl))
   (a0C (a0L (i:=6) sc_tree_of.nd rfl (Or.inl rfl) (a0Q a5T (a0Q a5T (pv 2) a0G) (pv 5)))
   (a0C (a0L (i:=7) sc_tree_of.nd rfl (Or.inl rfl) (c5Z (K:=K) rfl rfl B.min (a0A (a3K ["u", "order"] [none,some 1]  (by kernel_rfl) rfl (a0P (K:=K) rfl (a0U (a0I (K:=K) rfl) (pv 3) (pv 6) (λ _ _=>rfl))) (λ _ _ _ _ _=>(a0H (i:=0) (show (["u", "order"]:List Str).Nodup by decide +kernel) rfl (Or.inl rfl))) (λ _ _ _ _ _=>a2N) (λ _ _ _ _ _=>(a3A (K:=K) rfl PySem.F.plainAttrs_list PySem.F.slot_list_index PySem.F.type_list_index b0X (pv 1) (a0A (pv 0) a0B)))) a0B) (b7F (a0Q a5T (pv 2) a0G) c4F)))
   (a0C (a0L (i:=8) sc_tree_of.nd rfl (Or.inl rfl) (a8Q (a0O a9Z (pv 5) a0G (a1J _)) a5S (a0Q a5T (a0Q a5T (pv 2) a0G) (pv 7))))
   (a0D (a2L (a3A (K:=K) rfl PySem.F.plainAttrs_list PySem.F.slot_list_append PySem.F.type_list_append a2A (pv 4) (a0A (a1W (a0A (pv 8) (a0A (a0F gZ17 hr rfl dZ17.m dZ17.F.kp dZ17.b .nil a0M (a0A (a1G (a0A (a0U (a0I (K:=K) rfl) (pv 1) (pv 6) (λ _ _=>rfl)) a0B)) (a0A (a0U (a0I (K:=K) rfl) (pv 3) (pv 6) (λ _ _=>rfl)) a0B))) a0B))) a0B))))))))
   (a0D (a0K (pv 4)))))))),?_⟩
 refine ⟨_,rfl,pg,_,_,_,rfl,rfl,hP,rfl,?_⟩
 refine ⟨_,rfl,_,rfl,.ref pg,n,ts,a,os,rfl,hG,okt,SqL.of hA,hp,n10,λ pb qs H1 s1 f1 h1 lq fq pq nl=>?_⟩
 refine ⟨_,rfl,rfl,_,rfl,?_⟩
 refine ite2 (λ c=>?_) (λ c=>?_)
 ·have c':V.int (n:Int) = V.int 0:=of_decide_eq_true c
  have n0:n = 0:=by have:=V.int.inj c'; omega
  refine ⟨(by show 0 <= 1000; decide),λ p2 H2 n2=>⟨(by show 2 <= 1000; decide),λ p3 H3 n3=>⟨(by show 1 <= 1000; decide),λ p4 H4 n4=>?_⟩⟩⟩
  have s24:Same H2 H4:=n3.same.trans n4.same
  refine q p4 _ H4 (s1.trans (n2.same.trans s24)) ((s1.trans (n2.same.trans n3.same)).free n4.fresh) n4.here ?_
  unfold b1Z
  rw [if_pos n0]
  exact .cons ⟨p3,p2,rfl,n4.same _ _ n3.here,s24 _ _ n2.here,n4.ne (n3.same _ _ n2.here),s1.free n2.fresh,Nat.zero_le _⟩ .nil
 ·have c':¬ V.int (n:Int) = V.int 0:=of_decide_eq_false (Bool.eq_false_iff.mpr c)
  have n0:n ≠ 0:=λ z=>c' (by rw [z]; rfl)
  refine ⟨(by show 0 <= 1000; decide),λ pr H2 n2=>?_⟩
  have s2:Same H H2:=s1.trans n2.same
  have fpr:H pr = none:=s1.free n2.fresh
  refine ⟨_,rfl,_,rfl,by omega,by omega,?_⟩
  rw [Int.toNat_natCast]
  refine a1R (n:=n) (λ k σ H'=>∃ (kk ss ff uu:Option V) (xs:List V),σ = [some (.ref pg),some (.ref a),some (.int n),some (.ref pb),some (.ref pr),kk,ss,ff,uu]/\Same H H'/\(∀ b u,b ≠ pr->H2 b = some u->H' b = some u)/\H' pr = some (.lst xs)/\Paired (RowN H pr H') xs ((List.range k).map (a1S n ts os))) ⟨none,none,none,none,[],rfl,s2,λ b u _ e=>e,n2.here,.nil⟩ ?_ ?_
  ·rintro k σ H3 hk ⟨kk,ss,ff,uu,xs,rfl,s3,k3,hr3,p3⟩
   have ek:(0 + (k:Int)) = ((k:Nat):Int):=by omega
   rw [ek]
   obtain ⟨i,ei⟩:∃ i:Nat,i = n - 1 - k:=⟨_,rfl⟩
   have eI:(n:Int) - 1 - (k:Int) = ((i:Nat):Int):=by omega
   have il:i < n:=by omega
   refine ⟨_,rfl,_,_,rfl,rfl,_,rfl,_,_,rfl,rfl,?_⟩
   dsimp only
   rw [eI]
   obtain ⟨qi,hq⟩:∃ qi,qs[i]? = some qi:=⟨_,List.getElem?_eq_getElem (by omega)⟩
   have nqr:qi ≠ pr:=n2.ne (nl.at_ i qi hq)
   have gq:H3 qi = some (.lst (natV (a1A n ts os i))):=k3 _ _ nqr (n2.same _ _ (nl.at_ i qi hq))
   have hb3:H3 pb = some (.lst (qs.map V.ref)):=k3 _ _ (n2.ne h1) (n2.same _ _ h1)
   have hA3:H3 a = some (.lst (natV os)):=s3 _ _ hA
   have aq:atI (qs.map V.ref) (i:Int) = some (.ref qi):=a2M (by rw [List.getElem?_map,hq]; rfl)
   have hv:=getD_some (os:=os) (i:=i) (by omega)
   have few:(a1A n ts os i).length <= 10:=Nat.le_trans (c0C _ _ _) n10
   have ltm:∀ u ∈ a1A n ts os i,u < n:=λ u hu=>((a2G o hv).mp hu).1
   refine ⟨_,rfl,_,rfl,pb,_,_,_,rfl,rfl,SqL.of hb3,aq,qi,rfl,⟨_,SqL.of gq⟩,?_⟩
   refine a5W (λ x=>match x with | .int z=>some (.int ((os.idxOf z.toNat:Nat):Int)) | _=>none) (SqL.of gq) (by rw [List.length_map]; omega) (λ x H4 N hx s4 hN=>?_) (λ H4 pm H5 s4 n5=>?_)
   ·obtain ⟨u,hu,rfl⟩:=List.mem_map.mp hx
    have un:=ltm u hu
    have hN':=hN H4 s4
    dsimp only at hN'
    rw [Int.toNat_natCast] at hN'
    have hA4:H4 a = some (.lst (List.map V.int (natI os))):=by
     rw [s4 _ _ hA3,a0S]; rfl
    refine ⟨_,rfl,.inl ⟨rfl,_,SqL.of hA4⟩,_,rfl,a,natI os,(u:Int),os.idxOf u,rfl,rfl,hA4,?_,λ m hm z=>?_,by unfold natI; rw [List.length_map]; omega,hN'⟩
    ·unfold natI
     rw [List.getElem?_map,o.get un]; rfl
    ·unfold natI at z
     rw [List.getElem?_map] at z
     obtain ⟨y,hy,ey⟩:=Option.map_eq_some_iff.mp z
     have:y = u:=by omega
     subst this
     have:=o.at_ hy
     omega
   have em:(natV (a1A n ts os i)).filterMap (λ x=>match x with | .int z=>some (V.int ((os.idxOf z.toNat:Nat):Int)) | _=>none) = (((a1A n ts os i).map λ u=>os.idxOf u).map λ (x:Nat)=>(x:Int)).map V.int:=by
    unfold natV
    rw [List.filterMap_map,List.map_map,List.map_map]
    exact a3M λ x _=>by simp
   rw [em] at n5
   have s35:Same H3 H5:=s4.trans n5.same
   obtain ⟨m1,m2,m3⟩:=a6O ((a1A n ts os i).map λ u=>os.idxOf u) (n - 1)
   have keyA:(((a1A n ts os i).map λ u=>os.idxOf u).map λ (x:Nat)=>(x:Int)) = []->(n:Int) - 1 = ((a1X n ts os i:Nat):Int):=λ z=>by
    have z':(a1A n ts os i).map (λ u=>os.idxOf u) = []:=List.map_eq_nil_iff.mp z
    unfold a1X
    rw [z']
    show _ = ((n - 1:Nat):Int)
    omega
   have keyB:∀ M,M ∈ (((a1A n ts os i).map λ u=>os.idxOf u).map λ (x:Nat)=>(x:Int))->(∀ a ∈ (((a1A n ts os i).map λ u=>os.idxOf u).map λ (x:Nat)=>(x:Int)),M <= a)->M = ((a1X n ts os i:Nat):Int):=λ M hM hall=>by
    obtain ⟨x,hx,rfl⟩:=List.mem_map.mp hM
    have h1:a1X n ts os i <= x:=m2 x hx
    have h2:x <= a1X n ts os i:=by
     rcases m3 with h | h
     ·obtain ⟨u,hu,eu⟩:=List.mem_map.mp hx
      have:=o.lt (ltm u hu)
      unfold a1X
      rw [h]; omega
     ·have:=hall _ (List.mem_map.mpr ⟨_,h,rfl⟩)
      unfold a1X
      omega
    show (x:Int) = _
    omega
   have hb5:=s35 _ _ hb3
   have gq5:=s35 _ _ gq
   have hA5:=s35 _ _ hA3
   have hr5:=s35 _ _ hr3
   have ao:atI (natV os) (i:Int) = some (.int ((os.getD i 0:Nat):Int)):=a4K (by omega)
   have gq5':SqL K H5 qi ((natI (a1A n ts os i)).map V.int):=by
    have:=gq5
    rw [a0S] at this
    exact SqL.of this
   have vn:os.getD i 0 < n:=List.mem_range.mp (hp.mem_iff.mp (List.mem_of_getElem? hv))
   have sm1:a7O [((os.getD i 0:Nat):Int)]:=λ x hx=>by
    rw [List.mem_singleton.mp hx]; omega
   have sm2:a7O (natI (a1A n ts os i)):=λ x hx=>by
    obtain ⟨u,hu,rfl⟩:=List.mem_map.mp hx
    have:=ltm u hu
    omega
   have lx:=Paired.length p3
   rw [List.length_map,List.length_range] at lx
   have fin:∀ (u:V),u = upV (a1S n ts os k).1->∀ p6 H6,New H5 p6 (.lst [.int ((os.getD i 0:Nat):Int)]) H6->∀ H7 p8 H8,Same H6 H7->New H7 p8 (.lst ((a0J [((os.getD i 0:Nat):Int)] (natI (a1A n ts os i))).map V.int)) H8->∀ p9 H9,New H8 p9 (.tup [u,.ref p8]) H9->∀ H10,Chg H9 pr (.lst (xs ++ [.ref p9])) H10 ->
     Same H H10/\(∀ b u,b ≠ pr->H2 b = some u->H10 b = some u)/\H10 pr = some (.lst (xs ++ [.ref p9]))/\Paired (RowN H pr H10) (xs ++ [.ref p9]) ((List.range (k + 1)).map (a1S n ts os)):=λ u eu p6 H6 n6 H7 p8 H8 s7 n8 p9 H9 n9 H10 c10=>by
    have s39:Same H3 H9:=s35.trans (n6.same.trans (s7.trans (n8.same.trans n9.same)))
    have hr9:=s39 _ _ hr3
    have n8r:p8 ≠ pr:=(n8.ne (s7 _ _ (n6.same _ _ hr5))).symm
    have n9r:p9 ≠ pr:=(n9.ne (n8.same _ _ (s7 _ _ (n6.same _ _ hr5)))).symm
    refine ⟨(s3.trans s39).chg fpr c10,λ b u hb e=>(c10.rest b hb).trans (s39 _ _ (k3 b u hb e)),c10.here,?_⟩
    rw [List.range_succ,List.map_append]
    refine a0R (Paired.mapP p3 λ v r q=>(RowN.same s39 q).chg hr9 c10) ?_
    refine ⟨p9,p8,rfl,?_,?_,n8r,(s3.trans (s35.trans (n6.same.trans s7))).free n8.fresh,c0W _ _⟩
    ·rw [<- eu]
     exact (c10.rest p9 n9r).trans n9.here
    ·unfold a1S
     rw [<- ei]
     exact (c10.rest p8 n8r).trans (n9.same _ _ n8.here)
   refine ⟨_,rfl,_,_,rfl,rfl,pm,_,_,rfl,rfl,SqL.of n5.here,λ z=>?A,λ M hM hall=>?B⟩
   case' A=>dsimp only; rw [keyA z]
   case' B=>rw [keyB M hM hall]
   all_goals
    refine ⟨_,rfl,rfl,_,rfl,?_⟩
    by_cases c0:k = 0
    ·rw [show decide (V.int ((k:Nat):Int) = V.int 0) = true by rw [c0]; rfl]
     refine iteT ?_
     refine ⟨_,rfl,.inl ⟨rfl,_,SqL.of hr5⟩,_,rfl,_,rfl,_,rfl,a,_,_,_,rfl,rfl,SqL.of hA5,ao,(by show 1 <= 1000; decide),λ p6 H6 n6=>?_⟩
     refine ⟨_,rfl,_,rfl,pb,_,_,_,rfl,rfl,SqL.of (n6.same _ _ hb5),aq,p6,qi,[((os.getD i 0:Nat):Int)],natI (a1A n ts os i),rfl,SqL.of n6.here,n6.same.seq gq5',sm1,sm2,λ H7 p8 H8 s7 n8=>?_⟩
     refine ⟨(by show 2 <= 1000; decide),λ p9 H9 n9=>?_⟩
     refine ⟨pr,_,_,rfl,rfl,n9.same _ _ (n8.same _ _ (s7 _ _ (n6.same _ _ hr5))),by omega,λ H10 c10=>?_⟩
     exact ⟨_,_,_,_,_,rfl,fin _ (by unfold a1S; rw [if_pos c0]; rfl) p6 H6 n6 H7 p8 H8 s7 n8 p9 H9 n9 H10 c10⟩
    ·rw [show decide (V.int ((k:Nat):Int) = V.int 0) = false from decide_eq_false λ z=>c0 (by have:=V.int.inj z; omega)]
     refine iteF ?_
     refine ⟨_,rfl,_,_,rfl,rfl,_,rfl,_,_,rfl,rfl,?_⟩
     refine ⟨_,rfl,.inl ⟨rfl,_,SqL.of hr5⟩,_,rfl,_,rfl,_,rfl,a,_,_,_,rfl,rfl,SqL.of hA5,ao,(by show 1 <= 1000; decide),λ p6 H6 n6=>?_⟩
     refine ⟨_,rfl,_,rfl,pb,_,_,_,rfl,rfl,SqL.of (n6.same _ _ hb5),aq,p6,qi,[((os.getD i 0:Nat):Int)],natI (a1A n ts os i),rfl,SqL.of n6.here,n6.same.seq gq5',sm1,sm2,λ H7 p8 H8 s7 n8=>?_⟩
     refine ⟨(by show 2 <= 1000; decide),λ p9 H9 n9=>?_⟩
     refine ⟨pr,_,_,rfl,rfl,n9.same _ _ (n8.same _ _ (s7 _ _ (n6.same _ _ hr5))),by omega,λ H10 c10=>?_⟩
     exact ⟨_,_,_,_,_,rfl,fin _ (by unfold a1S; rw [if_neg c0,<- ei]; rfl) p6 H6 n6 H7 p8 H8 s7 n8 p9 H9 n9 H10 c10⟩
  ·rintro σ H3 ⟨kk,ss,ff,uu,xs,rfl,s3,k3,hr3,p3⟩
   refine ⟨_,rfl,q pr xs H3 s3 fpr hr3 ?_⟩
   unfold b1Z
   rw [if_neg n0]
   exact p3
end
structure Tree (n:Nat) (rs:List Row):Prop where
 pos:0 < rs.length
 len:rs.length <= 20
 ok:∀ k < rs.length,b7P n rs k = true
 cov:∀ v:Int,0 <= v->v < (n:Int)->∃ r ∈ rs,v ∈ r.2
 tops:∀ v:Int,(b2Q rs v).length <= 1
theorem c3O {n:Nat} {ts:List ζζ} {os:List Nat} (o:Ord n os) {i v w u:Nat} (hv:os[i]? = some v) (wn:w < n) (un:u < n) (iw:i < os.idxOf w) (iu:i < os.idxOf u) (h1:a7R n ts os v w = true) (h2:a7R n ts os v u = true):a7R n ts os w u = true:=by
 have iv:=o.at_ hv
 have vn:v < n:=List.mem_range.mp (o.pm.mem_iff.mp (List.mem_of_getElem? hv))
 have way:∀ x,x < n->i < os.idxOf x->a7R n ts os v x = true->PathT ts (os.take i) v x:=λ x xn ix h=>by
  unfold a7R at h
  rw [show min (os.idxOf v) (os.idxOf x) = i by omega] at h
  rw [(o.run ts i).path v x vn xn (λ z=>by have:=(o.take vn).mp z; omega) (λ z=>by have:=(o.take xn).mp z; omega)] at h
  rcases h with h | h
  ·subst h; omega
  ·exact h
 have p1:=way w wn iw h1
 have p2:=way u un iu h2
 unfold a7R
 rw [(o.run ts _).path w u wn un (λ z=>by have:=(o.take wn).mp z; omega) (λ z=>by have:=(o.take un).mp z; omega)]
 have sub:∀ a ∈ os.take i,a ∈ os.take (min (os.idxOf w) (os.idxOf u)):=λ a ha=>(List.take_subset_take_left os (by omega)) ha
 exact .inr (PathT.glue ((o.take vn).mpr (by omega)) ((p1.mono sub).sym) (p2.mono sub))
theorem a3G {n:Nat} {ts:List ζζ} {os:List Nat} (o:Ord n os) (n10:n <= 10) {k:Nat} (hk:k < n) {x:Int}:x ∈ (a1S n ts os k).2 ↔ ∃ u:Nat,x = (u:Int)/\u < n/\(os[n - 1 - k]? = some u\/u ∈ a1A n ts os (n - 1 - k)):=by
 have hv:=getD_some (os:=os) (i:=n - 1 - k) (by rw [o.len]; omega)
 have vn:os.getD (n - 1 - k) 0 < n:=List.mem_range.mp (o.pm.mem_iff.mp (List.mem_of_getElem? hv))
 unfold a1S a0J
 rw [mem_upF]
 constructor
 ·rintro ⟨_,_,h⟩
  have h:=of_decide_eq_true h
  rcases h with h | h
  ·exact ⟨_,List.mem_singleton.mp h,vn,.inl hv⟩
  ·obtain ⟨u,hu,rfl⟩:=List.mem_map.mp h
   exact ⟨u,rfl,((a2G o hv).mp hu).1,.inr hu⟩
 ·rintro ⟨u,rfl,un,h⟩
  refine ⟨by omega,by omega,decide_eq_true ?_⟩
  rcases h with h | h
  ·rw [hv] at h
   injection h with h
   exact .inl (by rw [h]; exact List.mem_singleton.mpr rfl)
  ·exact .inr (List.mem_map.mpr ⟨u,h,rfl⟩)
theorem b5H {n:Nat} {ts:List ζζ} {os:List Nat} (o:Ord n os) {i:Nat} (hi:i + 1 < n):i < a1X n ts os i/\a1X n ts os i <= n - 1:=by
 have hv:=getD_some (os:=os) (i:=i) (by rw [o.len]; omega)
 obtain ⟨m1,m2,m3⟩:=a6O ((a1A n ts os i).map λ u=>os.idxOf u) (n - 1)
 unfold a1X
 refine ⟨?_,m1⟩
 rcases m3 with h | h
 ·rw [h]; omega
 ·obtain ⟨u,hu,eu⟩:=List.mem_map.mp h
  have:=((a2G o hv).mp hu).2.1
  have eu':os.idxOf u = ((a1A n ts os i).map λ u=>os.idxOf u).foldl min (n - 1):=eu
  omega
theorem a5R {n:Nat} {ts:List ζζ} {os:List Nat} {k:Nat} (hk:k < n):a1L ((List.range n).map (a1S n ts os)) k = a1S n ts os k:=by
 unfold a1L
 rw [τα,List.getElem?_map,List.getElem?_range hk]; rfl
theorem b3N {l:List Nat} {c:Nat} (nd:l.Nodup) (h:∀ x ∈ l,x = c):l.length <= 1:=by
 match l,nd,h with
 | [],_,_=>exact Nat.zero_le _
 | [_],_,_=>exact Nat.le_refl _
 | a :: b :: r,nd,h =>
  have h1:=h a (by simp)
  have h2:=h b (by simp)
  obtain ⟨n1,_⟩:=List.nodup_cons.mp nd
  exact absurd (by rw [h1,h2]; exact List.mem_cons_self) n1
theorem b6N {n:Nat} {ts:List ζζ} {os:List Nat} (o:Ord n os) (n10:n <= 10) (n0:n ≠ 0):Tree n ((List.range n).map (a1S n ts os)):=by
 have l:=o.len
 refine ⟨by rw [List.length_map,List.length_range]; omega,by rw [List.length_map,List.length_range]; omega,λ k hk=>?_,λ v h0 h1=>?_,λ v=>?_⟩
 ·rw [List.length_map,List.length_range] at hk
  unfold b7P
  rw [a5R hk,Bool.and_eq_true]
  refine ⟨?_,(b7T _ _).mpr ⟨λ x hx=>?_,?_⟩⟩
  ·unfold upOk a1S
   by_cases c:k = 0
   ·rw [if_pos c,if_pos c]; rfl
   ·rw [if_neg c,if_neg c]
    have:=b5H (ts:=ts) o (i:=n - 1 - k) (by omega)
    unfold a4P
    simp
    omega
  ·obtain ⟨u,rfl,un,_⟩:=(a3G o n10 hk).mp hx
   omega
  ·unfold a1S a0J; dsimp only
   exact b1C _
 ·obtain ⟨u,rfl⟩:∃ u:Nat,v = (u:Int):=⟨v.toNat,by omega⟩
  have un:u < n:=by omega
  have il:=o.lt un
  refine ⟨_,List.mem_map.mpr ⟨n - 1 - os.idxOf u,List.mem_range.mpr (by omega),rfl⟩,(a3G o n10 (by omega)).mpr ⟨u,rfl,un,.inl ?_⟩⟩
  rw [show n - 1 - (n - 1 - os.idxOf u) = os.idxOf u by omega]
  exact o.get un
 ·unfold b2Q
  refine b3N (c:=n - 1 - os.idxOf v.toNat) (List.nodup_range.sublist List.filter_sublist) λ k hk=>?_
  rw [List.mem_filter,List.mem_range,List.length_map,List.length_range] at hk
  obtain ⟨hk,ht⟩:=hk
  unfold b5T at ht
  rw [Bool.and_eq_true] at ht
  obtain ⟨t1,t2⟩:=ht
  unfold has at t1
  rw [a5R hk] at t1 t2
  obtain ⟨u,rfl,un,hu⟩:=(a3G o n10 hk).mp (of_decide_eq_true t1)
  rw [Int.toNat_natCast]
  rcases hu with hu | hu
  ·have:=o.at_ hu
   omega
  ·exfalso
   have hv:=getD_some (os:=os) (i:=n - 1 - k) (by omega)
   obtain ⟨_,g1,g2⟩:=(a2G o hv).mp hu
   have iu:=o.lt un
   have k0:k ≠ 0:=λ z=>by rw [z] at g1; omega
   obtain ⟨f1,f2⟩:=b5H (ts:=ts) o (i:=n - 1 - k) (by omega)
   obtain ⟨m1,m2,m3⟩:=a6O ((a1A n ts os (n - 1 - k)).map λ u=>os.idxOf u) (n - 1)
   have fu:a1X n ts os (n - 1 - k) <= os.idxOf u:=m2 _ (List.mem_map.mpr ⟨u,hu,rfl⟩)
   have held:c5V ((List.range n).map (a1S n ts os)) (a1S n ts os k).1 (u:Int) = true:=by
    have eU:(a1S n ts os k).1 = some ((n:Int) - 1 - ((a1X n ts os (n - 1 - k):Nat):Int)):=by unfold a1S; rw [if_neg k0]
    rw [eU]
    show has (u:Int) (a1L _ ((n:Int) - 1 - ((a1X n ts os (n - 1 - k):Nat):Int)).toNat) = true
    rw [show ((n:Int) - 1 - ((a1X n ts os (n - 1 - k):Nat):Int)).toNat = n - 1 - a1X n ts os (n - 1 - k) by omega,a5R (by omega)]
    refine decide_eq_true ((a3G o n10 (by omega)).mpr ⟨u,rfl,un,?_⟩)
    rw [show n - 1 - (n - 1 - a1X n ts os (n - 1 - k)) = a1X n ts os (n - 1 - k) by omega]
    by_cases c:a1X n ts os (n - 1 - k) = os.idxOf u
    ·rw [c]; exact .inl (o.get un)
    ·have m3':a1X n ts os (n - 1 - k) ∈ (a1A n ts os (n - 1 - k)).map λ u=>os.idxOf u:=by
      rcases m3 with h | h
      ·have h':a1X n ts os (n - 1 - k) = n - 1:=h
       omega
      ·exact h
     obtain ⟨w,hw,ew⟩:=List.mem_map.mp m3'
     obtain ⟨wn,w1,w2⟩:=(a2G o hv).mp hw
     refine .inr ((a2G o (v:=w) (by rw [<- ew]; exact o.get wn)).mpr ⟨un,by omega,c3O o hv wn un w1 g1 w2 g2⟩)
   rw [held] at t2
   cases t2
theorem c0X {n:Nat} {ts:List ζζ} {os:List Nat} (o:Ord n os) (n10:n <= 10) (ok:∀ t ∈ ts,0 <= t.1/\t.1 < t.2/\t.2 < (n:Int)):∀ t ∈ ts,∃ r ∈ (List.range n).map (a1S n ts os),t.1 ∈ r.2/\t.2 ∈ r.2:=by
 intro t ht
 have tk:=ok t ht
 obtain ⟨a,ea⟩:∃ a:Nat,t.1 = (a:Int):=⟨t.1.toNat,by omega⟩
 obtain ⟨b,eb⟩:∃ b:Nat,t.2 = (b:Int):=⟨t.2.toNat,by omega⟩
 have an:a < n:=by omega
 have bn:b < n:=by omega
 have tie:tieT ts a b = true:=by
  unfold tieT
  rw [<- ea,<- eb,decide_eq_true (show (t.1,t.2) ∈ ts from ht)]; rfl
 have key:∀ x y,x < n->y < n->x ≠ y->tieT ts x y = true->os.idxOf x < os.idxOf y->∃ r ∈ (List.range n).map (a1S n ts os),(x:Int) ∈ r.2/\(y:Int) ∈ r.2:=λ x y xn yn ne h lt=>by
  have ix:=o.lt xn
  refine ⟨_,List.mem_map.mpr ⟨n - 1 - os.idxOf x,List.mem_range.mpr (by omega),rfl⟩,(a3G o n10 (by omega)).mpr ⟨x,rfl,xn,.inl ?_⟩,(a3G o n10 (by omega)).mpr ⟨y,rfl,yn,.inr ?_⟩⟩
  ·rw [show n - 1 - (n - 1 - os.idxOf x) = os.idxOf x by omega]
   exact o.get xn
  ·rw [show n - 1 - (n - 1 - os.idxOf x) = os.idxOf x by omega]
   refine (a2G o (o.get xn)).mpr ⟨yn,lt,?_⟩
   unfold a7R
   rw [(o.run ts _).path x y xn yn (λ z=>by have:=(o.take xn).mp z; omega) (λ z=>by have:=(o.take yn).mp z; omega)]
   exact .inr (.one h)
 have ne:os.idxOf a ≠ os.idxOf b:=λ z=>by have:=o.inj an bn z; omega
 rw [ea,eb]
 rcases Nat.lt_or_gt_of_ne ne with c | c
 ·exact key a b an bn (by omega) tie c
 ·obtain ⟨r,hr,h1,h2⟩:=key b a bn an (by omega) (a9S tie) c
  exact ⟨r,hr,h2,h1⟩
theorem a9T:∀ (l:List Int) (m:Int),m <= l.foldl max m/\(∀ a ∈ l,a <= l.foldl max m)/\(l.foldl max m = m\/l.foldl max m ∈ l)
 | [],m=>⟨Int.le_refl _,λ a h=>absurd h List.not_mem_nil,.inl rfl⟩
 | x :: r,m=>by
  obtain ⟨h1,h2,h3⟩:=a9T r (max m x)
  rw [List.foldl_cons]
  refine ⟨by omega,λ a ha=>?_,?_⟩
  ·rcases List.mem_cons.mp ha with rfl | ha
   ·omega
   ·exact h2 a ha
  ·rcases h3 with h3 | h3
   ·by_cases c:m <= x
    ·right
     rw [h3,show max m x = x by omega]
     exact List.mem_cons_self
    ·left
     rw [h3]; omega
   ·exact .inr (List.mem_cons_of_mem _ h3)
theorem d0G {l:List Int} {m M:Int} (hM:M ∈ l) (h:∀ a ∈ l,a <= M) (h0:∀ a ∈ l,m <= a):M = l.foldl max m:=by
 obtain ⟨h1,h2,h3⟩:=a9T l m
 have a1:=h2 M hM
 rcases h3 with h3 | h3
 ·have:=h0 M hM
  omega
 ·have:=h _ h3
  omega
abbrev a5E:Stmt:=top 41
theorem a7S:FnScope ["graph", "order"] ["graph", "order"] (a0E a5E):=⟨rfl,rfl,rfl,by decide +kernel,rfl,by decide +kernel,by decide +kernel⟩
def a7I (n:Nat) (ts:List ζζ) (os:List Nat):Int:=((List.range n).map λ j=>(((a1A n ts os j).length:Nat):Int)).foldl max (-1)
def c3P (K:Φρ):Sp:=λ vs H Q _=>∃ (g:V) (n:Nat) (ts:List ζζ) (a:Addr) (os:List Nat),vs = [g,.ref a]/\GraphV K H g n ts/\(∀ t ∈ ts,0 <= t.1/\t.1 < t.2/\t.2 < (n:Int))/\SqL K H a (natV os)/\os.Perm (List.range n)/\n <= 10 /\
 ∀ H',Same H H'->Q (.int (a7I n ts os)) H'
section
variable {P:Program} {w:World} {K:Φρ} {mg:Str->Option Value} {base:Heap}
abbrev DZ25 (K:PySem.W.Frag) (mg:Str->Option Value):=Dn K mg "order_width" a5E ["graph", "order"]
set_option maxHeartbeats 4000000 in
theorem a7T (B:Bl mg) (dZ16:DZ16 K mg) (dZ12:DZ12 K mg) (dZ15:DZ15 K mg) (dZ20:DZ20 K mg) (dZ28:DZ28 K mg) (dZ8:DZ8 K mg) (dZ33:DZ33 K mg) (dZ29:DZ29 K mg) (dZ18:DZ18 K mg) (dZ25:DZ25 K mg):FnOk P w K mg base CX0 6 dZ25.f dZ25.fd ["graph", "order"] (c3P K):=by
 have gZ18:FnOk P w K mg base CX0 5 _ _ _ _:=b4Y B dZ16 dZ12 dZ15 dZ20 dZ28 dZ8 dZ33 dZ29 dZ18
 refine dZ25.F.ok a7S (λ vs H Q E h=>?_) (λ cdv A outer s H vs Q E hr h=>?_)
 ·obtain ⟨g,n,ts,a,os,rfl,_⟩:=h
  rfl
 obtain ⟨g,n,ts,a,os,rfl,hG,okt,hA,hp,n10,q⟩:=h
 refine ⟨_,(a0D (a0K (c5Y (K:=K) rfl rfl B.max (a0A (a3K ["places"] [none]  (by kernel_rfl) rfl (a0P (K:=K) rfl (a0F gZ18 hr rfl dZ18.m dZ18.F.kp dZ18.b .nil a0M (a0A (pv 0) (a0A (pv 1) a0B)))) (λ _ _ _ _ _=>(a0H (i:=0) (show (["places"]:List Str).Nodup by decide +kernel) rfl (Or.inl rfl))) (λ _ _ _ _ _=>a2N) (λ _ _ _ _ _=>(a0N (a0T (K:=K) rfl) rfl B.len (by decide +kernel) (a0A (pv 0) a0B)))) a0B) (b7F (c1O b3T a0G) c4F)))),?_⟩
 refine ⟨_,rfl,_,rfl,g,n,ts,a,os,rfl,hG,okt,hA,hp,n10,λ p qs H1 s1 f1 h1 lq fq pq nl=>⟨p,rfl,⟨_,SqL.of h1⟩,?_⟩⟩
 refine b3W (λ j=>some (.int (((a1A n ts os j).length:Nat):Int))) (SqL.of h1) (by rw [List.length_map]; omega) (λ j x H2 N hj s2 hN=>?_) (λ H2 p2 H3 s2 n3=>?_)
 ·rw [List.getElem?_map] at hj
  obtain ⟨qj,hq,rfl⟩:=Option.map_eq_some_iff.mp hj
  have g:=s2 _ _ (nl.at_ j qj hq)
  refine ⟨_,rfl,qj,_,rfl,.inl (SqL.of g),?_⟩
  dsimp only
  rw [List.length_map]
  exact hN H2 s2
 ·have e:(List.range (qs.map V.ref).length).filterMap (λ j=>some (V.int (((a1A n ts os j).length:Nat):Int))) = ((List.range n).map λ j=>(((a1A n ts os j).length:Nat):Int)).map V.int:=by
   rw [List.length_map,lq,List.map_map]
   exact a3M λ _ _=>rfl
  rw [e] at n3
  have s3:Same H H3:=s1.trans (s2.trans n3.same)
  refine ⟨_,rfl,p2,_,_,rfl,rfl,SqL.of n3.here,λ z=>?_,λ M hM hall=>?_⟩
  ·have:=q H3 s3
   unfold a7I at this
   rw [z] at this
   exact this
  ·have:=q H3 s3
   unfold a7I at this
   rw [<- d0G hM hall (λ a ha=>by
    obtain ⟨j,_,rfl⟩:=List.mem_map.mp ha
    omega)] at this
   exact this
end
abbrev c0Y:Stmt:=top 36
theorem c3Q:FnScope ["tree"] ["tree"] (a0E c0Y):=⟨rfl,rfl,rfl,by decide +kernel,rfl,by decide +kernel,by decide +kernel⟩
def lens (rs:List Row):List Int:=rs.map λ r=>((r.2.length:Nat):Int)
def c7X (K:Φρ):Sp:=λ vs H Q _=>∃ (a:Addr) (rs:List Row),vs = [.ref a]/\b7Q K H a rs/\0 < rs.length/\∀ M H',Same H H'->M ∈ lens rs->(∀ x ∈ lens rs,x <= M)->Q (.int (M - 1)) H'
theorem c4Y {α β:Type} (f:α->Option β):∀ ts:List α,(List.range ts.length).filterMap (λ j=>(ts[j]?).bind f) = ts.filterMap f
 | []=>rfl
 | t :: r=>by
  rw [List.length_cons,List.range_succ_eq_map]
  have ih:=c4Y f r
  have e2:(List.map Nat.succ (List.range r.length)).filterMap (λ j=>((t :: r)[j]?).bind f) = r.filterMap f:=by
   rw [List.filterMap_map,<- ih]
   rfl
  cases e:f t with
  | none=>rw [List.filterMap_cons_none (by simpa using e),List.filterMap_cons_none e,e2]
  | some b=>rw [List.filterMap_cons_some (b:=b) (by simpa using e),List.filterMap_cons_some e,e2]
section
variable {P:Program} {w:World} {K:Φρ} {mg:Str->Option Value} {base:Heap}
abbrev DZ37 (K:PySem.W.Frag) (mg:Str->Option Value):=Dn K mg "width" c0Y ["tree"]
set_option maxHeartbeats 4000000 in
theorem c3R (B:Bl mg) (dZ37:DZ37 K mg):FnOk P w K mg base CX0 1 dZ37.f dZ37.fd ["tree"] (c7X K):=by
 refine dZ37.F.ok c3Q (λ vs H Q E h=>?_) (λ cdv A outer s H vs Q E hr h=>?_)
 ·obtain ⟨a,rs,rfl,_⟩:=h
  rfl
 obtain ⟨a,rs,rfl,hR,h0,q⟩:=h
 obtain ⟨xs,hx,hp,hz⟩:=id hR
 have lx:xs.length = rs.length:=Paired.length hp
 refine ⟨_,(a0D (a0K (a0Q a5T (a0N (b7Z (K:=K) rfl rfl) rfl B.max (by decide +kernel) (a0A (a3K ["up", "places"] [none,none]  (by kernel_rfl) rfl (a0P (K:=K) rfl (pv 0)) (λ _ _ _ _ _=>(a2W (K:=K) (n:=2) rfl rfl (a0Y (a0H (i:=0) (show (["up", "places"]:List Str).Nodup by decide +kernel) rfl (Or.inl rfl)) (a0Y (a0H (i:=1) (show (["up", "places"]:List Str).Nodup by decide +kernel) rfl (Or.inl rfl)) a2V)))) (λ _ _ _ _ _=>a2N) (λ _ _ _ _ _=>(a0N (a0T (K:=K) rfl) rfl B.len (by decide +kernel) (a0A (pv 1) a0B)))) a0B)) a0G))),?_⟩
 refine ⟨_,rfl,a,rfl,⟨_,hx⟩,?_⟩
 refine b3W (λ j=>(rs[j]?).map λ r=>V.int ((r.2.length:Nat):Int)) hx (by omega) (λ j x H3 N hj s3 hN=>?_) (λ H3 p3 H4 s3 n3=>?_)
 ·obtain ⟨r,hr,⟨p,b,rfl,hT,hb,_⟩⟩:=paired_get hp hj
  have hN':=hN H3 s3
  rw [hr] at hN'
  refine ⟨p,_,rfl,s3.tupq hT,rfl,_,_,rfl,_,_,rfl,rfl,?_⟩
  refine ⟨_,rfl,b,_,rfl,.inl (s3.seq hb),?_⟩
  rw [List.length_map]
  exact hN'
 ·have e:(List.range xs.length).filterMap (λ j=>(rs[j]?).map λ r=>V.int ((r.2.length:Nat):Int)) = (lens rs).map V.int:=by
   rw [lx]
   have:=c4Y (λ r:Row=>some (V.int ((r.2.length:Nat):Int))) rs
   unfold lens
   rw [List.map_map]
   refine Eq.trans (a4Q λ j _=>?_) (this.trans (a3M λ r _=>rfl))
   cases rs[j]? <;> rfl
  rw [e] at n3
  refine ⟨p3,lens rs,rfl,SqL.of n3.here,by unfold lens; rw [List.length_map]; exact h0,λ M hM hle=>?_⟩
  exact ⟨_,_,rfl,rfl,q M H4 (s3.trans n3.same) hM hle⟩
end
theorem c0Z {n:Nat} {ts:List ζζ} {os:List Nat} (o:Ord n os) (n10:n <= 10) {k:Nat} (hk:k < n):(a1S n ts os k).2.length = (a1A n ts os (n - 1 - k)).length + 1:=by
 have hv:=getD_some (os:=os) (i:=n - 1 - k) (by rw [o.len]; omega)
 generalize os.getD (n - 1 - k) 0 = v at hv
 have vn:v < n:=List.mem_range.mp (o.pm.mem_iff.mp (List.mem_of_getElem? hv))
 have nd1:(a1S n ts os k).2.Nodup:=by
  have:(a1S n ts os k).2.Pairwise (· < ·):=by
   unfold a1S a0J; dsimp only
   exact b1C _
  exact this.imp λ h=>by omega
 have ndl:(a1A n ts os (n - 1 - k)).Nodup:=by
  unfold a1A a1K
  exact List.nodup_range.sublist List.filter_sublist
 have nd2:(natI (v :: a1A n ts os (n - 1 - k))).Nodup:=by
  unfold natI
  rw [List.nodup_iff_pairwise_ne,List.pairwise_map]
  have:(v :: a1A n ts os (n - 1 - k)).Nodup:=List.nodup_cons.mpr ⟨λ h=>by
   have:=((a2G o hv).mp h).2.1
   rw [o.at_ hv] at this
   omega,ndl⟩
  rw [List.nodup_iff_pairwise_ne] at this
  exact this.imp λ h=>by omega
 have pm:(a1S n ts os k).2.Perm (natI (v :: a1A n ts os (n - 1 - k))):=(List.perm_ext_iff_of_nodup nd1 nd2).mpr λ x=>by
  rw [a3G o n10 hk]
  unfold natI
  rw [List.mem_map]
  constructor
  ·rintro ⟨u,rfl,un,h⟩
   rcases h with h | h
   ·rw [hv] at h
    injection h with h
    exact ⟨u,by rw [h]; exact List.mem_cons_self,rfl⟩
   ·exact ⟨u,List.mem_cons_of_mem _ h,rfl⟩
  ·rintro ⟨u,hu,rfl⟩
   rcases List.mem_cons.mp hu with h | h
   ·exact ⟨u,rfl,by rw [h]; exact vn,.inl (by rw [h]; exact hv)⟩
   ·exact ⟨u,rfl,((a2G o hv).mp h).1,.inr h⟩
 rw [pm.length_eq]
 unfold natI
 rw [List.length_map,List.length_cons]
theorem b6O {n:Nat} {ts:List ζζ} {os:List Nat} (o:Ord n os) (n10:n <= 10) {M:Int} (hM:M ∈ lens (b1Z n ts os)) (hall:∀ x ∈ lens (b1Z n ts os),x <= M):M - 1 = a7I n ts os:=by
 unfold b1Z at hM hall
 by_cases c:n = 0
 ·rw [if_pos c] at hM
  have:M = 0:=by simpa [lens] using hM
  subst this
  subst c
  rfl
 ·rw [if_neg c] at hM hall
  have mem:∀ x:Int,x ∈ lens ((List.range n).map (a1S n ts os)) ↔ ∃ j,j < n/\x = (((a1A n ts os j).length:Nat):Int) + 1:=λ x=>by
   unfold lens
   rw [List.map_map,List.mem_map]
   constructor
   ·rintro ⟨k,hk,rfl⟩
    have hk:=List.mem_range.mp hk
    refine ⟨n - 1 - k,by omega,?_⟩
    show (((a1S n ts os k).2.length:Nat):Int) = _
    rw [c0Z o n10 hk]; omega
   ·rintro ⟨j,hj,rfl⟩
    refine ⟨n - 1 - j,List.mem_range.mpr (by omega),?_⟩
    show (((a1S n ts os (n - 1 - j)).2.length:Nat):Int) = _
    rw [c0Z o n10 (by omega),show n - 1 - (n - 1 - j) = j by omega]; omega
  obtain ⟨h1,h2,h3⟩:=a9T ((List.range n).map λ j=>(((a1A n ts os j).length:Nat):Int)) (-1)
  obtain ⟨j,hj,ej⟩:=(mem M).mp hM
  have a1:=h2 _ (List.mem_map.mpr ⟨j,List.mem_range.mpr hj,rfl⟩)
  unfold a7I
  rcases h3 with h | h
  ·omega
  ·obtain ⟨i,hi,ei⟩:=List.mem_map.mp h
   have:=hall _ ((mem _).mpr ⟨i,List.mem_range.mp hi,rfl⟩)
   have ei':(((a1A n ts os i).length:Nat):Int) = ((List.range n).map λ j=>(((a1A n ts os j).length:Nat):Int)).foldl max (-1):=ei
   omega
end K
namespace K
open PySem L2 Lw Bg
def c3S (rs:List Row):Prop:=∀ j,j < rs.length->∀ u,(a1L rs j).1 = some u->0 <= u/\u.toNat < j
theorem c1A {n:Int} {rs:List Row} (ok:∀ k < rs.length,b7P n rs k = true):c3S rs:=λ j hj u e=>by
 have o:=ok j hj
 unfold b7P upOk at o
 rw [Bool.and_eq_true] at o
 by_cases z:j = 0
 ·rw [if_pos z,e] at o; cases o.1
 ·rw [if_neg z,e] at o
  have b:=of_decide_eq_true o.1
  omega
theorem a7J {rs:List Row} {r:Row} (h:r ∈ rs):∃ k,k < rs.length/\a1L rs k = r:=by
 obtain ⟨k,hk,e⟩:=List.getElem_of_mem h
 exact ⟨k,hk,b0O (by rw [List.getElem?_eq_getElem hk,e])⟩
structure TreeP (n:Nat) (rs:List Row):Prop where
 pos:0 < rs.length
 ok:∀ k < rs.length,b7P n rs k = true
 cov:∀ v:Int,0 <= v->v < (n:Int)->∃ r ∈ rs,v ∈ r.2
 tops:∀ v:Int,(b2Q rs v).length <= 1
theorem b5I {rs:List Row} {v:Int} (h:(b2Q rs v).length <= 1) {a b:Nat} (al:a < rs.length) (bl:b < rs.length) (ha:b5T rs v a = true) (hb:b5T rs v b = true):a = b:=by
 have ma:a ∈ b2Q rs v:=List.mem_filter.mpr ⟨List.mem_range.mpr al,ha⟩
 have mb:b ∈ b2Q rs v:=List.mem_filter.mpr ⟨List.mem_range.mpr bl,hb⟩
 match e:b2Q rs v,h with
 | [],_=>rw [e] at ma; exact absurd ma List.not_mem_nil
 | [x],_ =>
  rw [e] at ma mb
  rw [List.mem_singleton.mp ma,List.mem_singleton.mp mb]
theorem Tree.p {n:Nat} {rs:List Row} (T:Tree n rs):TreeP n rs:=⟨T.pos,T.ok,T.cov,T.tops⟩
structure SubR (rs:List Row) (R:Nat->Prop) (t:Nat):Prop where
 lt:t < rs.length
 top:R t
 up:∀ j,j < rs.length->R j->t <= j/\(j ≠ t->∃ u:Int,(a1L rs j).1 = some u/\R u.toNat)
theorem SubR.congr {rs:List Row} {R R':Nat->Prop} {t:Nat} (h:∀ j,R j ↔ R' j) (A:SubR rs R t):SubR rs R' t :=
 ⟨A.lt,(h t).mp A.top,λ j hj r=>⟨(A.up j hj ((h j).mpr r)).1,λ ne=>by
  obtain ⟨u,e,r'⟩:=(A.up j hj ((h j).mpr r)).2 ne
  exact ⟨u,e,(h _).mp r'⟩⟩⟩
theorem c1B {rs:List Row} {R R':Nat->Prop} {t t':Nat} (U:c3S rs) (A:SubR rs R t) (B:SubR rs R' t') (h:t <= t'):∀ m c,c <= m->c < rs.length->R c->R' c->R t'
 | 0,c,hm,hc,r,r'=>by
  have:=(B.up c hc r').1
  have e:c = t':=by omega
  exact e ▸ r
 | m + 1,c,hm,hc,r,r'=>by
  obtain ⟨b1,b2⟩:=B.up c hc r'
  by_cases e:c = t'
  ·exact e ▸ r
  ·obtain ⟨u,eu,ru⟩:=b2 e
   obtain ⟨u',eu',ru'⟩:=(A.up c hc r).2 (by omega)
   have uu:u' = u:=by rw [eu] at eu'; exact (Option.some.inj eu').symm
   rw [uu] at ru'
   have ul:=(U c hc u eu).2
   exact c1B U A B h m u.toNat (by omega) (by omega) ru' ru
theorem c1C {rs:List Row} {R R':Nat->Prop} {t t' c:Nat} (U:c3S rs) (A:SubR rs R t) (B:SubR rs R' t') (h:t <= t') (hc:c < rs.length) (r:R c) (r':R' c):SubR rs (λ j=>R j\/R' j) t where
 lt:=A.lt
 top:=.inl A.top
 up:=λ j hj q=>by
  rcases q with q | q
  ·refine ⟨(A.up j hj q).1,λ ne=>?_⟩
   obtain ⟨u,e,x⟩:=(A.up j hj q).2 ne
   exact ⟨u,e,.inl x⟩
  ·refine ⟨Nat.le_trans h (B.up j hj q).1,λ ne=>?_⟩
   by_cases e:j = t'
   ·have x:=c1B U A B h c c (Nat.le_refl _) hc r r'
    rw [<- e] at x
    obtain ⟨u,e',y⟩:=(A.up j hj x).2 ne
    exact ⟨u,e',.inl y⟩
   ·obtain ⟨u,e',y⟩:=(B.up j hj q).2 e
    exact ⟨u,e',.inr y⟩
theorem d0H {rs:List Row} {R R':Nat->Prop} {t t' c:Nat} (U:c3S rs) (A:SubR rs R t) (B:SubR rs R' t') (hc:c < rs.length) (r:R c) (r':R' c):∃ s,SubR rs (λ j=>R j\/R' j) s:=by
 rcases Nat.le_total t t' with h | h
 ·exact ⟨t,c1C U A B h hc r r'⟩
 ·exact ⟨t',(c1C U B A h hc r' r).congr λ j=>Or.comm⟩
theorem b5J {R:Nat->Prop}:∀ m j,j <= m->R j->∃ t,t <= j/\R t/\∀ i,i < t->¬ R i
 | 0,j,h,r=>⟨j,Nat.le_refl _,r,λ i hi=>by omega⟩
 | m + 1,j,h,r=>by
  by_cases c:∃ i,i < j/\R i
  ·obtain ⟨i,hi,ri⟩:=c
   obtain ⟨t,a,b,d⟩:=b5J m i (by omega) ri
   exact ⟨t,by omega,b,d⟩
  ·exact ⟨j,Nat.le_refl _,r,λ i hi ri=>c ⟨i,hi,ri⟩⟩
theorem b2A {n:Nat} {rs:List Row} (T:TreeP n rs) {v:Int} (ex:∃ r ∈ rs,v ∈ r.2):∃ t,SubR rs (λ j=>v ∈ (a1L rs j).2) t:=by
 have U:=c1A T.ok
 obtain ⟨r,hr,hv⟩:=ex
 obtain ⟨k,hk,e⟩:=a7J hr
 obtain ⟨t,tk,rt,tm⟩:=b5J (R:=λ j=>v ∈ (a1L rs j).2) k k (Nat.le_refl _) (by show v ∈ (a1L rs k).2; rw [e]; exact hv)
 have tl:t < rs.length:=by omega
 have isT:∀ j,j < rs.length->v ∈ (a1L rs j).2->(∀ u,(a1L rs j).1 = some u->v ∉ (a1L rs u.toNat).2)->b5T rs v j = true:=λ j hj hv no=>by
  unfold b5T has c5V
  rw [decide_eq_true hv]
  cases c:(a1L rs j).1 with
  | none=>rfl
  | some u =>
   dsimp only
   unfold has
   rw [decide_eq_false (no u c)]; rfl
 have tT:=isT t tl rt λ u e h=>tm u.toNat (U t tl u e).2 h
 refine ⟨t,tl,rt,λ j hj r=>⟨Nat.le_of_not_lt λ h=>tm j h r,λ ne=>?_⟩⟩
 cases c:(a1L rs j).1 with
 | none =>
  exact absurd (b5I (T.tops v) hj tl (isT j hj r λ u e=>by rw [c] at e; cases e) tT) ne
 | some u =>
  refine ⟨u,rfl,?_⟩
  by_cases d:v ∈ (a1L rs u.toNat).2
  ·exact d
  ·exact absurd (b5I (T.tops v) hj tl (isT j hj r λ u' e=>by rw [c] at e; rw [<- Option.some.inj e]; exact d) tT) ne
def a6F (rs:List Row) (S:List Nat) (j:Nat):Prop:=∃ v ∈ S,((v:Nat):Int) ∈ (a1L rs j).2
inductive GPart (rs:List Row):List Nat->Prop
 | one (v:Nat):(∃ r ∈ rs,(v:Int) ∈ r.2)->GPart rs [v]
 | more (S:List Nat) (u w:Nat):GPart rs S->u ∈ S->(∃ r ∈ rs,(u:Int) ∈ r.2/\(w:Int) ∈ r.2)->GPart rs (S ++ [w])
theorem c3T {n:Nat} {rs:List Row} (T:TreeP n rs) {S:List Nat} (g:GPart rs S):∃ t,SubR rs (a6F rs S) t:=by
 induction g with
 | one v e =>
  obtain ⟨t,A⟩:=b2A T e
  exact ⟨t,A.congr λ j=>⟨λ h=>⟨v,List.mem_singleton.mpr rfl,h⟩,λ ⟨w,hw,h⟩=>by rw [List.mem_singleton.mp hw] at h; exact h⟩⟩
 | more S u w _ hu e ih =>
  obtain ⟨t,A⟩:=ih
  obtain ⟨r,hr,h1,h2⟩:=e
  obtain ⟨t',B⟩:=b2A T (v:=(w:Int)) ⟨r,hr,h2⟩
  obtain ⟨k,hk,e⟩:=a7J hr
  obtain ⟨s,C⟩:=d0H (c1A T.ok) A B hk ⟨u,hu,by rw [e]; exact h1⟩ (by show _ ∈ (a1L rs k).2; rw [e]; exact h2)
  refine ⟨s,C.congr λ j=>?_⟩
  unfold a6F
  constructor
  ·rintro (⟨v,hv,h⟩ | h)
   ·exact ⟨v,List.mem_append_left _ hv,h⟩
   ·exact ⟨w,List.mem_append_right _ (List.mem_singleton.mpr rfl),h⟩
  ·rintro ⟨v,hv,h⟩
   rcases List.mem_append.mp hv with hv | hv
   ·exact .inl ⟨v,hv,h⟩
   ·rw [List.mem_singleton.mp hv] at h
    exact .inr h
theorem b5K {rs:List Row}:∀ {ps:List (List Nat)},ps ≠ []->(∀ S ∈ ps,∃ t,SubR rs (a6F rs S) t)->∃ S0 ∈ ps,∃ t0,SubR rs (a6F rs S0) t0/\∀ S ∈ ps,∃ t,t <= t0/\SubR rs (a6F rs S) t
 | [],h,_=>absurd rfl h
 | [S],_,f=>by
  obtain ⟨t,A⟩:=f S List.mem_cons_self
  exact ⟨S,List.mem_cons_self,t,A,λ S' h=>by rw [List.mem_singleton.mp h]; exact ⟨t,Nat.le_refl _,A⟩⟩
 | S :: S' :: r,_,f=>by
  obtain ⟨t,A⟩:=f S List.mem_cons_self
  obtain ⟨S0,h0,t0,B,all⟩:=b5K (ps:=S' :: r) (by simp) λ S h=>f S (List.mem_cons_of_mem _ h)
  by_cases c:t <= t0
  ·refine ⟨S0,List.mem_cons_of_mem _ h0,t0,B,λ S2 h=>?_⟩
   rcases List.mem_cons.mp h with h | h
   ·rw [h]; exact ⟨t,c,A⟩
   ·exact all S2 h
  ·refine ⟨S,List.mem_cons_self,t,A,λ S2 h=>?_⟩
   rcases List.mem_cons.mp h with h | h
   ·rw [h]; exact ⟨t,Nat.le_refl _,A⟩
   ·obtain ⟨t2,l2,C⟩:=all S2 h
    exact ⟨t2,by omega,C⟩
theorem d2D {n:Nat} {rs:List Row} (T:TreeP n rs) {ps:List (List Nat)} (each:∀ S ∈ ps,∃ S',(∀ v,v ∈ S ↔ v ∈ S')/\GPart rs S') (touch:∀ S ∈ ps,∀ S' ∈ ps,∃ r ∈ rs,(∃ v ∈ S,((v:Nat):Int) ∈ r.2)/\∃ v ∈ S',((v:Nat):Int) ∈ r.2) :
  ∃ j,j < rs.length/\∀ S ∈ ps,a6F rs S j:=by
 by_cases e:ps = []
 ·subst e
  exact ⟨0,T.pos,λ S h=>absurd h List.not_mem_nil⟩
 ·obtain ⟨S0,h0,t0,A,all⟩:=b5K (rs:=rs) e λ S h=>by
   obtain ⟨S',p,g⟩:=each S h
   obtain ⟨t,A⟩:=c3T T g
   exact ⟨t,A.congr λ j=>⟨λ ⟨v,hv,x⟩=>⟨v,(p v).mpr hv,x⟩,λ ⟨v,hv,x⟩=>⟨v,(p v).mp hv,x⟩⟩⟩
  refine ⟨t0,A.lt,λ S h=>?_⟩
  obtain ⟨t,l,B⟩:=all S h
  obtain ⟨r,hr,h1,h2⟩:=touch S h S0 h0
  obtain ⟨k,hk,e⟩:=a7J hr
  exact c1B (c1A T.ok) B A l k k (Nat.le_refl _) hk (by unfold a6F; rw [e]; exact h1) (by unfold a6F; rw [e]; exact h2)
abbrev b2B:Stmt:=top 37
theorem sc_meeting:FnScope ["tree", "sets", "k", "row"] ["tree", "sets"] (a0E b2B):=⟨rfl,rfl,rfl,by decide +kernel,rfl,by decide +kernel,by decide +kernel⟩
def d0I (K:Φρ) (H:Hp) (l:Addr) (ss:List (List Int)):Prop:=∃ vs,SqL K H l vs/\Paired (LstV K H) vs ss
theorem b2C {K:Φρ} {H H':Hp} {v:V} {ns:List Int} (e:Same H H') (h:LstV K H v ns):LstV K H' v ns:=by
 obtain ⟨p,rfl,h⟩:=h
 exact ⟨p,rfl,e.seq h⟩
def b6P (r:Row) (s:List Int):Bool:=!((a0X r.2 s).map V.int).isEmpty
def a7K (r:Row) (ss:List (List Int)):Bool:=ss.all (b6P r)
def a5F (rs:List Row) (ss:List (List Int)):Option Nat:=(List.range rs.length).find? λ k=>a7K (a1L rs k) ss
def outV:Option Nat->V
 | some k=>.int (k:Nat)
 | none=>.non
theorem a9U (r:Row) (s:List Int):b6P r s = true ↔ ∃ v,v ∈ r.2/\v ∈ s:=by
 unfold b6P a0X
 rw [Bool.not_eq_true',<- Bool.not_eq_true,List.isEmpty_iff,List.map_eq_nil_iff,List.filter_eq_nil_iff]
 constructor
 ·intro h
  by_cases c:∃ v,v ∈ r.2/\v ∈ s
  ·exact c
  ·exact absurd (λ a ha e=>c ⟨a,ha,of_decide_eq_true e⟩) h
 ·rintro ⟨v,h1,h2⟩ h
  exact h v h1 (decide_eq_true h2)
theorem c3U {rs:List Row} {ss:List (List Int)} {i:Nat} (hi:i < rs.length) (no:∀ j < i,a7K (a1L rs j) ss = false) (h:a7K (a1L rs i) ss = true):a5F rs ss = some i:=by
 unfold a5F
 exact List.find?_range_eq_some.mpr ⟨h,List.mem_range.mpr hi,λ j hj=>by rw [no j hj]; rfl⟩
theorem c3V {rs:List Row} {ss:List (List Int)} (no:∀ j < rs.length,a7K (a1L rs j) ss = false):a5F rs ss = none:=by
 unfold a5F
 refine List.find?_eq_none.mpr λ j hj=>?_
 rw [no j (List.mem_range.mp hj)]; simp
def c1D (K:Φρ):Sp:=λ vs H Q _=>∃ (l m:Addr) (rs:List Row) (ss:List (List Int)),vs = [.ref l,.ref m]/\b7Q K H l rs/\d0I K H m ss/\ss.length <= 1000/\∀ H',Same H H'->Q (outV (a5F rs ss)) H'
def TruL (K:Φρ) (H:Hp) (v:V) (b:Bool):Prop:=∃ p xs,v = .ref p/\SqL K H p xs/\b = !xs.isEmpty
theorem TruL.same {K:Φρ} {H H':Hp} {v:V} {b:Bool} (e:Same H H') (h:TruL K H v b):TruL K H' v b:=by
 obtain ⟨p,xs,rfl,h,eb⟩:=h
 exact ⟨p,xs,rfl,e.seq h,eb⟩
section
variable {P:Program} {w:World} {K:Φρ} {mg:Str->Option Value} {base:Heap}
abbrev DZ24 (K:PySem.W.Frag) (mg:Str->Option Value):=Dn K mg "meeting" b2B ["tree", "sets"]
set_option maxHeartbeats 4000000 in
theorem b6Q (B:Bl mg) (dZ6:DZ6 K mg) (dZ24:DZ24 K mg):FnOk P w K mg base CX0 2 dZ24.f dZ24.fd ["tree", "sets"] (c1D K):=by
 have gZ6:FnOk P w K mg base CX0 1 _ _ _ _:=a3R B dZ6
 refine dZ24.F.ok sc_meeting (λ vs H Q E h=>?_) (λ cdv A outer s H vs Q E hr h=>?_)
 ·obtain ⟨l,m,rs,ss,rfl,_⟩:=h
  rfl
 obtain ⟨l,m,rs,ss,rfl,hR,hM,hz,q⟩:=h
 refine ⟨_,(a0C (a1U PassesOwn.never rfl (b2P (K:=K) rfl rfl B.enumerate (a0A (pv 0) a0B)) (a2W (K:=K) (n:=2) rfl rfl (a0Y (a0H (i:=2) sc_meeting.nd rfl (Or.inl rfl)) (a0Y (a0H (i:=3) sc_meeting.nd rfl (Or.inr rfl)) a2V)))
   (a0D (a2Y (a0W (K:=K) rfl (a0N (a6V (K:=K) rfl rfl) rfl B.all (by decide +kernel) (a0A (a3K ["places", "row"] [none,some 3]  (by kernel_rfl) rfl (a0P (K:=K) rfl (pv 1)) (λ _ _ _ _ _=>(a0H (i:=0) (show (["places", "row"]:List Str).Nodup by decide +kernel) rfl (Or.inl rfl))) (λ _ _ _ _ _=>a2N) (λ _ _ _ _ _=>(a0F gZ6 hr rfl dZ6.m dZ6.F.kp dZ6.b .nil a0M (a0A (a0U (a1P (K:=K) rfl) (pv 1) a0G (λ _ _=>rfl)) (a0A (pv 0) a0B))))) a0B)) (λ _=>rfl))
   (a0D (a0K (pv 2)))
   a1O)))
   (a0D (a0K a5S))),?_⟩
 obtain ⟨xs,hx,hp,_⟩:=id hR
 obtain ⟨ms,hm,hpm⟩:=id hM
 have lx:xs.length = rs.length:=Paired.length hp
 have lm:ms.length = ss.length:=Paired.length hpm
 refine ⟨_,rfl,l,rfl,⟨_,hx⟩,?_⟩
 refine b3V (xs:=xs) (λ i σ H2=>∃ (kk rr:Option V),σ = [some (.ref l),some (.ref m),kk,rr]/\Same H H2/\(∀ j < i,a7K (a1L rs j) ss = false)) ⟨none,none,rfl,Same.refl _,λ j hj=>absurd hj (Nat.not_lt_zero _)⟩ (λ i σ H2 _ ⟨_,_,_,sm,_⟩=>sm.seq hx) ?_ ?_
 ·rintro i x σ H2 p H3 hi ⟨kk,rr,rfl,sm,no⟩ nw
  obtain ⟨r,hr1,⟨pr,b,rfl,hT,hb,hbl⟩⟩:=paired_get hp hi
  have s3:Same H H3:=sm.trans nw.same
  have er:a1L rs i = r:=b0O hr1
  have il:i < rs.length:=(List.getElem?_eq_some_iff.mp hr1).1
  refine ⟨p,_,rfl,SqT.of nw.here,rfl,_,_,rfl,_,_,rfl,rfl,?_⟩
  refine ⟨_,rfl,m,rfl,⟨_,s3.seq hm⟩,?_⟩
  refine a4G (K:=K) (a:=m) (xs:=ms) (λ i ys G=>Same H3 G/\Paired (TruL K G) ys ((ss.take i).map (b6P r))) ⟨Same.refl _,.nil⟩ (λ i ys G hi ⟨s,p⟩=>⟨(s3.trans s).seq hm,?_⟩) (λ i x ys G hi ⟨s,p⟩=>?_) ?_
  ·have:=Paired.length p
   rw [this,List.length_map,List.length_take]
   exact Nat.le_of_lt (a0V (by omega))
  ·obtain ⟨t,ht,⟨pt,rfl,hpt⟩⟩:=paired_get hpm hi
   have s4:=s3.trans s
   refine ⟨_,rfl,pr,_,_,_,rfl,rfl,s4.tupq hT,rfl,_,rfl,b,pt,r.2,t,rfl,s4.seq hb,s4.seq hpt,hbl,λ H4 p5 H5 s45 n5=>?_⟩
   have s5:=s45.trans n5.same
   refine ⟨s.trans s5,?_⟩
   obtain ⟨hil,hix⟩:=List.getElem?_eq_some_iff.mp ht
   rw [List.take_succ_eq_append_getElem hil,hix,List.map_append]
   exact a0R (Paired.mapP p λ v t q=>q.same s5) ⟨p5,_,rfl,SqL.of n5.here,rfl⟩
  intro ys G0 ⟨s0,p0⟩ hd hfree
  rw [lm,List.take_length] at p0
  obtain ⟨G,hnew⟩:∃ G,G = upd G0 hd (.lst ys):=⟨_,rfl⟩
  have nG:New G0 hd (.lst ys) G:=by rw [hnew]; exact New.mk0 hfree
  rw [<- hnew]
  refine ⟨hd,ys,ss.map (b6P r),rfl,SqL.of nG.here,Paired.mapP p0 λ v b q=>?_,_,rfl,?_⟩
  ·obtain ⟨pp,zs,rfl,hq,eb⟩:=q.same nG.same
   exact .inl ⟨zs,hq,eb⟩
  have e1:((ss.map (b6P r)).all id) = a7K (a1L rs i) ss:=by
   rw [er,List.all_map]; rfl
  rw [e1]
  have sG:=s3.trans (s0.trans nG.same)
  cases c:a7K (a1L rs i) ss with
  | true =>
   refine iteT ⟨_,rfl,?_⟩
   have:=q G sG
   rw [c3U il no c] at this
   exact this
  | false =>
   refine iteF ⟨_,_,rfl,sG,λ j hj=>?_⟩
   by_cases hji:j = i
   ·subst hji; exact c
   ·exact no j (by omega)
 ·rintro σ H2 ⟨kk,rr,rfl,sm,no⟩
  have:=q H2 sm
  rw [c3V (by rw [<- lx]; exact no)] at this
  exact this
end
end K
namespace K
open PySem L2 Lw Bg
abbrev a7L:Stmt:=top 44
theorem b2D:FnScope ["_law_script", "_law_k"] ["_law_script", "_law_k"] (a0E a7L):=⟨rfl,rfl,rfl,by decide +kernel,rfl,by decide +kernel,by decide +kernel⟩
def c7Y (K:Φρ):Sp:=λ vs H Q _=>∃ (a:Addr) (ns:List Int) (k:Int),vs = [.ref a,.int k]/\Scr K H a ns/\ns.length <= 63/\0 <= k/\k <= 1000/\∀ z,Q (.int z) H
section
variable {P:Program} {w:World} {K:Φρ} {mg:Str->Option Value} {base:Heap}
abbrev DZ1 (K:PySem.W.Frag) (mg:Str->Option Value):=Dn K mg "_law_cell" a7L ["_law_script", "_law_k"]
set_option maxHeartbeats 4000000 in
theorem a3U (B:Bl mg) (dZ1:DZ1 K mg):FnOk P w K mg base CX0 1 dZ1.f dZ1.fd ["_law_script", "_law_k"] (c7Y K):=by
 refine dZ1.F.ok b2D (λ vs H Q E h=>?_) (λ cdv A outer s H vs Q E hr h=>?_)
 ·obtain ⟨a,ns,k,rfl,_⟩:=h
  rfl
 obtain ⟨a,ns,k,rfl,hS,h63,h0,h1,q⟩:=h
 refine ⟨_,(a0C (a2Y (a0O a8S (pv 1) (a0N (a0T (K:=K) rfl) rfl B.len (by decide +kernel) (a0A (pv 0) a0B)) (a1J _))
   (a0D (a0K (a0U (a0I (K:=K) rfl) (pv 0) (pv 1) (λ _ _=>rfl))))
   a1O)
   (a0C (a2Y (a0O a9Z (a0N (a0T (K:=K) rfl) rfl B.len (by decide +kernel) (a0A (pv 0) a0B)) a0G (a1J _))
   (a0D (a0K (a0Q a3I (a0Q a7X (a0Q a7X (pv 1) (pv 1)) a0G) a0G)))
   a1O)
   (a0D (a0K (a0Q a3I (a0Q a7X (a0Q a2Z (a0U (a0I (K:=K) rfl) (pv 0) (a0Q a2Z (a0Q a7X (pv 1) a0G) (a0N (a0T (K:=K) rfl) rfl B.len (by decide +kernel) (a0A (pv 0) a0B))) (λ _ _=>rfl)) a0G) a0G) (a0Q a7X (a0Q a7X (pv 1) (pv 1)) a0G)))))),?_⟩
 have hl:(ns.map V.int).length = ns.length:=List.length_map _
 refine ⟨_,rfl,_,rfl,a,_,rfl,.inl hS.seq,_,_,rfl,rfl,_,rfl,?_⟩
 refine ite2 (λ c=>?_) (λ c=>?_)
 ·have c':k < (((ns.map V.int).length:Nat):Int):=of_decide_eq_true c
  rw [hl] at c'
  exact ⟨_,rfl,_,rfl,a,_,_,_,rfl,rfl,hS.seq,a8Y h0 c',q _⟩
 refine ⟨_,rfl,a,_,rfl,.inl hS.seq,rfl,_,rfl,?_⟩
 refine ite2 (λ c2=>?_) (λ c2=>?_)
 ·exact ⟨_,rfl,_,rfl,_,_,rfl,rfl,.inl ⟨by omega,by omega⟩,_,_,rfl,rfl,.inr ⟨by decide,by decide⟩,_,_,rfl,rfl,q _⟩
 ·have c2':¬ V.int (((ns.map V.int).length:Nat):Int) = V.int 0:=of_decide_eq_false (Bool.eq_false_iff.mpr c2)
  rw [hl] at c2'
  have z':(0:Int) < (ns.length:Int):=by
   rcases Nat.eq_zero_or_pos ns.length with e | e
   ·exact absurd (by rw [e]; rfl) c2'
   ·omega
  have m0:=Int.emod_nonneg (k * 3) (show (ns.length:Int) ≠ 0 by omega)
  have m1:=Int.emod_lt_of_pos (k * 3) z'
  exact ⟨_,rfl,_,rfl,_,_,rfl,rfl,.inr ⟨by decide,by decide⟩,_,rfl,a,_,rfl,.inl hS.seq,_,_,rfl,rfl,(by rw [hl]; exact z'),a,_,_,_,rfl,rfl,hS.seq,(by rw [hl]; exact a8Y m0 m1),_,_,rfl,rfl,(show (0:Int) < _ by decide),_,_,rfl,rfl,.inr ⟨by decide,by decide⟩,_,rfl,_,rfl,_,_,rfl,rfl,.inl ⟨by omega,by omega⟩,_,_,rfl,rfl,.inr ⟨by decide,by decide⟩,_,_,rfl,rfl,q _⟩
end
abbrev a5G:Stmt:=top 45
theorem sc__law_turned:FnScope ["_law_script", "_law_n", "_law_first", "_law_turned_here", "_law_v"] ["_law_script", "_law_n", "_law_first"] (a0E a5G):=⟨rfl,rfl,rfl,by decide +kernel,rfl,by decide +kernel,by decide +kernel⟩
abbrev rng (n:Nat):List Int:=(List.range n).map λ i=>((i:Nat):Int)
theorem mem_rng {n:Nat} {v:Int}:v ∈ rng n ↔ 0 <= v/\v < (n:Int):=by
 rw [List.mem_map]
 constructor
 ·rintro ⟨i,hi,rfl⟩
  have:=List.mem_range.mp hi
  omega
 ·rintro ⟨h0,h1⟩
  exact ⟨v.toNat,List.mem_range.mpr (by omega),by omega⟩
def c3W (K:Φρ):Sp:=λ vs H Q _=>∃ (a:Addr) (ns:List Int) (n f:Nat),vs = [.ref a,.int n,.int f]/\f <= 100/\Scr K H a ns/\ns.length <= 63/\n <= 10/\∀ r us H',New H r (.lst (List.map V.int us)) H'->us.Perm (rng n)->Q (.ref r) H'
section
variable {P:Program} {w:World} {K:Φρ} {mg:Str->Option Value} {base:Heap}
abbrev DZ4 (K:PySem.W.Frag) (mg:Str->Option Value):=Dn K mg "_law_turned" a5G ["_law_script", "_law_n", "_law_first"]
set_option maxHeartbeats 4000000 in
theorem a4E (B:Bl mg) (dZ1:DZ1 K mg) (dZ4:DZ4 K mg):FnOk P w K mg base CX0 2 dZ4.f dZ4.fd ["_law_script", "_law_n", "_law_first"] (c3W K):=by
 have gZ1:FnOk P w K mg base CX0 1 _ _ _ _:=a3U B dZ1
 refine dZ4.F.ok sc__law_turned (λ vs H Q E h=>?_) (λ cdv A outer s H vs Q E hr h=>?_)
 ·obtain ⟨a,ns,n,f,rfl,_⟩:=h
  rfl
 obtain ⟨a,ns,n,f,rfl,hf,hS,h63,hn,q⟩:=h
 refine ⟨_,(a0C (a0L (i:=3) sc__law_turned.nd rfl (Or.inl rfl) (a1G a0B))
   (a0C (a1U PassesOwn.never rfl (a1E rfl B.range (a0A (pv 1) a0B)) (a0H (i:=4) sc__law_turned.nd rfl (Or.inl rfl))
   (a0D (a2L (a3A (K:=K) rfl PySem.F.plainAttrs_list PySem.F.slot_list_insert PySem.F.type_list_insert b5R (pv 3) (a0A (a0Q a2Z (a0Q a8R (a0F gZ1 hr rfl dZ1.m dZ1.F.kp dZ1.b .nil a0M (a0A (pv 0) (a0A (a0Q a3I (pv 2) (pv 4)) a0B))) a0G) (a0Q a3I (pv 4) a0G)) (a0A (pv 4) a0B))))))
   (a0D (a0K (pv 3))))),?_⟩
 refine ⟨(by show 0 <= 1000; decide),λ r H0 nw=>?_⟩
 refine ⟨_,rfl,_,rfl,by omega,by omega,?_⟩
 rw [Int.toNat_natCast]
 refine a1R (n:=n) (λ i σ H'=>∃ (us:List Int) (v:Option V),σ = [some (.ref a),some (.int n),some (.int f),some (.ref r),v]/\New H r (.lst (us.map V.int)) H'/\us.Perm (rng i)) ⟨[],none,rfl,nw,.nil⟩ ?_ ?_
 ·rintro i σ H1 hi ⟨us,v,rfl,n1,pm⟩
  have ei:(0 + (i:Int)) = ((i:Nat):Int):=by omega
  rw [ei]
  have lu:us.length = i:=by rw [pm.length_eq]; simp
  refine ⟨_,rfl,.inl ⟨rfl,_,SqL.of n1.here⟩,_,rfl,_,rfl,_,rfl,_,_,rfl,rfl,a,ns,_,rfl,hS.same n1.same,h63,(by omega),(by omega),λ z=>?_⟩
  have m0:=Int.emod_nonneg (z / 3) (show (i:Int) + 1 ≠ 0 by omega)
  have m1:=Int.emod_lt_of_pos (z / 3) (show (0:Int) < (i:Int) + 1 by omega)
  refine ⟨_,_,rfl,rfl,⟨by decide,by decide⟩,_,rfl,_,_,rfl,rfl,_,_,rfl,rfl,(show (0:Int) < _ by omega),_,rfl,r,_,_,_,rfl,rfl,n1.here,(by rw [List.length_map]; omega),m0,(by rw [List.length_map]; omega),λ H2 ch=>?_⟩
  refine ⟨us.take (z / 3 % ((i:Int) + 1)).toNat ++ (i:Int) :: us.drop (z / 3 % ((i:Int) + 1)).toNat,_,rfl,⟨n1.fresh,?_,λ b hb=>(ch.rest b hb).trans (n1.rest b hb)⟩,?_⟩
  ·rw [ch.here,<- List.map_take,<- List.map_drop,List.map_append,List.map_cons]
  ·refine List.perm_middle.trans ?_
   rw [List.take_append_drop]
   have e:rng (i + 1) = rng i ++ [(i:Int)]:=by unfold rng; rw [List.range_succ,List.map_append]; rfl
   rw [e]
   exact (pm.cons _).trans (List.perm_append_singleton _ _).symm
 ·rintro σ H1 ⟨us,v,rfl,n1,pm⟩
  exact ⟨_,rfl,q r us H1 n1 pm⟩
end
theorem b5L {us:List Int} {n:Nat} (h:us.Perm (rng n)):∃ os:List Nat,us.map V.int = natV os/\os.Perm (List.range n)/\us = os.map λ (x:Nat)=>(x:Int):=by
 have e:us = (us.map Int.toNat).map λ (x:Nat)=>(x:Int):=by
  rw [List.map_map]
  conv=>lhs; rw [<- List.map_id us]
  refine List.map_congr_left λ x hx=>?_
  have:=mem_rng.mp (h.mem_iff.mp hx)
  show x = ((x.toNat:Nat):Int)
  omega
 refine ⟨us.map Int.toNat,by rw [a0S,<- e],?_,e⟩
 have:=h.map Int.toNat
 rw [List.map_map] at this
 have e2:(List.range n).map (Int.toNat ∘ λ i=>((i:Nat):Int)) = List.range n:=by
  conv=>rhs; rw [<- List.map_id (List.range n)]
  exact List.map_congr_left λ x _=>by simp
 rw [e2] at this
 exact this
def VkP (os:List Nat) (k:Nat) (x:Int):Prop:=∃ i,i < k/\x = ((os.getD i 0:Nat):Int)
structure PrI (os:List Nat) (k:Nat) (Ps:List ζζ):Prop where
 inn:∀ t ∈ Ps,VkP os k t.1/\VkP os k t.2/\t.1 ≠ t.2
 firm:¬ Fo (VkP os k) (Adj Ps)
theorem VkP.mono {os:List Nat} {k m:Nat} {x:Int} (h:VkP os k x) (km:k <= m):VkP os m x:=by
 obtain ⟨i,hi,e⟩:=h
 exact ⟨i,by omega,e⟩
theorem PrI.put {os:List Nat} {k m:Nat} {Ps Qs:List ζζ} (h:PrI os k Ps) (km:k <= m) (new:∀ t ∈ Qs,VkP os m t.1/\VkP os m t.2/\t.1 ≠ t.2):PrI os m (Ps ++ Qs) where
 inn:=λ t ht=>by
  rcases List.mem_append.mp ht with c | c
  ·have:=h.inn t c
   exact ⟨this.1.mono km,this.2.1.mono km,this.2.2⟩
  ·exact new t c
 firm:=λ F=>h.firm (F.sub (λ x hx=>hx.mono km) λ x y _ _ _ e=>e.imp (List.mem_append_left _) (List.mem_append_left _))
theorem c1E {os:List Nat} (inj:∀ i j,i < 4->j < 4->i ≠ j->os.getD i 0 ≠ os.getD j 0) {Ps:List ζζ} (all:∀ i j,i < j->j < 4->(((os.getD i 0:Nat):Int),((os.getD j 0:Nat):Int)) ∈ Ps):¬ Fo (VkP os 4) (Adj Ps):=λ F=>by
 obtain ⟨v,⟨i,hi,rfl⟩,few⟩:=F.some_few (x:=((os.getD 0 0:Nat):Int)) ⟨0,by omega,rfl⟩
 have:=few (((List.range 4).filter λ j=>!decide (j = i)).map λ j=>((os.getD j 0:Nat):Int)) ?_ ?_
 ·rw [List.length_map] at this
  have key:∀ i,i < 4->((List.range 4).filter λ j=>!decide (j = i)).length = 3:=by decide
  rw [key i hi] at this
  omega
 ·refine b1Q (List.nodup_range.sublist List.filter_sublist) λ x y hx hy e=>?_
  have hx:=List.mem_range.mp (List.mem_filter.mp hx).1
  have hy:=List.mem_range.mp (List.mem_filter.mp hy).1
  by_cases c:x = y
  ·exact c
  ·exact absurd (by omega) (inj x y hx hy c)
 ·intro u hu
  obtain ⟨j,hj,rfl⟩:=List.mem_map.mp hu
  obtain ⟨h1,h2⟩:=List.mem_filter.mp hj
  have hj:=List.mem_range.mp h1
  have ne:j ≠ i:=λ z=>by rw [z] at h2; simp at h2
  have nv:=inj j i hj hi ne
  refine ⟨⟨j,hj,rfl⟩,λ z=>nv (by omega),?_⟩
  rcases Nat.lt_or_gt_of_ne ne with c | c
  ·exact .inr (all j i c hi)
  ·exact .inl (all i j c hj)
theorem c1F {α:Type} {l:List α} {i:Nat} {a t:α} (hi:l[i]? = some a) (ht:t ∈ l):t = a\/t ∈ l.take i ++ l.drop (i + 1):=by
 obtain ⟨il,e⟩:=List.getElem?_eq_some_iff.mp hi
 rw [<- List.take_append_drop i l,List.drop_eq_getElem_cons il,e] at ht
 rcases List.mem_append.mp ht with c | c
 ·exact .inr (List.mem_append_left _ c)
 ·rcases List.mem_cons.mp c with c | c
  ·exact .inl c
  ·exact .inr (List.mem_append_right _ c)
theorem PrI.amid {os:List Nat} {k at_:Nat} {Ps:List ζζ} {t:Int × Int} (h:PrI os k Ps) (ht:Ps[at_]? = some t) (inj:∀ i,i < k->os.getD i 0 ≠ os.getD k 0):PrI os (k + 1) (Ps.take at_ ++ Ps.drop (at_ + 1) ++ [(t.1,((os.getD k 0:Nat):Int)),(((os.getD k 0:Nat):Int),t.2)]):=by
 have tm:=List.mem_of_getElem? ht
 obtain ⟨t1,t2,tn⟩:=h.inn t tm
 have fr:∀ x,VkP os k x->x ≠ ((os.getD k 0:Nat):Int):=λ x ⟨i,hi,e⟩ z=>inj i hi (by rw [e] at z; omega)
 have vk:VkP os (k + 1) ((os.getD k 0:Nat):Int):=⟨k,by omega,rfl⟩
 refine ⟨λ s hs=>?_,λ F=>h.firm ?_⟩
 ·rcases List.mem_append.mp hs with c | c
  ·have:s ∈ Ps:=by
    rcases List.mem_append.mp c with c | c
    ·exact List.mem_of_mem_take c
    ·exact List.mem_of_mem_drop c
   have:=h.inn s this
   exact ⟨this.1.mono (Nat.le_succ _),this.2.1.mono (Nat.le_succ _),this.2.2⟩
  ·rcases List.mem_cons.mp c with rfl | c
   ·exact ⟨t1.mono (Nat.le_succ _),vk,fr _ t1⟩
   ·rw [List.mem_singleton.mp c]
    exact ⟨vk,t2.mono (Nat.le_succ _),λ z=>fr _ t2 z.symm⟩
 ·have m1:(t.1,((os.getD k 0:Nat):Int)) ∈ Ps.take at_ ++ Ps.drop (at_ + 1) ++ [(t.1,((os.getD k 0:Nat):Int)),(((os.getD k 0:Nat):Int),t.2)]:=List.mem_append_right _ List.mem_cons_self
  have m2:(((os.getD k 0:Nat):Int),t.2) ∈ Ps.take at_ ++ Ps.drop (at_ + 1) ++ [(t.1,((os.getD k 0:Nat):Int)),(((os.getD k 0:Nat):Int),t.2)]:=List.mem_append_right _ (List.mem_cons_of_mem _ List.mem_cons_self)
  have F2:=F.merge (a:=t.1) (b:=((os.getD k 0:Nat):Int)) (λ x y e=>Adj.symm e) (t1.mono (Nat.le_succ _)) vk (fr _ t1) (.inl m1)
  refine F2.sub (λ x hx=>⟨hx.mono (Nat.le_succ _),fr x hx⟩) λ x y hx hy ne e=>?_
  rcases e with e | e
  ·rcases c1F ht e with c | c
   ·refine .inr (.inl ⟨congrArg Prod.fst c,?_⟩)
    rw [show y = t.2 from congrArg Prod.snd c]
    exact .inl m2
   ·exact .inl (.inl (List.mem_append_left _ c))
  ·rcases c1F ht e with c | c
   ·refine .inr (.inr ⟨congrArg Prod.fst c,?_⟩)
    rw [show x = t.2 from congrArg Prod.snd c]
    exact .inr m2
   ·exact .inl (.inr (List.mem_append_left _ c))
def srtT (t:Int × Int):Int × Int:=(if t.2 < t.1 then t.2 else t.1,if t.2 > t.1 then t.2 else t.1)
theorem PrI.not_fo {os:List Nat} {n:Nat} {Ps ts:List ζζ} (h:PrI os n Ps) (olt:∀ k,k < n->os.getD k 0 < n) (mem:∀ t,t ∈ ts ↔ t ∈ Ps.map srtT):¬ FoG n ts:=λ F=>by
 refine h.firm (F.sub (λ x ⟨i,hi,e⟩=>?_) λ x y hx hy ne e=>?_)
 ·have:=olt i hi
  omega
 ·have key:∀ a b:Int,a ≠ b->(a,b) ∈ Ps->Adj ts a b:=λ a b ne hm=>by
   have:=(mem _).mpr (List.mem_map.mpr ⟨_,hm,rfl⟩)
   unfold srtT at this
   dsimp only at this
   by_cases c:b < a
   ·rw [if_pos c,if_neg (by omega)] at this
    exact .inr this
   ·rw [if_neg c,if_pos (by omega)] at this
    exact .inl this
  rcases e with e | e
  ·exact key x y ne e
  ·exact (key y x (Ne.symm ne) e).symm
end K
namespace K
open PySem L2 Lw Bg
abbrev a7M:Stmt:=top 46
theorem sc__law_amid:FnScope ["_law_pairs", "_law_at", "_law_v", "_law_one", "_law_other"] ["_law_pairs", "_law_at", "_law_v"] (a0E a7M):=⟨rfl,rfl,rfl,by decide +kernel,rfl,by decide +kernel,by decide +kernel⟩
abbrev a4L:Stmt:=top 47
theorem sc__law_ties:FnScope ["_law_script", "_law_n", "_law_turned_here", "_law_pairs", "_law_k", "_law_j", "_law_cell_here", "_law_one", "_law_other"] ["_law_script", "_law_n"] (a0E a4L):=⟨rfl,rfl,rfl,by decide +kernel,rfl,by decide +kernel,by decide +kernel⟩
def d0J (K:Φρ):Sp:=λ vs H Q _=>∃ (p:Addr) (k:Nat) (v:Int) (xs:List V) (Ps:List ζζ) (t:Int × Int),vs = [.ref p,.int k,.int v]/\H p = some (.lst xs)/\Paired (TieL H) xs Ps/\Ps[k]? = some t/\Ps.length <= 100 /\
 ∀ r ys H',Same H H'->H r = none->H' r = some (.lst ys)->Paired (TieL H') ys (Ps.take k ++ Ps.drop (k + 1) ++ [(t.1,v),(v,t.2)])->Q (.ref r) H'
def c3X (K:Φρ):Sp:=λ vs H Q _=>∃ (a:Addr) (ns:List Int) (n:Nat),vs = [.ref a,.int n]/\Scr K H a ns/\ns.length <= 63/\4 <= n/\n <= 10 /\
 ∀ r xs ts H',Same H H'->H r = none->H' r = some (.lst xs)->Paired (TieL H') xs ts->(∀ t ∈ ts,0 <= t.1/\t.1 < t.2/\t.2 < (n:Int))->ts.Nodup->¬ FoG n ts->ts.length <= 45->Q (.ref r) H'
theorem a2J {α β:Type} {F:α->β->Prop}:∀ {xs:List α} {ys:List β},Paired F xs ys->∀ k,Paired F (xs.drop k) (ys.drop k)
 | _,_,.nil,k=>by simp; exact .nil
 | _,_,.cons h r,0=>.cons h r
 | _,_,.cons h r,k + 1=>a2J r k
section
variable {P:Program} {w:World} {K:Φρ} {mg:Str->Option Value} {base:Heap}
abbrev DZ0 (K:PySem.W.Frag) (mg:Str->Option Value):=Dn K mg "_law_amid" a7M ["_law_pairs", "_law_at", "_law_v"]
set_option maxHeartbeats 4000000 in
theorem b2E (B:Bl mg) (dZ0:DZ0 K mg):FnOk P w K mg base CX0 1 dZ0.f dZ0.fd ["_law_pairs", "_law_at", "_law_v"] (d0J K):=by
 refine dZ0.F.ok sc__law_amid (λ vs H Q E h=>?_) (λ cdv A outer s H vs Q E hr h=>?_)
 ·obtain ⟨p,k,v,xs,Ps,t,rfl,_⟩:=h
  rfl
 obtain ⟨p,k,v,xs,Ps,t,rfl,hp,pp,hk,l100,q⟩:=h
 have lx:=Paired.length pp
 have kl:k < Ps.length:=(List.getElem?_eq_some_iff.mp hk).1
 refine ⟨_,(a0C (a9Y (a0U (a0I (K:=K) rfl) (pv 0) (pv 1) (λ _ _=>rfl)) (a2W (K:=K) (n:=2) rfl rfl (a0Y (a0H (i:=3) sc__law_amid.nd rfl (Or.inl rfl)) (a0Y (a0H (i:=4) sc__law_amid.nd rfl (Or.inl rfl)) a2V))))
   (a0D (a0K (a0Q a8X (a0Q a8X (a3X (a3Y (K:=K) rfl) (pv 0) a6S (a4F (pv 1))) (a3X (a3Y (K:=K) rfl) (pv 0) (a4F (a0Q a3I (pv 1) a0G)) a6S)) (a1G (a0A (a1W (a0A (pv 3) (a0A (pv 2) a0B))) (a0A (a1W (a0A (pv 2) (a0A (pv 4) a0B))) a0B))))))),?_⟩
 obtain ⟨x,hx,b,rfl,hb⟩:=a2H pp hk
 refine ⟨_,rfl,_,rfl,p,_,_,_,rfl,rfl,SqL.of hp,a2M hx,b,_,rfl,SqT.of hb,rfl,_,_,rfl,_,_,rfl,rfl,?_⟩
 refine ⟨_,rfl,_,rfl,_,rfl,p,_,rfl,SqL.of hp,λ p1 H1 n1=>?_⟩
 rw [c0U] at n1
 refine ⟨_,rfl,_,rfl,_,_,rfl,rfl,((k + 1:Nat):Int),congrArg V.int (show (k:Int) + 1 = _ by omega),p,_,rfl,SqL.of (n1.same _ _ hp),λ p2 H2 n2=>?_⟩
 rw [c0V] at n2
 refine ⟨p1,p2,_,_,rfl,rfl,n2.same _ _ n1.here,n2.here,by rw [List.length_take,List.length_drop]; omega,λ p3 H3 n3=>?_⟩
 refine ⟨_,rfl,_,rfl,(by show 2 <= 1000; decide),λ p4 H4 n4=>?_⟩
 refine ⟨_,rfl,_,rfl,(by show 2 <= 1000; decide),λ p5 H5 n5=>?_⟩
 refine ⟨(by show 2 <= 1000; decide),λ p6 H6 n6=>?_⟩
 have s36:Same H3 H6:=n4.same.trans (n5.same.trans n6.same)
 refine ⟨p3,p6,_,_,rfl,rfl,s36 _ _ n3.here,n6.here,by rw [List.length_append,List.length_take,List.length_drop]; show _ + 2 <= _; omega,λ p7 H7 n7=>?_⟩
 have s7:Same H H7:=n1.same.trans (n2.same.trans (n3.same.trans (s36.trans n7.same)))
 refine q p7 _ H7 s7 ((n1.same.trans (n2.same.trans (n3.same.trans s36))).free n7.fresh) n7.here ?_
 have pp7:Paired (TieL H7) xs Ps:=Paired.mapP pp λ v t q=>TieL.same s7 q
 refine a2B (a2B (a2I k pp7) (a2J pp7 (k + 1))) (.cons ⟨p4,rfl,?_⟩ (.cons ⟨p5,rfl,?_⟩ .nil))
 ·exact n7.same _ _ (n6.same _ _ (n5.same _ _ n4.here))
 ·exact n7.same _ _ (n6.same _ _ n5.here)
abbrev DZ3 (K:PySem.W.Frag) (mg:Str->Option Value):=Dn K mg "_law_ties" a4L ["_law_script", "_law_n"]
set_option maxHeartbeats 8000000 in
theorem b2F (B:Bl mg) (dZ1:DZ1 K mg) (dZ4:DZ4 K mg) (dZ0:DZ0 K mg) (dZ3:DZ3 K mg):FnOk P w K mg base CX0 3 dZ3.f dZ3.fd ["_law_script", "_law_n"] (c3X K):=by
 have gZ1:FnOk P w K mg base CX0 2 _ _ _ _:=(a3U B dZ1).mono (by decide)
 have gZ4:FnOk P w K mg base CX0 2 _ _ _ _:=a4E B dZ1 dZ4
 have gZ0:FnOk P w K mg base CX0 2 _ _ _ _:=(b2E B dZ0).mono (by decide)
 refine dZ3.F.ok sc__law_ties (λ vs H Q E h=>?_) (λ cdv A outer s H vs Q E hr h=>?_)
 ·obtain ⟨a,ns,n,rfl,_⟩:=h
  rfl
 obtain ⟨a,ns,n,rfl,hS,h63,n4,n10,q⟩:=h
 have hw8:(A.deeper (PyProof.Rows.envOfC "_law_ties" (a0E a4L) s.heap.objs.size dZ3.f cdv)).units + 8 < cLine:=by have:=hr.un; omega
 refine ⟨_,(a0C (a0L (i:=2) sc__law_ties.nd rfl (Or.inl rfl) (a0F gZ4 hr rfl dZ4.m dZ4.F.kp dZ4.b .nil a0M (a0A (pv 0) (a0A (pv 1) (a0A a0G a0B)))))
   (a0C (a0L (i:=3) sc__law_ties.nd rfl (Or.inl rfl) (a1G a0B))
   (a0C (a1U PassesOwn.never rfl (a1E rfl B.range (a0A a0G a0B)) (a0H (i:=4) sc__law_ties.nd rfl (Or.inl rfl))
   (a0D (a1U PassesOwn.never rfl (a1E rfl B.range (a0A (pv 4) a0B)) (a0H (i:=5) sc__law_ties.nd rfl (Or.inl rfl))
   (a0D (a2L (a3A (K:=K) rfl PySem.F.plainAttrs_list PySem.F.slot_list_append PySem.F.type_list_append a2A (pv 3) (a0A (a1W (a0A (a0U (a0I (K:=K) rfl) (pv 2) (pv 5) (λ _ _=>rfl)) (a0A (a0U (a0I (K:=K) rfl) (pv 2) (pv 4) (λ _ _=>rfl)) a0B))) a0B)))))))
   (a0C (a1U PassesOwn.never rfl (a6Q rfl B.range (a0A a0G (a0A (pv 1) a0B))) (a0H (i:=4) sc__law_ties.nd rfl (Or.inl rfl))
   (a0C (a0L (i:=6) sc__law_ties.nd rfl (Or.inl rfl) (a0Q a2Z (a0F gZ1 hr rfl dZ1.m dZ1.F.kp dZ1.b .nil a0M (a0A (pv 0) (a0A (a0Q a3I a0G (pv 4)) a0B))) a0G))
   (a0D (a2Y (a0O a9Z (a0Q a2Z (pv 6) a0G) a0G (a1J _))
   (a0D (a0L (i:=3) sc__law_ties.nd rfl (Or.inl rfl) (a0F gZ0 hr rfl dZ0.m dZ0.F.kp dZ0.b .nil a0M (a0A (pv 3) (a0A (a0Q a2Z (a0Q a8R (pv 6) a0G) (a0N (a0T (K:=K) rfl) rfl B.len (by decide +kernel) (a0A (pv 3) a0B))) (a0A (a0U (a0I (K:=K) rfl) (pv 2) (pv 4) (λ _ _=>rfl)) a0B))))))
   (a0D (a1U PassesOwn.never rfl (a1E rfl B.range (a0A (a0Q a3I a0G (a0Q a2Z (a0Q a8R (pv 6) a0G) a0G)) a0B)) (a0H (i:=5) sc__law_ties.nd rfl (Or.inl rfl))
   (a0D (a2L (a3A (K:=K) rfl PySem.F.plainAttrs_list PySem.F.slot_list_append PySem.F.type_list_append a2A (pv 3) (a0A (a1W (a0A (a0U (a0I (K:=K) rfl) (pv 2) (pv 4) (λ _ _=>rfl)) (a0A (a0U (a0I (K:=K) rfl) (pv 2) (a0Q a2Z (a0Q a3I (a0Q a8R (pv 6) a0G) (pv 5)) (pv 4)) (λ _ _=>rfl)) a0B))) a0B))))))))))
   (a0C (a1U PassesOwn.never rfl (a1E rfl B.range (a0A (a0Q a2Z (a0F gZ1 hr rfl dZ1.m dZ1.F.kp dZ1.b .nil a0M (a0A (pv 0) (a0A a0G a0B))) a0G) a0B)) (a0H (i:=4) sc__law_ties.nd rfl (Or.inl rfl))
   (a0C (a0L (i:=7) sc__law_ties.nd rfl (Or.inl rfl) (a0Q a2Z (a0F gZ1 hr rfl dZ1.m dZ1.F.kp dZ1.b .nil a0M (a0A (pv 0) (a0A (a0Q a3I a0G (pv 4)) a0B))) (pv 1)))
   (a0C (a0L (i:=8) sc__law_ties.nd rfl (Or.inl rfl) (a0Q a2Z (a0F gZ1 hr rfl dZ1.m dZ1.F.kp dZ1.b .nil a0M (a0A (pv 0) (a0A (a0Q a3I a0G (pv 4)) a0B))) (pv 1)))
   (a0D (a2Y (a0O c1P (pv 7) (pv 8) (a1J _))
   (a0D (a2L (a3A (K:=K) rfl PySem.F.plainAttrs_list PySem.F.slot_list_append PySem.F.type_list_append a2A (pv 3) (a0A (a1W (a0A (pv 7) (a0A (pv 8) a0B))) a0B))))
   a1O)))))
   (a0D (a0K (a0N (a9H (w:=w) rfl rfl) rfl B.sorted (by decide +kernel) (a0A (a2C (b6E (K:=K) (w:=w) rfl rfl rfl hw8) rfl B.set (by decide +kernel) (a0A (a3K ["_law_a", "_law_b"] [none,none]  (by kernel_rfl) rfl (a0P (K:=K) rfl (pv 3)) (λ _ _ _ _ _=>(a2W (K:=K) (n:=2) rfl rfl (a0Y (a0H (i:=0) (show (["_law_a", "_law_b"]:List Str).Nodup by decide +kernel) rfl (Or.inl rfl)) (a0Y (a0H (i:=1) (show (["_law_a", "_law_b"]:List Str).Nodup by decide +kernel) rfl (Or.inl rfl)) a2V)))) (λ _ _ _ _ _=>a2N) (λ _ _ _ _ _=>(a1W (a0A (a0N (b7B rfl) rfl B.min (by decide +kernel) (a0A (pv 0) (a0A (pv 1) a0B))) (a0A (a0N (b7A rfl) rfl B.max (by decide +kernel) (a0A (pv 0) (a0A (pv 1) a0B))) a0B))))) a0B)) a0B))))))))),?_⟩
 refine ⟨_,rfl,_,rfl,a,ns,n,2,rfl,by decide,hS,h63,n10,λ rt us H1 n1 pu=>?_⟩
 obtain ⟨os,eo,po,_⟩:=b5L pu
 have h1:H1 rt = some (.lst (natV os)):=by rw [n1.here,eo]
 have lo:os.length = n:=by rw [po.length_eq,List.length_range]
 have ndo:os.Nodup:=po.nodup_iff.mpr List.nodup_range
 have olt:∀ k,k < n->os.getD k 0 < n:=λ k hk=>by
  rw [τα,List.getElem?_eq_getElem (by omega)]
  exact List.mem_range.mp (po.mem_iff.mp (List.getElem_mem _))
 have one:∀ {i j:Nat},i < n->j < n->i ≠ j->os.getD i 0 ≠ os.getD j 0:=λ {i j} hi hj ne e=>by
  rw [τα,List.getElem?_eq_getElem (by omega),τα,List.getElem?_eq_getElem (by omega)] at e
  exact ne ((List.getElem_inj ndo).mp e)
 have onI:∀ {i j:Nat},i < n->j < n->i ≠ j->((os.getD i 0:Nat):Int) ≠ ((os.getD j 0:Nat):Int):=λ {i j} hi hj ne e=>one hi hj ne (by omega)
 have ix:=λ {H':Hp} (s:Same H1 H')=>(SqL.of (K:=K) (s _ _ h1):SqL K H' rt (natV os))
 have at_:∀ k:Nat,k < n->atI (natV os) (k:Int) = some (.int ((os.getD k 0:Nat):Int)):=λ k hk=>a4K (by omega)
 refine ⟨(by show 0 <= 1000; decide),λ pl H2 n2=>?_⟩
 have fpl:=n2.fresh
 refine ⟨4,rfl,by decide,by decide,?_⟩
 refine a1R (n:=4) (λ i σ H'=>∃ (kk jj:Option V) (xs:List V) (Ps:List ζζ),σ = [some (.ref a),some (.int n),some (.ref rt),some (.ref pl),kk,jj,none,none,none]/\Same H1 H'/\H' pl = some (.lst xs)/\Paired (TieL H') xs Ps/\Ps.length <= 4 * i/\(∀ t ∈ Ps,VkP os i t.1/\VkP os i t.2/\t.1 ≠ t.2)/\∀ j k,j < k->k < i->(((os.getD j 0:Nat):Int),((os.getD k 0:Nat):Int)) ∈ Ps)
  ⟨none,none,[],[],rfl,n2.same,n2.here,.nil,Nat.zero_le _,λ t h=>absurd h List.not_mem_nil,λ j k _ h=>absurd h (Nat.not_lt_zero _)⟩ ?_ ?_
 ·rintro i σ H3 hi ⟨kk,jj,xs,Ps,rfl,s3,h3,p3,l3,in3,all3⟩
  have ei:(0 + (i:Int)) = ((i:Nat):Int):=by omega
  rw [ei]
  refine ⟨_,rfl,_,rfl,by omega,by omega,?_⟩
  rw [Int.toNat_natCast]
  refine a1R (n:=i) (λ m σ H'=>∃ (jj:Option V) (xs:List V) (Ps:List ζζ),σ = [some (.ref a),some (.int n),some (.ref rt),some (.ref pl),some (.int (i:Int)),jj,none,none,none]/\Same H1 H'/\H' pl = some (.lst xs)/\Paired (TieL H') xs Ps/\Ps.length <= 4 * i + m/\(∀ t ∈ Ps,VkP os (i + 1) t.1/\VkP os (i + 1) t.2/\t.1 ≠ t.2)/\(∀ j k,j < k->k < i->(((os.getD j 0:Nat):Int),((os.getD k 0:Nat):Int)) ∈ Ps)/\∀ j,j < m->(((os.getD j 0:Nat):Int),((os.getD i 0:Nat):Int)) ∈ Ps)
   ⟨jj,xs,Ps,rfl,s3,h3,p3,by omega,λ t ht=>⟨(in3 t ht).1.mono (Nat.le_succ _),(in3 t ht).2.1.mono (Nat.le_succ _),(in3 t ht).2.2⟩,all3,λ j h=>absurd h (Nat.not_lt_zero _)⟩ ?_ ?_
  ·rintro m σ H4 hm ⟨jj,xs,Ps,rfl,s4,h4,p4,l4,in4,all4,row4⟩
   have em:(0 + (m:Int)) = ((m:Nat):Int):=by omega
   rw [em]
   have lx:=Paired.length p4
   refine ⟨_,rfl,.inl ⟨rfl,_,SqL.of h4⟩,_,rfl,_,rfl,rt,_,_,_,rfl,rfl,ix s4,at_ m (by omega),_,rfl,_,rfl,rt,_,_,_,rfl,rfl,ix s4,at_ i (by omega),(by show 2 <= 1000; decide),λ p5 H5 n5=>?_⟩
   refine ⟨pl,_,_,rfl,rfl,n5.same _ _ h4,by omega,λ H6 c6=>?_⟩
   refine ⟨_,xs ++ [.ref p5],Ps ++ [(((os.getD m 0:Nat):Int),((os.getD i 0:Nat):Int))],rfl,(s4.trans n5.same).chg fpl c6,c6.here,?_,?_,λ t ht=>?_,λ j k h1 h2=>List.mem_append_left _ (all4 j k h1 h2),λ j hj=>?_⟩
   ·refine a0R (Paired.mapP p4 λ v t q=>(TieL.same n5.same q).chg (n5.same _ _ h4) c6) ?_
    exact TieL.chg (n5.same _ _ h4) c6 ⟨p5,rfl,n5.here⟩
   ·rw [List.length_append]; show _ + 1 <= _; omega
   ·rcases List.mem_append.mp ht with c | c
    ·exact in4 t c
    ·rw [List.mem_singleton.mp c]
     exact ⟨⟨m,by omega,rfl⟩,⟨i,by omega,rfl⟩,onI (by omega) (by omega) (by omega)⟩
   ·rcases Nat.lt_or_ge j m with c | c
    ·exact List.mem_append_left _ (row4 j c)
    ·obtain rfl:j = m:=by omega
     exact List.mem_append_right _ (List.mem_singleton.mpr rfl)
  ·rintro σ H4 ⟨jj,xs,Ps,rfl,s4,h4,p4,l4,in4,all4,row4⟩
   refine ⟨_,_,xs,Ps,rfl,s4,h4,p4,by omega,in4,λ j k h1 h2=>?_⟩
   rcases Nat.lt_or_ge k i with c | c
   ·exact all4 j k h1 c
   ·obtain rfl:k = i:=by omega
    exact row4 j h1
 rintro σ H3 ⟨kk,jj,xs,Ps,rfl,s3,h3,p3,l3,in3,all3⟩
 have I3:PrI os 4 Ps:=⟨in3,c1E (λ i j hi hj ne=>one (by omega) (by omega) ne) all3⟩
 refine ⟨_,rfl,_,_,rfl,⟨by omega,by omega,by omega,by omega⟩,?_⟩
 obtain ⟨m,hm,mn⟩:∃ m:Nat,((n:Int) - 4).toNat = m/\m + 4 = n:=⟨n - 4,by omega,by omega⟩
 rw [hm]
 refine a1R (lo:=4) (n:=m) (λ i σ H'=>∃ (pl:Addr) (kk jj cc:Option V) (xs:List V) (Ps:List ζζ),σ = [some (.ref a),some (.int n),some (.ref rt),some (.ref pl),kk,jj,cc,none,none]/\Same H1 H'/\H1 pl = none/\H' pl = some (.lst xs)/\Paired (TieL H') xs Ps/\Ps.length <= 16 + 3 * i/\0 < Ps.length/\PrI os (4 + i) Ps)
  ⟨pl,_,_,_,xs,Ps,rfl,s3,fpl,h3,p3,by omega,List.length_pos_of_mem (all3 0 1 (by omega) (by omega)),I3⟩ ?_ ?_
 ·rintro i σ H4 hi ⟨pl,kk,jj,cc,xs,Ps,rfl,s4,fpl,h4,p4,l4,l0,I4⟩
  have lx:=Paired.length p4
  have ei:(4:Int) + (i:Int) = ((4 + i:Nat):Int):=by omega
  rw [ei]
  generalize hk:4 + i = k at I4
  have kn:k < n:=by omega
  have sH:=hS.same (n1.same.trans s4)
  refine ⟨_,rfl,_,rfl,_,_,rfl,rfl,a,ns,_,rfl,sH,h63,by omega,by omega,λ y1=>?_⟩
  have y0:=Int.emod_nonneg y1 (show (1000003:Int) ≠ 0 by decide)
  refine ⟨_,_,rfl,rfl,(show (0:Int) < _ by decide),?_⟩
  dsimp only
  generalize y1 % 1000003 = y at y0
  refine ⟨_,rfl,_,_,rfl,rfl,(show (0:Int) < _ by decide),rfl,_,rfl,ite2 (λ c=>?_) (λ c=>?_)⟩
  ·have z0:=Int.emod_nonneg (y / 3) (show (Ps.length:Int) ≠ 0 by omega)
   have z1:=Int.emod_lt_of_pos (y / 3) (show (0:Int) < (Ps.length:Int) by omega)
   obtain ⟨z,hz⟩:∃ z:Nat,y / 3 % (Ps.length:Int) = (z:Int):=⟨(y / 3 % (Ps.length:Int)).toNat,by omega⟩
   obtain ⟨t,ht⟩:∃ t,Ps[z]? = some t:=⟨_,List.getElem?_eq_getElem (by omega)⟩
   refine ⟨_,rfl,_,rfl,_,_,rfl,rfl,⟨by decide,by decide⟩,_,rfl,pl,_,rfl,.inl (SqL.of h4),_,_,rfl,rfl,(show (0:Int) < _ by rw [lx]; omega),_,rfl,_,rfl,rt,_,_,_,rfl,rfl,ix s4,at_ k kn,pl,z,_,xs,Ps,t,(by rw [lx]; show [V.ref pl,V.int (y / 3 % (Ps.length:Int)),V.int ((os.getD k 0:Nat):Int)] = _; rw [hz]),h4,p4,ht,by omega,λ r ys H5 s5 f5 h5 p5=>?_⟩
   refine ⟨r,_,_,_,ys,_,rfl,s4.trans s5,s4.free f5,h5,p5,?_,?_,?_⟩
   ·rw [List.length_append,List.length_append,List.length_take,List.length_drop]
    show _ + 2 <= _
    omega
   ·rw [List.length_append]
    show 0 < _ + 2
    omega
   ·rw [show 4 + (i + 1) = k + 1 by omega]
    exact I4.amid ht λ i hi=>one (by omega) kn (by omega)
  ·have w0:=Int.emod_nonneg (y / 3) (show (3:Int) ≠ 0 by decide)
   have w1:=Int.emod_lt_of_pos (y / 3) (show (0:Int) < 3 by decide)
   obtain ⟨z,hz,z3⟩:∃ z:Nat,1 + y / 3 % 3 = (z:Int)/\z <= 3:=⟨(1 + y / 3 % 3).toNat,by omega,by omega⟩
   refine ⟨_,rfl,_,_,rfl,rfl,⟨by decide,by decide⟩,_,_,rfl,rfl,(show (0:Int) < 3 by decide),_,_,rfl,rfl,(z:Int),congrArg (λ x=>[V.int x]) hz,by omega,by omega,?_⟩
   rw [Int.toNat_natCast]
   refine a1R (n:=z) (λ j σ H'=>∃ (jj:Option V) (xs:List V) (Ps:List ζζ),σ = [some (.ref a),some (.int n),some (.ref rt),some (.ref pl),some (.int (k:Int)),jj,some (.int y),none,none]/\Same H1 H'/\H' pl = some (.lst xs)/\Paired (TieL H') xs Ps/\Ps.length <= 16 + 3 * i + j/\0 < Ps.length/\PrI os (k + 1) Ps)
    ⟨_,xs,Ps,rfl,s4,h4,p4,by omega,l0,by have:=I4.put (m:=k + 1) (Qs:=[]) (Nat.le_succ _) (λ t h=>absurd h List.not_mem_nil); rwa [List.append_nil] at this⟩ ?_ ?_
   ·rintro j σ H5 hj ⟨jj,xs,Ps,rfl,s5,h5,p5,l5,l05,I5⟩
    have ej:(0 + (j:Int)) = ((j:Nat):Int):=by omega
    rw [ej]
    have lx:=Paired.length p5
    have u0:=Int.emod_nonneg (y / 9 + (j:Int)) (show (k:Int) ≠ 0 by omega)
    have u1:=Int.emod_lt_of_pos (y / 9 + (j:Int)) (show (0:Int) < (k:Int) by omega)
    obtain ⟨u,hu⟩:∃ u:Nat,(y / 9 + (j:Int)) % (k:Int) = (u:Int):=⟨((y / 9 + (j:Int)) % (k:Int)).toNat,by omega⟩
    refine ⟨_,rfl,.inl ⟨rfl,_,SqL.of h5⟩,_,rfl,_,rfl,rt,_,_,_,rfl,rfl,ix s5,at_ k kn,_,rfl,_,rfl,_,_,rfl,rfl,⟨by decide,by decide⟩,_,rfl,_,_,rfl,rfl,_,rfl,_,_,rfl,rfl,(show (0:Int) < (k:Int) by omega),rt,_,_,_,rfl,rfl,ix s5,(show atI (natV os) ((y / 9 + (j:Int)) % (k:Int)) = _ by rw [hu]; exact at_ u (by omega)),(by show 2 <= 1000; decide),λ p6 H6 n6=>?_⟩
    refine ⟨pl,_,_,rfl,rfl,n6.same _ _ h5,by omega,λ H7 c7=>?_⟩
    refine ⟨_,xs ++ [.ref p6],Ps ++ [(((os.getD k 0:Nat):Int),((os.getD u 0:Nat):Int))],rfl,(s5.trans n6.same).chg fpl c7,c7.here,?_,?_,?_,?_⟩
    ·refine a0R (Paired.mapP p5 λ v t q=>(TieL.same n6.same q).chg (n6.same _ _ h5) c7) ?_
     exact TieL.chg (n6.same _ _ h5) c7 ⟨p6,rfl,n6.here⟩
    ·rw [List.length_append]; show _ + 1 <= _; omega
    ·rw [List.length_append]; show 0 < _ + 1; omega
    ·refine I5.put (Nat.le_refl _) λ t ht=>?_
     rw [List.mem_singleton.mp ht]
     exact ⟨⟨k,by omega,rfl⟩,⟨u,by omega,rfl⟩,onI kn (by omega) (by omega)⟩
   ·rintro σ H5 ⟨jj,xs,Ps,rfl,s5,h5,p5,l5,l05,I5⟩
    refine ⟨pl,_,_,_,xs,Ps,rfl,s5,fpl,h5,p5,by omega,l05,?_⟩
    rw [show 4 + (i + 1) = k + 1 by omega]
    exact I5
 rintro σ H4 ⟨pl,kk,jj,cc,xs,Ps,rfl,s4,fpl,h4,p4,l4,l0,I4⟩
 rw [show 4 + m = n by omega] at I4
 have sH:=hS.same (n1.same.trans s4)
 refine ⟨_,rfl,a,ns,1,rfl,sH,h63,by decide,by decide,λ y=>?_⟩
 have y0:=Int.emod_nonneg y (show (4:Int) ≠ 0 by decide)
 have y1:=Int.emod_lt_of_pos y (show (0:Int) < 4 by decide)
 obtain ⟨m5,hm5,m5l⟩:∃ m5:Nat,y % 4 = (m5:Int)/\m5 < 4:=⟨(y % 4).toNat,by omega,by omega⟩
 refine ⟨_,_,rfl,rfl,(show (0:Int) < 4 by decide),(m5:Int),congrArg (λ x=>[V.int x]) hm5,by omega,by omega,?_⟩
 rw [Int.toNat_natCast]
 have vall:∀ x:Int,0 <= x->x < (n:Int)->VkP os n x:=λ x x0 x1=>by
  have hm:x.toNat ∈ os:=po.mem_iff.mpr (List.mem_range.mpr (by omega))
  obtain ⟨i,hi,e⟩:=List.getElem_of_mem hm
  refine ⟨i,by omega,?_⟩
  rw [τα,List.getElem?_eq_getElem hi,e]
  show x = ((x.toNat:Nat):Int)
  omega
 refine a1R (n:=m5) (λ i σ H'=>∃ (kk jj cc oo tt:Option V) (xs:List V) (Ps:List ζζ),σ = [some (.ref a),some (.int n),some (.ref rt),some (.ref pl),kk,jj,cc,oo,tt]/\Same H1 H'/\H' pl = some (.lst xs)/\Paired (TieL H') xs Ps/\Ps.length <= 40 + i/\PrI os n Ps)
  ⟨_,_,_,_,_,xs,Ps,rfl,s4,h4,p4,by omega,I4⟩ ?_ ?_
 ·rintro i σ H5 hi ⟨kk,jj,cc,oo,tt,xs,Ps,rfl,s5,h5,p5,l5,I5⟩
  have ei:(0:Int) + (i:Int) = (i:Int):=by omega
  rw [ei]
  have lx:=Paired.length p5
  have sH:=hS.same (n1.same.trans s5)
  refine ⟨_,rfl,_,rfl,_,_,rfl,rfl,a,ns,_,rfl,sH,h63,by omega,by omega,λ u1=>?_⟩
  have a0:=Int.emod_nonneg u1 (show (n:Int) ≠ 0 by omega)
  have a1:=Int.emod_lt_of_pos u1 (show (0:Int) < (n:Int) by omega)
  refine ⟨_,rfl,_,_,rfl,rfl,(show (0:Int) < (n:Int) by omega),?_⟩
  dsimp only
  refine ⟨_,rfl,_,rfl,_,_,rfl,rfl,a,ns,_,rfl,sH,h63,by omega,by omega,λ u2=>?_⟩
  have b0:=Int.emod_nonneg u2 (show (n:Int) ≠ 0 by omega)
  have b1:=Int.emod_lt_of_pos u2 (show (0:Int) < (n:Int) by omega)
  refine ⟨_,rfl,_,_,rfl,rfl,(show (0:Int) < (n:Int) by omega),?_⟩
  dsimp only
  generalize u1 % (n:Int) = x1 at a0 a1 ⊢
  generalize u2 % (n:Int) = x2 at b0 b1 ⊢
  refine ⟨_,rfl,_,rfl,rfl,_,rfl,?_⟩
  refine ite2 (λ c=>?_) (λ c=>⟨_,_,_,_,_,xs,Ps,rfl,s5,h5,p5,by omega,I5⟩)
  have c':x1 ≠ x2:=λ z=>by
   rw [z] at c
   simp at c
  refine ⟨_,rfl,.inl ⟨rfl,_,SqL.of h5⟩,_,rfl,_,rfl,(by show 2 <= 1000; decide),λ p6 H6 n6=>?_⟩
  refine ⟨pl,_,_,rfl,rfl,n6.same _ _ h5,by omega,λ H7 c7=>?_⟩
  refine ⟨_,_,_,_,_,xs ++ [.ref p6],Ps ++ [(x1,x2)],rfl,(s5.trans n6.same).chg fpl c7,c7.here,?_,?_,?_⟩
  ·refine a0R (Paired.mapP p5 λ v t q=>(TieL.same n6.same q).chg (n6.same _ _ h5) c7) ?_
   exact TieL.chg (n6.same _ _ h5) c7 ⟨p6,rfl,n6.here⟩
  ·rw [List.length_append]; show _ + 1 <= _; omega
  ·refine I5.put (Nat.le_refl _) λ t ht=>?_
   rw [List.mem_singleton.mp ht]
   exact ⟨vall x1 a0 a1,vall x2 b0 b1,c'⟩
 rintro σ H5 ⟨kk,jj,cc,oo,tt,xs,Ps,rfl,s5,h5,p5,l5,I5⟩
 have lx:=Paired.length p5
 refine ⟨_,rfl,pl,rfl,⟨_,SqL.of h5⟩,?_⟩
 refine a4G (K:=K) (a:=pl) (xs:=xs) (λ i ys G=>ys.length = i/\Same H5 G/\Paired (TieL G) ys ((Ps.take i).map srtT)) ⟨rfl,Same.refl _,.nil⟩ (λ i ys G hi ⟨e1,e2,_⟩=>⟨SqL.of (e2 _ _ h5),Nat.le_of_lt (a0V (by omega))⟩) (λ i x ys H6 hx ⟨l6,s6,p6⟩=>?_) ?_
 ·obtain ⟨t,ht,b,rfl,hb⟩:=paired_get p5 hx
  have hb6:=s6 _ _ hb
  refine ⟨b,_,rfl,SqT.of hb6,rfl,_,_,rfl,_,_,rfl,rfl,?_⟩
  unfold c8Y
  dsimp only
  rw [if_pos rfl]
  refine ⟨_,rfl,_,rfl,_,_,rfl,_,rfl,_,rfl,_,_,rfl,(by show 2 <= 1000; decide),λ p7 H7 n7=>?_⟩
  refine ⟨by rw [List.length_append,l6]; rfl,s6.trans n7.same,?_⟩
  obtain ⟨it,et⟩:=List.getElem?_eq_some_iff.mp ht
  rw [List.take_succ_eq_append_getElem it,et,List.map_append]
  refine a0R (Paired.mapP p6 λ v t q=>q.same n7.same) ?_
  exact ⟨p7,rfl,n7.here⟩
 intro ys H6 ⟨l6,s6,p6⟩ pz hpz
 rw [lx,List.take_length] at p6
 have n7:=New.mk0 (o:=.lst ys) hpz
 generalize upd H6 pz (.lst ys) = H7 at n7
 have okp:∀ t ∈ Ps.map srtT,0 <= t.1/\t.1 < t.2/\t.2 < (n:Int):=λ t ht=>by
  obtain ⟨u,hu,rfl⟩:=List.mem_map.mp ht
  obtain ⟨⟨i,hi,e1⟩,⟨j,hj,e2⟩,ne⟩:=I5.inn u hu
  have o1:=olt i hi
  have o2:=olt j hj
  unfold srtT
  dsimp only
  by_cases c:u.2 < u.1
  ·rw [if_pos c,if_neg (by omega)]; omega
  ·rw [if_neg c,if_pos (by omega)]; omega
 have s07:Same H H7:=n1.same.trans (s5.trans (s6.trans n7.same))
 refine ⟨pz,ys,Ps.map srtT,rfl,SqL.of n7.here,Paired.mapP p6 λ v t q=>q.same n7.same,λ t ht=>by have:=okp t ht; omega,λ pS L H9 n9 at9 nd9 mem9 few9=>?_⟩
 refine ⟨pS,L,rfl,n9.here,λ x hx=>n9.same _ _ (at9 x hx),by omega,λ us vs pr H10 pm pw tl n10'=>?_⟩
 have mem:∀ t,t ∈ us ↔ t ∈ Ps.map srtT:=λ t=>by rw [pm.mem_iff,mem9]
 exact q pr vs us H10 (s07.trans (n9.same.trans n10'.same)) (s07.free (n9.same.free n10'.fresh)) n10'.here (Paired.mapP tl λ v t q=>q.same n10'.same) (λ t ht=>okp t ((mem t).mp ht)) (pm.nodup_iff.mpr nd9) (I5.not_fo olt mem) (by rw [pm.length_eq,List.length_map]; exact few9)
end
end K
namespace K
open PySem L2 Lw Bg
theorem c3Y {n:Nat} {ts:List ζζ} (ok:∀ t ∈ ts,0 <= t.1/\t.1 < t.2/\t.2 < (n:Int)):Fo (a5O n []) (RnP n ts []) ↔ FoG n ts:=by
 have rn:∀ x y:Nat,RnP n ts [] x y ↔ (x < n/\y < n)/\(y = x\/Adj ts (x:Int) (y:Int)):=λ x y=>by
  unfold RnP Adj
  show a2X n ts x y = true ↔ _
  unfold a2X
  simp [or_assoc]
 constructor
 ·intro h
  refine h.map (λ x:Int=>x.toNat) (λ x hx=>⟨by omega,List.not_mem_nil⟩) (λ x y hx hy e=>by omega) λ x y hx hy ne e=>(rn _ _).mpr ⟨⟨by omega,by omega⟩,.inr ?_⟩
  rw [show ((x.toNat:Nat):Int) = x by omega,show ((y.toNat:Nat):Int) = y by omega]
  exact e
 ·intro h
  refine h.map (λ x:Nat=>(x:Int)) (λ x hx=>by have:=hx.1; omega) (λ x y hx hy e=>by omega) λ x y hx hy ne e=>?_
  rcases ((rn x y).mp e).2 with h | h
  ·exact absurd h.symm ne
  ·exact h
theorem adj_tie {ts:List ζζ} {x y:Nat}:Adj ts (x:Int) (y:Int) ↔ tieT ts x y = true:=by
 unfold Adj tieT
 rw [Bool.or_eq_true,decide_eq_true_iff,decide_eq_true_iff]
theorem c7Z {n:Nat} {ts:List ζζ} (ok:∀ t ∈ ts,0 <= t.1/\t.1 < t.2/\t.2 < (n:Int)) (nd:ts.Nodup) (C:Core ts n []):FoG n ts:=by
 have key:∀ m (S:List Nat),S.length <= m->(∀ v ∈ S,v < n)->Fo (λ x:Int=>∃ u ∈ S,x = (u:Int)) (Adj ts):=λ m=>by
  induction m with
  | zero =>
   intro S l _
   refine .nil λ x hx=>?_
   obtain ⟨u,hu,_⟩:=hx
   have z:S = []:=List.length_eq_zero_iff.mp (by omega)
   rw [z] at hu
   cases hu
  | succ m ih =>
   intro S l lt
   by_cases e:S = []
   ·exact .nil λ x ⟨u,hu,_⟩=>by rw [e] at hu; cases hu
   ·obtain ⟨v,hv,lo⟩:∃ v ∈ S,a1I ts S v = true:=by
     refine Classical.byContradiction λ no=>?_
     obtain ⟨w,hw⟩:=List.exists_mem_of_ne_nil S e
     have:=C.all S (λ v hv=>⟨lt v hv,by
      cases z:a1I ts S v with
      | false=>rfl
      | true=>exact absurd ⟨v,hv,z⟩ no⟩) w hw
     cases this
    have one:=(a5C ok nd S v).mp lo
    have ih':=ih (S.filter λ x=>!decide (x = v)) (by
     have:(S.filter λ x=>!decide (x = v)).length < S.length:=by
      refine Nat.lt_of_le_of_ne (List.length_filter_le _ _) λ z=>?_
      have:=List.length_filter_eq_length_iff.mp z v hv
      simp at this
     omega) (λ x hx=>lt x (List.mem_filter.mp hx).1)
    refine .step (v:Int) ⟨v,hv,rfl⟩ (λ U ndU hU=>?_) (ih'.sub (λ x ⟨⟨u,hu,e⟩,ne⟩=>⟨u,List.mem_filter.mpr ⟨hu,by
     have:u ≠ v:=λ z=>ne (by rw [e,z])
     simp [this]⟩,e⟩) λ x y ⟨⟨u,hu,ex⟩,nx⟩ ⟨⟨w,hw,ey⟩,ny⟩ ne r=>?_)
    ·match U,ndU,hU with
     | [],_,_=>exact Nat.zero_le _
     | [x],_,_=>exact Nat.le_succ _
     | x :: y :: r,nd2,hU =>
      obtain ⟨⟨a,ha,ea⟩,_,ra⟩:=hU x List.mem_cons_self
      obtain ⟨⟨b,hb,eb⟩,_,rb⟩:=hU y (List.mem_cons_of_mem _ List.mem_cons_self)
      rw [ea] at ra
      rw [eb] at rb
      have:=one a ha b hb (adj_tie.mp ra) (adj_tie.mp rb)
      have nn:=(List.nodup_cons.mp nd2).1
      exact absurd (by rw [ea,eb,this]; exact List.mem_cons_self) nn
    ·rcases r with r | ⟨r1,r2⟩
     ·exact r
     ·rw [ex] at r1
      rw [ey] at r2
      have:=one u hu w hw (adj_tie.mp r1.symm) (adj_tie.mp r2)
      exact absurd (by rw [ex,ey,this]) ne
 refine (key n (List.range n) (by rw [List.length_range]; exact Nat.le_refl _) λ v hv=>List.mem_range.mp hv).sub (λ x hx=>⟨x.toNat,List.mem_range.mpr (by omega),by omega⟩) λ _ _ _ _ _ e=>e
theorem c1G {n:Nat} {ts:List ζζ} (ok:∀ t ∈ ts,0 <= t.1/\t.1 < t.2/\t.2 < (n:Int)) (nd:ts.Nodup) (nf:¬ FoG n ts):∀ lf,Core ts n lf->lf ≠ []:=λ lf C e=>nf (c7Z ok nd (by rw [<- e]; exact C))
theorem c1H {n:Nat} {ts:List ζζ} {S:List Nat} (st:∀ v < n,v ∉ S->3 <= (a1K n (runR n ts S) v).length) (R:FoldRun n ts S) (ne:a5N n S ≠ []):4 <= (a5N n S).length:=by
 obtain ⟨v,hv⟩:=List.exists_mem_of_ne_nil _ ne
 obtain ⟨h1,h2⟩:=List.mem_filter.mp hv
 have vn:=List.mem_range.mp h1
 have vS:v ∉ S:=by simpa using h2
 have l3:=st v vn vS
 have ndl:(a1K n (runR n ts S) v).Nodup:=by
  unfold a1K
  exact List.nodup_range.sublist List.filter_sublist
 have:=pigN (l:=v :: a1K n (runR n ts S) v) (U:=a5N n S) (List.nodup_cons.mpr ⟨λ z=>?_,ndl⟩) λ x hx=>?_
 ·rw [List.length_cons] at this
  omega
 ·unfold a1K at z
  have:=(List.mem_filter.mp z).2
  simp at this
 ·rcases List.mem_cons.mp hx with rfl | hx
  ·exact hv
  ·unfold a1K at hx
   obtain ⟨x1,x2⟩:=List.mem_filter.mp hx
   have x2':runR n ts S v x = true:=by
    rw [Bool.and_eq_true] at x2
    exact x2.1
   refine List.mem_filter.mpr ⟨x1,?_⟩
   by_cases c:x ∈ S
   ·have:=a6M (n:=n) (ts:=ts) S.length S rfl x c v
    rw [a6N S.length S rfl v x x2'] at this
    cases this
   ·simp [c]
theorem c3Z {ts:List ζζ} {rs:List Row} {p:List Int} (cov:∀ x y:Nat,Adj ts (x:Int) (y:Int)->∃ r ∈ rs,(x:Int) ∈ r.2/\(y:Int) ∈ r.2) (pl:∀ v ∈ p,0 <= v/\∃ r ∈ rs,v ∈ r.2) (ne:p ≠ []) (jn:Jn ts p):∃ S,(∀ v:Nat,v ∈ p.map Int.toNat ↔ v ∈ S)/\GPart rs S:=by
 obtain ⟨x0,hx⟩:=List.exists_mem_of_ne_nil p ne
 have x0n:=(pl x0 hx).1
 have way:=jn (λ b=>∀ S,GPart rs S->x0.toNat ∈ S->(∀ v ∈ S,((v:Nat):Int) ∈ p)->∃ S',GPart rs S'/\(∀ v ∈ S,v ∈ S')/\(∀ v ∈ S',((v:Nat):Int) ∈ p)/\b.toNat ∈ S') ⟨x0,hx,λ S g h0 hS=>⟨S,g,λ v hv=>hv,hS,h0⟩⟩ λ a b ha hb ad ih S g h0 hS=>by
  obtain ⟨S',g',sub,inp,ma⟩:=ih S g h0 hS
  have a0:=(pl a ha).1
  have b0:=(pl b hb).1
  refine ⟨S' ++ [b.toNat],.more S' a.toNat b.toNat g' ma (cov _ _ ?_),λ v hv=>List.mem_append_left _ (sub v hv),λ v hv=>?_,List.mem_append_right _ (List.mem_singleton.mpr rfl)⟩
  ·rw [show ((a.toNat:Nat):Int) = a by omega,show ((b.toNat:Nat):Int) = b by omega]
   exact ad
  ·rcases List.mem_append.mp hv with c | c
   ·exact inp v c
   ·rw [List.mem_singleton.mp c,show ((b.toNat:Nat):Int) = b by omega]
    exact hb
 have all:∀ L:List Int,(∀ v ∈ L,v ∈ p)->∃ S,GPart rs S/\x0.toNat ∈ S/\(∀ v ∈ S,((v:Nat):Int) ∈ p)/\∀ v ∈ L,v.toNat ∈ S:=λ L=>by
  induction L with
  | nil =>
   intro _
   refine ⟨[x0.toNat],.one _ ?_,List.mem_singleton.mpr rfl,λ v hv=>?_,λ v hv=>absurd hv List.not_mem_nil⟩
   ·rw [show ((x0.toNat:Nat):Int) = x0 by omega]
    exact (pl x0 hx).2
   ·rw [List.mem_singleton.mp hv,show ((x0.toNat:Nat):Int) = x0 by omega]
    exact hx
  | cons b r ih =>
   intro h
   obtain ⟨S,g,h0,hS,hr⟩:=ih λ v hv=>h v (List.mem_cons_of_mem _ hv)
   obtain ⟨S',g',sub,inp,mb⟩:=way b (h b List.mem_cons_self) S g h0 hS
   refine ⟨S',g',sub _ h0,inp,λ v hv=>?_⟩
   rcases List.mem_cons.mp hv with rfl | hv
   ·exact mb
   ·exact sub _ (hr v hv)
 obtain ⟨S,g,_,hS,hL⟩:=all p λ v hv=>hv
 refine ⟨S,λ v=>⟨λ h=>?_,λ h=>List.mem_map.mpr ⟨_,hS v h,by omega⟩⟩,g⟩
 obtain ⟨x,hx,rfl⟩:=List.mem_map.mp h
 exact hL x hx
theorem c1I {n:Nat} {ts:List ζζ} {rs:List Row} {F:List (List Int)} (T:TreeP n rs) (ok:∀ t ∈ ts,0 <= t.1/\t.1 < t.2/\t.2 < (n:Int)) (tt:∀ t ∈ ts,∃ r ∈ rs,t.1 ∈ r.2/\t.2 ∈ r.2) (G:Prt n ts F) (tr:∀ p ∈ F,∀ q ∈ F,p ≠ q->TR ts p q):∃ j,j < rs.length/\a7K (a1L rs j) F = true:=by
 have cov:∀ x y:Nat,Adj ts (x:Int) (y:Int)->∃ r ∈ rs,(x:Int) ∈ r.2/\(y:Int) ∈ r.2:=λ x y e=>by
  rcases e with e | e
  ·exact tt _ e
  ·obtain ⟨r,hr,h1,h2⟩:=tt _ e
   exact ⟨r,hr,h2,h1⟩
 have pl:∀ p ∈ F,∀ v ∈ p,0 <= v/\∃ r ∈ rs,v ∈ r.2:=λ p hp v hv=>by
  have:=G.lt p hp v hv
  exact ⟨this.1,T.cov v this.1 this.2⟩
 obtain ⟨j,jl,all⟩:=d2D T (ps:=F.map λ p=>p.map Int.toNat) (λ S hS=>by
  obtain ⟨p,hp,rfl⟩:=List.mem_map.mp hS
  exact c3Z cov (pl p hp) (G.ne p hp) (G.jn p hp)) (λ S hS S' hS'=>by
  obtain ⟨p,hp,rfl⟩:=List.mem_map.mp hS
  obtain ⟨q,hq,rfl⟩:=List.mem_map.mp hS'
  have up:∀ {p:List Int} {v:Int} {r:Row},p ∈ F->v ∈ p->v ∈ r.2->∃ u ∈ p.map Int.toNat,((u:Nat):Int) ∈ r.2:=λ {p v r} hp hv hr=>by
   refine ⟨v.toNat,List.mem_map.mpr ⟨v,hv,rfl⟩,?_⟩
   have:=(G.lt p hp v hv).1
   rw [show ((v.toNat:Nat):Int) = v by omega]
   exact hr
  by_cases c:p = q
  ·subst c
   obtain ⟨v,hv⟩:=List.exists_mem_of_ne_nil p (G.ne p hp)
   obtain ⟨r,hr,m⟩:=(pl p hp v hv).2
   exact ⟨r,hr,up hp hv m,up hp hv m⟩
  ·obtain ⟨a,ha,b,hb,e⟩:=tr p hp q hq c
   rcases e with e | e
   ·obtain ⟨r,hr,m⟩:=(pl p hp a ha).2
    exact ⟨r,hr,up hp ha m,up hq hb (by rw [<- e]; exact m)⟩
   ·have a0:=(pl p hp a ha).1
    have b0:=(pl q hq b hb).1
    obtain ⟨r,hr,h1,h2⟩:=cov a.toNat b.toNat (by rw [show ((a.toNat:Nat):Int) = a by omega,show ((b.toNat:Nat):Int) = b by omega]; exact e)
    rw [show ((a.toNat:Nat):Int) = a by omega] at h1
    rw [show ((b.toNat:Nat):Int) = b by omega] at h2
    exact ⟨r,hr,up hp ha h1,up hq hb h2⟩)
 refine ⟨j,jl,List.all_eq_true.mpr λ p hp=>(a9U _ _).mpr ?_⟩
 obtain ⟨v,hv,m⟩:=all _ (List.mem_map.mpr ⟨p,hp,rfl⟩)
 obtain ⟨x,hx,rfl⟩:=List.mem_map.mp hv
 have:=(G.lt p hp x hx).1
 rw [show ((x.toNat:Nat):Int) = x by omega] at m
 exact ⟨x,m,hx⟩
theorem c1J {r:Row}:∀ {F:List (List Int)},(F.Pairwise λ p q=>∀ v ∈ p,v ∉ q)->(∀ p ∈ F,∃ v,v ∈ r.2/\v ∈ p)->∃ l:List Int,l.length = F.length/\l.Nodup/\(∀ x ∈ l,x ∈ r.2)/\∀ x ∈ l,∃ p ∈ F,x ∈ p
 | [],_,_=>⟨[],rfl,.nil,λ x h=>absurd h List.not_mem_nil,λ x h=>absurd h List.not_mem_nil⟩
 | p :: F,pw,h=>by
  obtain ⟨l,e,nd,inn,of⟩:=c1J (List.pairwise_cons.mp pw).2 λ q hq=>h q (List.mem_cons_of_mem _ hq)
  obtain ⟨v,hv,vp⟩:=h p List.mem_cons_self
  refine ⟨v :: l,by rw [List.length_cons,List.length_cons,e],List.nodup_cons.mpr ⟨λ z=>?_,nd⟩,λ x hx=>?_,λ x hx=>?_⟩
  ·obtain ⟨q,hq,vq⟩:=of v z
   exact (List.pairwise_cons.mp pw).1 q hq v vp vq
  ·rcases List.mem_cons.mp hx with rfl | hx
   ·exact hv
   ·exact inn x hx
  ·rcases List.mem_cons.mp hx with rfl | hx
   ·exact ⟨p,List.mem_cons_self,vp⟩
   ·obtain ⟨q,hq,xq⟩:=of x hx
    exact ⟨q,List.mem_cons_of_mem _ hq,xq⟩
theorem c4A {r:Row} {F:List (List Int)} (dj:F.Pairwise λ p q=>∀ v ∈ p,v ∉ q) (l4:F.length = 4) (m:a7K r F = true):4 <= r.2.length:=by
 obtain ⟨l,e,nd,inn,_⟩:=c1J dj λ p hp=>(a9U _ _).mp (List.all_eq_true.mp m p hp)
 have:=pigN nd inn
 omega
theorem c4Z:∀ {l:List Int},l ≠ []->∃ M ∈ l,∀ x ∈ l,x <= M
 | [],h=>absurd rfl h
 | [a],_=>⟨a,List.mem_singleton.mpr rfl,λ x hx=>by rw [List.mem_singleton.mp hx]; exact Int.le_refl _⟩
 | a :: b :: r,_=>by
  obtain ⟨M,hM,all⟩:=c4Z (l:=b :: r) (by simp)
  by_cases c:a <= M
  ·refine ⟨M,List.mem_cons_of_mem _ hM,λ x hx=>?_⟩
   rcases List.mem_cons.mp hx with rfl | hx
   ·exact c
   ·exact all x hx
  ·refine ⟨a,List.mem_cons_self,λ x hx=>?_⟩
   rcases List.mem_cons.mp hx with rfl | hx
   ·exact Int.le_refl _
   ·have:=all x hx
    omega
theorem c1K {n:Nat} {ts:List ζζ} {p:List Int} {ls:List Nat} (e:p = a1D ls) (ne:p ≠ []) (jn:Jn ts p):c0Q ts ls:=by
 refine ⟨λ z=>ne (by rw [e,z]; rfl),λ x hx y hy=>?_⟩
 have xm:(x:Int) ∈ p:=by rw [e]; exact mem_natIp.mpr ⟨x,hx,rfl⟩
 have ym:(y:Int) ∈ p:=by rw [e]; exact mem_natIp.mpr ⟨y,hy,rfl⟩
 have:=jn (λ b=>x = b.toNat\/PathT ts ls x b.toNat) ⟨(x:Int),xm,.inl (by omega)⟩ (λ a b ha hb ad ih=>?_) (y:Int) ym
 ·rw [Int.toNat_natCast] at this
  exact this
 ·rw [e] at ha hb
  obtain ⟨u,hu,rfl⟩:=mem_natIp.mp ha
  obtain ⟨w,hw,rfl⟩:=mem_natIp.mp hb
  rw [Int.toNat_natCast] at ih ⊢
  refine .inr ?_
  rcases ih with rfl | ih
  ·exact .one (adj_tie.mp ad)
  ·exact .step ih hu (adj_tie.mp ad)
end K
namespace K
open PySem L2 Lw Bg
abbrev a3H:Stmt:=top 48
theorem sc__law_family:FnScope ["_law_web", "_law_found", "_law_k", "_law_j"] ["_law_web", "_law_found"] (a0E a3H):=⟨rfl,rfl,rfl,by decide +kernel,rfl,by decide +kernel,by decide +kernel⟩
theorem a9V {K:Φρ}:PySem.W.kitOne K (.type "list") (.type "list") = some true:=by rfl
def c8A (K:Φρ):Sp:=λ vs H Q _=>∃ (g:V) (n:Nat) (ts:List ζζ) (l:Addr) (xs:List V) (F:List (List Int)) (H0:Hp),vs = [g,.ref l]/\GraphV K H g n ts/\(∀ t ∈ ts,0 <= t.1/\t.1 < t.2/\t.2 < (n:Int))/\n <= 10/\ts.length <= 100/\H l = some (.lst xs)/\Paired (PtL H0 H) xs F/\Prt n ts F/\F.length = 4/\(∀ p ∈ F,∀ q ∈ F,p ≠ q->TR ts p q) /\
 ∀ H',Same H H'->Q (.bl true) H'
section
variable {P:Program} {w:World} {K:Φρ} {mg:Str->Option Value} {base:Heap}
abbrev DZ2 (K:PySem.W.Frag) (mg:Str->Option Value):=Dn K mg "_law_family" a3H ["_law_web", "_law_found"]
set_option maxHeartbeats 8000000 in
theorem a7U (B:Bl mg) (dZ16:DZ16 K mg) (dZ12:DZ12 K mg) (dZ6:DZ6 K mg) (dZ20:DZ20 K mg) (dZ17:DZ17 K mg) (dZ5:DZ5 K mg) (dZ30:DZ30 K mg) (dZ34:DZ34 K mg) (dZ26:DZ26 K mg) (dZ27:DZ27 K mg) (dZ14:DZ14 K mg) (dZ2:DZ2 K mg):FnOk P w K mg base CX0 8 dZ2.f dZ2.fd ["_law_web", "_law_found"] (c8A K):=by
 have gZ14:FnOk P w K mg base CX0 7 _ _ _ _:=b1W B dZ16 dZ12 dZ6 dZ17 dZ20 dZ5 dZ30 dZ26 dZ27 dZ14
 have gZ34:FnOk P w K mg base CX0 7 _ _ _ _:=(b4W B dZ16 dZ12 dZ6 dZ20 dZ17 dZ5 dZ30 dZ34).mono (by decide)
 refine dZ2.F.ok sc__law_family (λ vs H Q E h=>?_) (λ cdv A outer s H vs Q E hr h=>?_)
 ·obtain ⟨g,n,ts,l,xs,F,H0,rfl,_⟩:=h
  rfl
 obtain ⟨g,n,ts,l,xs,F,H0,rfl,hG,okt,n10,l100,hl,pp,G,l4,tr,q⟩:=h
 have hv:(A.deeper (PyProof.Rows.envOfC "_law_family" (a0E a3H) s.heap.objs.size dZ2.f cdv)).units + 65 < cLine:=by have:=hr.un; omega
 have lx:=Paired.length pp
 have at_:∀ k:Nat,k < 4->∃ (a:Addr) (p:List Int),atI xs (k:Int) = some (.ref a)/\H a = some (.lst (p.map V.int))/\F[k]? = some p:=λ k hk=>by
  obtain ⟨p,hp⟩:∃ p,F[k]? = some p:=⟨_,List.getElem?_eq_getElem (by omega)⟩
  obtain ⟨x,hx,a,rfl,ha,_⟩:=a2H pp hp
  exact ⟨a,p,a2M hx,ha,hp⟩
 have sh:∀ p ∈ F,p.length <= 10:=λ p hp=>by
  obtain ⟨ls,e,up⟩:=a9P (G.asc p hp) λ x hx=>(G.lt p hp x hx).1
  rw [e]
  unfold a1D
  rw [List.length_map]
  refine Nat.le_trans (a4X (m:=n) (up.imp λ h=>Nat.ne_of_lt h) λ x hx=>?_) n10
  have:=G.lt p hp (x:Int) (by rw [e]; exact mem_natIp.mpr ⟨x,hx,rfl⟩)
  omega
 refine ⟨_,(a0C (a2Y (PW.pt (a9X (a7W (a0W (K:=K) rfl (a0N (a3L (K:=K) rfl) rfl B.isinstance (by decide +kernel) (a0A (pv 1) (a0A (b2H (v:=.ty "list") (u:=.type "list") rfl B.list (by decide +kernel) rfl) a0B))) (λ _=>rfl))) (a7V (a0O c1P (a0N (a0T (K:=K) rfl) rfl B.len (by decide +kernel) (a0A (pv 1) a0B)) a0G (a1J _)))))
   (a0D (a0K a6P))
   a1O)
   (a0C (a1U PassesOwn.never rfl (a1E rfl B.range (a0A a0G a0B)) (a0H (i:=2) sc__law_family.nd rfl (Or.inr rfl))
   (a0C (a2Y (a0O b8Z (a0F gZ14 hr rfl dZ14.m dZ14.F.kp dZ14.b .nil a0M (a0A (pv 0) (a0A (a0U (a0I (K:=K) rfl) (pv 1) (pv 2) (λ _ _=>rfl)) a0B))) a6P (a1J _))
   (a0D (a0K a6P))
   a1O)
   (a0D (a1U PassesOwn.never rfl (a1E rfl B.range (a0A (pv 2) a0B)) (a0H (i:=3) sc__law_family.nd rfl (Or.inl rfl))
   (a0D (a2Y (PW.pt (a9X (a0O b8Z (a0F gZ34 hr rfl dZ34.m dZ34.F.kp dZ34.b .nil a0M (a0A (pv 0) (a0A (a0U (a0I (K:=K) rfl) (pv 1) (pv 3) (λ _ _=>rfl)) (a0A (a0U (a0I (K:=K) rfl) (pv 1) (pv 2) (λ _ _=>rfl)) a0B)))) a6P (a1J _)) (a7V (a0O d0R (a0N (a0T (K:=K) rfl) rfl B.len (by decide +kernel) (a0A (a3K ["_law_v", "_law_found", "_law_k"] [none,some 1,some 2]  (by kernel_rfl) rfl (a0P (K:=K) rfl (a0U (a0I (K:=K) rfl) (pv 1) (pv 3) (λ _ _=>rfl))) (λ _ _ _ _ _=>(a0H (i:=0) (show (["_law_v", "_law_found", "_law_k"]:List Str).Nodup by decide +kernel) rfl (Or.inl rfl))) (λ _ _ _ _ _=>(a2O (a0O (a6U (K:=K) rfl hv) (pv 0) (a0U (a0I (K:=K) rfl) (pv 1) (pv 2) (λ _ _=>rfl)) (by with_unfolding_all rfl)))) (λ _ _ _ _ _=>(pv 0))) a0B)) a0G (a1J _)))))
   (a0D (a0K a6P))
   a1O))))))
   (a0D (a0K a6P)))),?_⟩
 refine ⟨_,rfl,_,_,_,_,_,rfl,rfl,TyOf.lst hl,a9V,_,rfl,iteF ?_⟩
 refine ⟨_,rfl,l,_,rfl,.inl (SqL.of hl),rfl,_,rfl,?_⟩
 rw [lx,l4]
 refine iteF ?_
 refine ⟨4,rfl,by decide,by decide,?_⟩
 refine a1R (n:=4) (λ i σ H'=>(∃ kk jj:Option V,σ = [some g,some (.ref l),kk,jj])/\Same H H') ⟨⟨_,_,rfl⟩,Same.refl _⟩ ?_ ?_
 ·rintro k σ H1 hk ⟨⟨kk,jj,rfl⟩,s1⟩
  have ek:(0 + (k:Int)) = ((k:Nat):Int):=by omega
  rw [ek]
  obtain ⟨ak,pk,ek1,ek2,ek3⟩:=at_ k hk
  have mk:=List.mem_of_getElem? ek3
  obtain ⟨ls,el,up⟩:=a9P (G.asc pk mk) λ x hx=>(G.lt pk mk x hx).1
  have hk1:H1 ak = some (.lst (natV ls)):=by
   rw [s1 _ _ ek2,el,a0S]
   rfl
  refine ⟨_,rfl,_,rfl,_,rfl,l,_,_,_,rfl,rfl,SqL.of (s1 _ _ hl),ek1,g,n,ts,ak,ls,rfl,hG.same s1,okt,n10,l100,hk1,up,λ x hx=>?_,λ b H2 s2 hb=>?_⟩
  ·have:=G.lt pk mk (x:Int) (by rw [el]; exact mem_natIp.mpr ⟨x,hx,rfl⟩)
   omega
  obtain rfl:b = true:=hb.mpr (c1K (n:=n) el (G.ne pk mk) (G.jn pk mk))
  refine ⟨_,_,rfl,rfl,_,rfl,iteF ?_⟩
  have s02:=s1.trans s2
  refine ⟨_,rfl,_,rfl,by omega,by omega,?_⟩
  rw [Int.toNat_natCast]
  refine a1R (n:=k) (λ i σ H'=>(∃ jj:Option V,σ = [some g,some (.ref l),some (.int (k:Int)),jj])/\Same H H') ⟨⟨_,rfl⟩,s02⟩ ?_ ?_
  ·rintro j σ H3 hj ⟨⟨jj,rfl⟩,s3⟩
   have ej:(0 + (j:Int)) = ((j:Nat):Int):=by omega
   rw [ej]
   obtain ⟨aj,pj,ej1,ej2,ej3⟩:=at_ j (by omega)
   have mj:=List.mem_of_getElem? ej3
   have ne:pj ≠ pk:=λ z=>by
    obtain ⟨jl,e1⟩:=List.getElem?_eq_some_iff.mp ej3
    obtain ⟨kl,e2⟩:=List.getElem?_eq_some_iff.mp ek3
    have:=(List.getElem_inj G.nd).mp (e1.trans (z.trans e2.symm))
    omega
   have lj:=sh pj mj
   refine ⟨_,rfl,_,rfl,_,rfl,l,_,_,_,rfl,rfl,SqL.of (s3 _ _ hl),ej1,_,rfl,_,rfl,l,_,_,_,rfl,rfl,SqL.of (s3 _ _ hl),ek1,g,n,ts,aj,ak,pj,pk,rfl,hG.same s3,by omega,by omega,λ t ht=>by have:=okt t ht; omega,SqL.of (s3 _ _ ej2),G.lt pj mj,by omega,SqL.of (s3 _ _ ek2),λ H4 s4=>?_⟩
   rw [(b1S n10 (G.lt pk mk)).mpr (tr pj mj pk mk ne)]
   refine ⟨_,_,rfl,rfl,_,rfl,iteF ?_⟩
   have s04:=s3.trans s4
   refine ⟨_,rfl,_,rfl,l,_,_,_,rfl,rfl,SqL.of (s04 _ _ hl),ej1,aj,rfl,⟨_,SqL.of (s04 _ _ ej2)⟩,?_⟩
   refine a5W (λ x=>match x with | .int v=>if decide (v ∈ pk) = true then some (.int v) else none | _=>none) (SqL.of (s04 _ _ ej2)) (by rw [List.length_map]; omega) (λ x H5 N hx s5 hN=>?_) (λ H5 p6 H6 s5 n6=>?_)
   ·obtain ⟨v,hv',rfl⟩:=List.mem_map.mp hx
    have hN':=hN H5 s5
    dsimp only at hN'
    refine ⟨_,rfl,_,rfl,_,rfl,l,_,_,_,rfl,rfl,SqL.of (s5 _ _ (s04 _ _ hl)),ek1,b0P (SqL.of (s5 _ _ (s04 _ _ ek2))) ⟨_,rfl,?_⟩⟩
    cases d:decide (v ∈ pk) with
    | true=>rw [d] at hN'; exact iteT ⟨_,rfl,hN'⟩
    | false=>rw [d] at hN'; exact iteF hN'
   ·have efm:(pj.map V.int).filterMap (λ x=>match x with | .int v=>if decide (v ∈ pk) = true then some (V.int v) else none | _=>none) = (pj.filter λ v=>decide (v ∈ pk)).map V.int:=b4T pj λ v=>decide (v ∈ pk)
    rw [efm] at n6
    have e0:pj.filter (λ v=>decide (v ∈ pk)) = []:=List.filter_eq_nil_iff.mpr λ v hv' h=>ne (G.same mj mk hv' (of_decide_eq_true h))
    rw [e0] at n6
    refine ⟨p6,_,rfl,.inl (SqL.of n6.here),_,_,rfl,rfl,_,rfl,iteF ?_⟩
    exact ⟨⟨_,rfl⟩,s04.trans (s5.trans n6.same)⟩
  ·rintro σ H3 ⟨⟨jj,rfl⟩,s3⟩
   exact ⟨⟨_,_,rfl⟩,s3⟩
 ·rintro σ H1 ⟨⟨kk,jj,rfl⟩,s1⟩
  exact q H1 s1
end
end K
namespace K
open PySem L2 Lw Bg
abbrev c4B:Stmt:=top 49
theorem sc_law:FnScope ["_law_script", "_law_n", "_law_ties_here", "_law_web", "_law_found", "_law_order", "_law_row", "_law_tree", "_law_at", "_law_part", "_law_bag"] ["_law_script"] (a0E c4B):=⟨rfl,rfl,rfl,by decide +kernel,rfl,by decide +kernel,by decide +kernel⟩
theorem c1L {rs:List Row} {F:List (List Int)} {j:Nat} (jl:j < rs.length) (h:a7K (a1L rs j) F = true):∃ k,a5F rs F = some k/\k < rs.length/\a7K (a1L rs k) F = true:=by
 cases e:a5F rs F with
 | none =>
  unfold a5F at e
  have:=List.find?_eq_none.mp e j (List.mem_range.mpr jl)
  exact absurd h this
 | some k =>
  unfold a5F at e
  exact ⟨k,rfl,List.mem_range.mp (List.mem_of_find?_eq_some e),by simpa using List.find?_some e⟩
section
variable {P:Program} {w:World} {K:Φρ} {mg:Str->Option Value} {base:Heap}
set_option maxHeartbeats 16000000 in
theorem d2E (B:Bl mg) (dZ16:DZ16 K mg) (dZ12:DZ12 K mg) (dZ15:DZ15 K mg) (dZ6:DZ6 K mg) (dZ17:DZ17 K mg) (dZ20:DZ20 K mg) (dZ5:DZ5 K mg) (dZ14:DZ14 K mg) (dZ27:DZ27 K mg) (dZ26:DZ26 K mg) (dZ30:DZ30 K mg) (dZ34:DZ34 K mg) (dZ28:DZ28 K mg) (dZ23:DZ23 K mg) (dZ8:DZ8 K mg) (dZ33:DZ33 K mg) (dZ38:DZ38 K mg) (dZ32:DZ32 K mg) (dZ21:DZ21 K mg) (dZ31:DZ31 K mg) (dZ36:DZ36 K mg) (dZ10:DZ10 K mg) (dZ9:DZ9 K mg) (dZ11:DZ11 K mg) (dZ13:DZ13 K mg) (dZ7:DZ7 K mg) (dZ22:DZ22 K mg) (dZ37:DZ37 K mg) (dZ24:DZ24 K mg) (dZ18:DZ18 K mg) (dZ29:DZ29 K mg) (dZ25:DZ25 K mg) (dZ35:DZ35 K mg) (dZ1:DZ1 K mg) (dZ4:DZ4 K mg) (dZ0:DZ0 K mg) (dZ3:DZ3 K mg) (dZ2:DZ2 K mg) (dZ19:Dn K mg "law" c4B ["_law_script"]):FnOk P w K mg base CX0 10 dZ19.f dZ19.fd ["_law_script"] (spLaw K):=by
 have gZ11:FnOk P w K mg base CX0 9 _ _ _ _:=(c7T B dZ16 dZ12 dZ6 dZ20 dZ17 dZ5 dZ30 dZ34 dZ28 dZ23 dZ8 dZ33 dZ10 dZ9 dZ13 dZ7 dZ22 dZ11).mono (by decide)
 have gZ38:FnOk P w K mg base CX0 9 _ _ _ _:=(c3M B dZ16 dZ12 dZ6 dZ20 dZ5 dZ21 dZ32 dZ31 dZ27 dZ36 dZ38).mono (by decide)
 have gZ10:FnOk P w K mg base CX0 9 _ _ _ _:=(b5C B dZ20 dZ28 dZ23 dZ8 dZ33 dZ10 dZ9).mono (by decide)
 have gZ35:FnOk P w K mg base CX0 9 _ _ _ _:=(b6M B dZ16 dZ12 dZ15 dZ17 dZ20 dZ28 dZ8 dZ33 dZ29 dZ18 dZ35).mono (by decide)
 have gZ25:FnOk P w K mg base CX0 9 _ _ _ _:=(a7T B dZ16 dZ12 dZ15 dZ20 dZ28 dZ8 dZ33 dZ29 dZ18 dZ25).mono (by decide)
 have gZ37:FnOk P w K mg base CX0 9 _ _ _ _:=(c3R B dZ37).mono (by decide)
 have gZ24:FnOk P w K mg base CX0 9 _ _ _ _:=(b6Q B dZ6 dZ24).mono (by decide)
 have gZ1:FnOk P w K mg base CX0 9 _ _ _ _:=(a3U B dZ1).mono (by decide)
 have gZ4:FnOk P w K mg base CX0 9 _ _ _ _:=(a4E B dZ1 dZ4).mono (by decide)
 have gZ3:FnOk P w K mg base CX0 9 _ _ _ _:=(b2F B dZ1 dZ4 dZ0 dZ3).mono (by decide)
 have gZ2:FnOk P w K mg base CX0 9 _ _ _ _:=(a7U B dZ16 dZ12 dZ6 dZ20 dZ17 dZ5 dZ30 dZ34 dZ26 dZ27 dZ14 dZ2).mono (by decide)
 refine dZ19.F.ok sc_law (λ vs H Q E h=>?_) (λ cdv A outer s H vs Q E hr h=>?_)
 ·obtain ⟨a,ns,rfl,_⟩:=h
  rfl
 obtain ⟨a,ns,rfl,hS,h63,q⟩:=h
 have hu:(A.deeper (PyProof.Rows.envOfC "law" (a0E c4B) s.heap.objs.size dZ19.f cdv)).units + 64 < cLine:=hr.units
 have hv:(A.deeper (PyProof.Rows.envOfC "law" (a0E c4B) s.heap.objs.size dZ19.f cdv)).units + 65 < cLine:=by have:=hr.un; omega
 refine ⟨_,(a0C (a0L (i:=1) sc_law.nd rfl (Or.inl rfl) (a0Q a3I a0G (a0Q a2Z (a0F gZ1 hr rfl dZ1.m dZ1.F.kp dZ1.b .nil a0M (a0A (pv 0) (a0A a0G a0B))) a0G)))
   (a0C (a0L (i:=2) sc_law.nd rfl (Or.inl rfl) (a0F gZ3 hr rfl dZ3.m dZ3.F.kp dZ3.b .nil a0M (a0A (pv 0) (a0A (pv 1) a0B))))
   (a0C (a0L (i:=3) sc_law.nd rfl (Or.inl rfl) (a1W (a0A (pv 1) (a0A (a2C (a3Z (K:=K) rfl) rfl B.list (by decide +kernel) (a0A (pv 2) a0B)) a0B))))
   (a0C (a0L (i:=4) sc_law.nd rfl (Or.inl rfl) (a0F gZ11 hr rfl dZ11.m dZ11.F.kp dZ11.b .nil a0M (a0A (pv 3) a0B)))
   (a0C (a2Y (PW.pt (a9X (a7W (a0W (K:=K) rfl (a0F gZ2 hr rfl dZ2.m dZ2.F.kp dZ2.b .nil a0M (a0A (pv 3) (a0A (pv 4) a0B))) (λ _=>rfl))) (a9X (a0O c1P (a0U (a1P (K:=K) rfl) (a0F gZ38 hr rfl dZ38.m dZ38.F.kp dZ38.b .nil a0M (a0A (pv 3) a0B)) a0G (λ _ _=>rfl)) b6S (a1J _)) (a7V (a0O a8S (a0N (a0T (K:=K) rfl) rfl B.len (by decide +kernel) (a0A (a0U (a1P (K:=K) rfl) (a0F gZ10 hr rfl dZ10.m dZ10.F.kp dZ10.b .nil a0M (a0A (pv 3) a0B)) a0G (λ _ _=>rfl)) a0B)) a0G (a1J _))))))
   (a0D (a0K a6P))
   a1O)
   (a0C (a0L (i:=5) sc_law.nd rfl (Or.inl rfl) (a0F gZ4 hr rfl dZ4.m dZ4.F.kp dZ4.b .nil a0M (a0A (pv 0) (a0A (pv 1) (a0A a0G a0B)))))
   (a0C (a1U PassesOwn.never rfl (a0P (K:=K) rfl (a1G (a0A (pv 5) (a0A (c9Q (K:=K) rfl (pv 5)) a0B)))) (a0H (i:=6) sc_law.nd rfl (Or.inl rfl))
   (a0C (a0L (i:=7) sc_law.nd rfl (Or.inl rfl) (a0F gZ35 hr rfl dZ35.m dZ35.F.kp dZ35.b .nil a0M (a0A (pv 3) (a0A (a2C (a3Z (K:=K) rfl) rfl B.list (by decide +kernel) (a0A (pv 6) a0B)) a0B))))
   (a0C (a0L (i:=8) sc_law.nd rfl (Or.inl rfl) (a0F gZ24 hr rfl dZ24.m dZ24.F.kp dZ24.b .nil a0M (a0A (pv 7) (a0A (a3K ["_law_part"] [none]  (by kernel_rfl) rfl (a0P (K:=K) rfl (pv 4)) (λ _ _ _ _ _=>(a0H (i:=0) (show (["_law_part"]:List Str).Nodup by decide +kernel) rfl (Or.inl rfl))) (λ _ _ _ _ _=>a2N) (λ _ _ _ _ _=>(a2C (a3Z (K:=K) rfl) rfl B.list (by decide +kernel) (a0A (pv 0) a0B)))) a0B))))
   (a0C (a2Y (PW.pt (a9X (a0O c8R (pv 8) a5S (a1J _)) (a9X (a0O a8S (a0F gZ25 hr rfl dZ25.m dZ25.F.kp dZ25.b .nil a0M (a0A (pv 3) (a0A (a2C (a3Z (K:=K) rfl) rfl B.list (by decide +kernel) (a0A (pv 6) a0B)) a0B))) a0G (a1J _)) (a7V (a0O a8S (a0F gZ37 hr rfl dZ37.m dZ37.F.kp dZ37.b .nil a0M (a0A (pv 7) a0B)) a0G (a1J _))))))
   (a0D (a0K a6P))
   a1O)
   (a0C (a0L (i:=10) sc_law.nd rfl (Or.inr rfl) (a0U (a1P (K:=K) rfl) (a0U (a0I (K:=K) rfl) (pv 7) (pv 8) (λ _ _=>rfl)) a0G (λ _ _=>rfl)))
   (a0C (a1U PassesOwn.never rfl (a0P (K:=K) rfl (pv 4)) (a0H (i:=9) sc_law.nd rfl (Or.inl rfl))
   (a0D (a2Y (a0O a9Z (a0N (a0T (K:=K) rfl) rfl B.len (by decide +kernel) (a0A (a3K ["_law_v", "_law_bag"] [none,some 10]  (by kernel_rfl) rfl (a0P (K:=K) rfl (pv 9)) (λ _ _ _ _ _=>(a0H (i:=0) (show (["_law_v", "_law_bag"]:List Str).Nodup by decide +kernel) rfl (Or.inl rfl))) (λ _ _ _ _ _=>(a2O (a0O (a6U (K:=K) rfl hv) (pv 0) (pv 1) (by with_unfolding_all rfl)))) (λ _ _ _ _ _=>(pv 0))) a0B)) a0G (a1J _))
   (a0D (a0K a6P))
   a1O)))
   (a0D (a2Y (a0O a8S (a0N (a0T (K:=K) rfl) rfl B.len (by decide +kernel) (a0A (pv 10) a0B)) a0G (a1J _))
   (a0D (a0K a6P))
   a1O))))))))
   (a0D (a0K (b2I (c5O (K:=K) rfl hu) (pv 3) (a1W (a0A (pv 1) (a0A (pv 2) a0B))) (a1J _))))))))))),?_⟩
 refine ⟨_,rfl,a,ns,0,rfl,hS,h63,by decide,by decide,λ z0=>⟨_,_,rfl,rfl,(show (0:Int) < _ by decide),_,_,rfl,rfl,?_⟩⟩
 dsimp only
 have m0:=Int.emod_nonneg z0 (show (7:Int) ≠ 0 by decide)
 have m1:=Int.emod_lt_of_pos z0 (show (0:Int) < 7 by decide)
 obtain ⟨n,en⟩:∃ n:Nat,4 + z0 % 7 = (n:Int):=⟨(4 + z0 % 7).toNat,by omega⟩
 rw [en]
 have hn:n <= 10:=by omega
 have n4:4 <= n:=by omega
 refine ⟨_,rfl,_,rfl,a,ns,n,rfl,hS,h63,n4,hn,λ rt xs ts H1 s1 f1 h1 p1 okt nd nf z1=>?_⟩
 have lx:=Paired.length p1
 refine ⟨_,rfl,_,rfl,rt,_,rfl,.inl (SqL.of h1),λ rc H2 n2=>?_⟩
 refine ⟨(by show 2 <= 1000; decide),λ pg H3 n3=>?_⟩
 have s13:Same H1 H3:=n2.same.trans n3.same
 have p3:Paired (TieL H3) xs ts:=Paired.mapP p1 λ _ _ q=>TieL.same s13 q
 have g3:∀ {H':Hp},Same H3 H'->Paired (TieL H') xs ts:=λ {H'} s=>Paired.mapP p3 λ _ _ q=>TieL.same s q
 have hg3:GraphV K H3 (.ref pg) n ts:=⟨pg,rc,rfl,SqT.of n3.here,xs,SqL.of (n3.same _ _ n2.here),Paired.mapP p3 λ _ _ q=>q.v,by omega⟩
 have hrt3:=s13 _ _ h1
 refine ⟨_,rfl,.ref pg,n,ts,rfl,hg3,hn,by omega,okt,λ F=>absurd F nf,λ _ l ys F H4 s4 fl hl pF G l4 tr=>?_⟩
 have hg4:=hg3.same s4
 refine ⟨_,rfl,_,rfl,.ref pg,n,ts,l,ys,F,H3,rfl,hg4,okt,hn,by omega,hl,pF,G,l4,tr,λ H5 s5=>⟨_,rfl,iteF ?_⟩⟩
 have s35:=s4.trans s5
 refine ⟨_,rfl,.ref pg,n,ts,rfl,hg3.same s35,okt,nd,hn,by omega,c1G okt nd nf,λ pw qw rw_ H6 s6 _ _ hw6 _=>?_⟩
 refine ⟨pw,_,_,_,rfl,rfl,SqT.of hw6,rfl,rfl,_,rfl,iteF ?_⟩
 have s36:=s35.trans s6
 refine ⟨_,rfl,.ref pg,n,ts,rfl,hg3.same s36,okt,hn,λ pf pst plf ps qs S H7 s7 hf7 _ _ hl7 FR st _ _=>?_⟩
 have ne:a5N n S ≠ []:=λ z=>nf ((c3Y okt).mp ((c0J FR st).mp z))
 have l4':=c1H st FR ne
 refine ⟨pf,_,_,_,rfl,rfl,SqT.of hf7,rfl,plf,_,rfl,.inl (SqL.of hl7),_,_,rfl,rfl,_,rfl,?_⟩
 rw [show decide ((((natV (a5N n S)).length:Nat):Int) < 4) = false from decide_eq_false (by rw [List.length_map]; omega)]
 refine iteF ?_
 have s37:=s36.trans s7
 refine ⟨_,rfl,_,rfl,a,ns,n,31,rfl,by decide,hS.same (s1.trans (s13.trans s37)),h63,hn,λ ro us H8 n8 pm=>?_⟩
 obtain ⟨os,eo,po,_⟩:=b5L pm
 rw [eo] at n8
 refine ⟨_,rfl,_,rfl,ro,_,rfl,SqL.of n8.here,λ rv H9 n9=>?_⟩
 have erv:(natV os).reverse = natV os.reverse:=by unfold natV; rw [List.map_reverse]
 rw [erv] at n9
 refine ⟨(by show 2 <= 1000; decide),λ pz H10 n10=>?_⟩
 refine ⟨pz,rfl,⟨_,SqL.of n10.here⟩,?_⟩
 have s310:Same H3 H10:=s37.trans (n8.same.trans (n9.same.trans n10.same))
 have hl10:H10 l = some (.lst ys):=n10.same _ _ (n9.same _ _ (n8.same _ _ (s7 _ _ (s6 _ _ (s5 _ _ hl)))))
 have pF10:Paired (PtL H3 H10) ys F:=Paired.mapP pF λ _ _ q=>PtL.same (s5.trans (s6.trans (s7.trans (n8.same.trans (n9.same.trans n10.same))))) q
 have ly:=Paired.length pF
 have rows:∀ x,x ∈ [V.ref ro,V.ref rv]->∃ (rr:Addr) (os':List Nat),x = .ref rr/\H10 rr = some (.lst (natV os'))/\os'.Perm (List.range n):=λ x hx=>by
  rcases List.mem_cons.mp hx with rfl | hx
  ·exact ⟨ro,os,rfl,n10.same _ _ (n9.same _ _ n8.here),po⟩
  ·rw [List.mem_singleton.mp hx]
   exact ⟨rv,os.reverse,rfl,n10.same _ _ n9.here,(List.reverse_perm os).trans po⟩
 refine a3W (xs:=[V.ref ro,V.ref rv]) (λ i σ H'=>(∃ rw1 tr1 at1 bg1 pt1:Option V,σ = [some (.ref a),some (.int n),some (.ref rt),some (.ref pg),some (.ref l),some (.ref ro),rw1,tr1,at1,bg1,pt1])/\Same H10 H') ⟨⟨_,_,_,_,_,rfl⟩,Same.refl _⟩ (λ i σ H' _ ⟨_,s⟩=>SqL.of (s _ _ n10.here)) ?_ ?_
 ·rintro i x σ H11 hx ⟨⟨rw1,tr1,at1,bg1,pt1,rfl⟩,s11⟩
  obtain ⟨rr,os',rfl,hrr,po'⟩:=rows x (List.mem_of_getElem? hx)
  have o:Ord n os':=⟨po'⟩
  have s311:=s310.trans s11
  refine ⟨_,rfl,_,rfl,rr,_,rfl,.inl (SqL.of (s11 _ _ hrr)),λ rl H12 n12=>?_⟩
  refine ⟨.ref pg,n,ts,rl,os',rfl,hg3.same (s311.trans n12.same),okt,n12.here,po',hn,λ pt xt H13 s13' ft ht pt13=>?_⟩
  have eT:b1Z n ts os' = (List.range n).map (a1S n ts os'):=by unfold b1Z; rw [if_neg (by omega)]
  rw [eT] at pt13
  have lt13:=Paired.length pt13
  rw [List.length_map,List.length_range] at lt13
  have T:=(b6N (ts:=ts) o hn (by omega)).p
  obtain ⟨j,jl,mj⟩:=c1I T okt (c0X o hn okt) G tr
  obtain ⟨k,ek,kl,mk⟩:=c1L jl mj
  have b4:=c4A G.dj l4 mk
  rw [List.length_map,List.length_range] at kl
  have sb:Same H10 H13:=s11.trans (n12.same.trans s13')
  have RA:∀ {H'},Same H13 H'->b7Q K H' pt ((List.range n).map (a1S n ts os')):=λ {H'} s=>⟨xt,SqL.of (s _ _ ht),Paired.mapP pt13 λ v r ⟨p,b,e,q1,q2,_,_,z⟩=>⟨p,b,e,SqT.of (s _ _ q1),SqL.of (s _ _ q2),by omega⟩,by rw [List.length_map,List.length_range]; omega⟩
  refine ⟨_,rfl,_,rfl,l,rfl,⟨_,SqL.of (sb _ _ hl10)⟩,?_⟩
  refine a4G (K:=K) (a:=l) (xs:=ys) (λ i zs G'=>Same H13 G'/\Paired (LstV K G') zs (F.take i)) ⟨Same.refl _,.nil⟩ (λ i zs G' hi ⟨s,p⟩=>⟨SqL.of (s _ _ (sb _ _ hl10)),?_⟩) (λ i x zs G' hx ⟨s,p⟩=>?_) ?_
  ·have:=Paired.length p
   rw [this,List.length_take]
   exact Nat.le_of_lt (a0V (by omega))
  ·obtain ⟨pp,hpp,b,rfl,hb,_⟩:=paired_get pF10 hx
   refine ⟨_,rfl,b,_,rfl,.inl (SqL.of (s _ _ (sb _ _ hb))),λ p6 H6' n6=>⟨s.trans n6.same,?_⟩⟩
   obtain ⟨hil,hix⟩:=List.getElem?_eq_some_iff.mp hpp
   rw [List.take_succ_eq_append_getElem hil,hix]
   exact a0R (Paired.mapP p λ v t q=>b2C n6.same q) ⟨p6,rfl,SqL.of n6.here⟩
  intro zs H14 ⟨s14,p14⟩ pmm hpmm
  rw [ly,List.take_length] at p14
  have n15:=New.mk0 (o:=.lst zs) hpmm
  generalize upd H14 pmm (.lst zs) = H15 at n15
  have s15:Same H13 H15:=s14.trans n15.same
  refine ⟨pt,pmm,(List.range n).map (a1S n ts os'),F,rfl,RA s15,⟨zs,SqL.of n15.here,Paired.mapP p14 λ v t q=>b2C n15.same q⟩,by omega,λ H16 s16=>?_⟩
  rw [ek]
  have s1316:=s15.trans s16
  have sz:Same H3 H16:=s310.trans (sb.trans s1316)
  obtain ⟨M0,hM0,all0⟩:=c4Z (l:=lens ((List.range n).map (a1S n ts os'))) (by
   unfold lens
   intro z
   have:=congrArg List.length z
   simp at this
   omega)
  have b4':(4:Int) <= M0:=by
   have:=all0 (((a1L ((List.range n).map (a1S n ts os')) k).2.length:Nat):Int) (List.mem_map.mpr ⟨_,by
    unfold a1L
    rw [τα,List.getElem?_eq_getElem (by rw [List.length_map,List.length_range]; exact kl)]
    exact List.getElem_mem _,rfl⟩)
   omega
  have wd:3 <= a7I n ts os':=by
   have:=b6O (ts:=ts) o hn (M:=M0) (by rw [eT]; exact hM0) (by rw [eT]; exact all0)
   omega
  refine ⟨_,rfl,rfl,_,rfl,iteF ?_⟩
  refine ⟨_,rfl,_,rfl,rr,_,rfl,.inl (SqL.of (s1316 _ _ (sb _ _ hrr))),λ rl2 H17 n17=>?_⟩
  refine ⟨.ref pg,n,ts,rl2,os',rfl,hg3.same (sz.trans n17.same),okt,SqL.of n17.here,po',hn,λ H18 s18=>?_⟩
  refine ⟨_,_,rfl,rfl,_,rfl,?_⟩
  rw [show decide (a7I n ts os' < 3) = false from decide_eq_false (by omega)]
  refine iteF ?_
  have s1318:=s1316.trans (n17.same.trans s18)
  refine ⟨_,rfl,pt,_,rfl,RA s1318,by rw [List.length_map,List.length_range]; omega,λ M H19 s19 hM allM=>?_⟩
  refine ⟨_,_,rfl,rfl,_,rfl,?_⟩
  have M4:M0 <= M:=allM M0 hM0
  rw [show decide (M - 1 < 3) = false from decide_eq_false (by omega)]
  refine iteF ?_
  have s1319:=s1318.trans s19
  obtain ⟨xk,hxk,prow,bk,rfl,q1,q2,_,_,z16⟩:=a2H pt13 (show ((List.range n).map (a1S n ts os'))[k]? = some (a1L ((List.range n).map (a1S n ts os')) k) by
   unfold a1L
   rw [τα,List.getElem?_eq_getElem (by rw [List.length_map,List.length_range]; exact kl)]
   rfl)
  generalize a1L ((List.range n).map (a1S n ts os')) k = row at mk b4 q1 q2 z16
  refine ⟨_,rfl,_,rfl,pt,_,_,_,rfl,rfl,SqL.of (s1319 _ _ ht),a2M hxk,prow,_,_,_,rfl,rfl,SqT.of (s1319 _ _ q1),rfl,?_⟩
  have s1019:Same H10 H19:=sb.trans s1319
  refine ⟨_,rfl,l,rfl,⟨_,SqL.of (s1019 _ _ hl10)⟩,?_⟩
  refine a3W (xs:=ys) (λ i σ H'=>(∃ pt1:Option V,σ = [some (.ref a),some (.int n),some (.ref rt),some (.ref pg),some (.ref l),some (.ref ro),some (.ref rr),some (.ref pt),some (.int (k:Int)),pt1,some (.ref bk)])/\Same H19 H') ⟨⟨_,rfl⟩,Same.refl _⟩ (λ i σ H' _ ⟨_,s⟩=>SqL.of (s _ _ (s1019 _ _ hl10))) ?_ ?_
  ·rintro i2 x2 σ H20 hx2 ⟨⟨pt2,rfl⟩,s20⟩
   obtain ⟨pp,hpp,b,rfl,hb,_⟩:=paired_get pF10 hx2
   have mp:=List.mem_of_getElem? hpp
   have hb20:=s20 _ _ (s1019 _ _ hb)
   have hk20:=s20 _ _ (s1319 _ _ q2)
   have lpp:pp.length <= 10:=by
    obtain ⟨ls,e,up⟩:=a9P (G.asc pp mp) λ x hx=>(G.lt pp mp x hx).1
    rw [e]
    unfold a1D
    rw [List.length_map]
    refine Nat.le_trans (a4X (m:=n) (up.imp λ h=>Nat.ne_of_lt h) λ x hx=>?_) hn
    have:=G.lt pp mp (x:Int) (by rw [e]; exact mem_natIp.mpr ⟨x,hx,rfl⟩)
    omega
   refine ⟨_,rfl,b,rfl,⟨_,SqL.of hb20⟩,?_⟩
   refine a5W (λ x=>match x with | .int v=>if decide (v ∈ row.2) = true then some (.int v) else none | _=>none) (SqL.of hb20) (by rw [List.length_map]; omega) (λ x H5' N hx s5' hN=>?_) (λ H5' p6 H6' s5' n6=>?_)
   ·obtain ⟨v,hv',rfl⟩:=List.mem_map.mp hx
    have hN':=hN H5' s5'
    dsimp only at hN'
    refine ⟨_,rfl,_,rfl,b0P (SqL.of (s5' _ _ hk20)) ⟨_,rfl,?_⟩⟩
    cases d:decide (v ∈ row.2) with
    | true=>rw [d] at hN'; exact iteT ⟨_,rfl,hN'⟩
    | false=>rw [d] at hN'; exact iteF hN'
   ·have efm:(pp.map V.int).filterMap (λ x=>match x with | .int v=>if decide (v ∈ row.2) = true then some (V.int v) else none | _=>none) = (pp.filter λ v=>decide (v ∈ row.2)).map V.int:=b4T pp λ v=>decide (v ∈ row.2)
    rw [efm] at n6
    obtain ⟨v,v1,v2⟩:=(a9U _ _).mp (List.all_eq_true.mp mk pp mp)
    have pos:0 < (pp.filter λ v=>decide (v ∈ row.2)).length:=List.length_pos_of_mem (List.mem_filter.mpr ⟨v2,decide_eq_true v1⟩)
    refine ⟨p6,_,rfl,.inl (SqL.of n6.here),rfl,_,rfl,?_⟩
    rw [show decide (V.int ((((pp.filter λ v=>decide (v ∈ row.2)).map V.int).length:Nat):Int) = V.int 0) = false from decide_eq_false λ z=>by
     have:=V.int.inj z
     rw [List.length_map] at this
     omega]
    exact iteF ⟨⟨_,rfl⟩,s20.trans (s5'.trans n6.same)⟩
  ·rintro σ H20 ⟨⟨pt2,rfl⟩,s20⟩
   refine ⟨_,rfl,bk,_,rfl,.inl (SqL.of (s20 _ _ (s1319 _ _ q2))),_,_,rfl,rfl,_,rfl,?_⟩
   rw [show decide ((((row.2.map V.int).length:Nat):Int) < 4) = false from decide_eq_false (by rw [List.length_map]; omega)]
   exact iteF ⟨⟨_,_,_,_,_,rfl⟩,s1019.trans s20⟩
 ·rintro σ H11 ⟨⟨rw1,tr1,at1,bg1,pt1,rfl⟩,s11⟩
  have s311:=s310.trans s11
  refine ⟨_,rfl,_,rfl,_,rfl,(by show 2 <= 1000; decide),λ p12 H12 n12=>?_⟩
  have s12:Same H3 H12:=s311.trans n12.same
  have g2:GraphV K H12 (.ref p12) n ts:=⟨p12,rt,rfl,SqT.of n12.here,xs,SqL.of (s12 _ _ hrt3),Paired.mapP (g3 s12) λ _ _ q=>q.v,by omega⟩
  refine ⟨_,_,(hg3.same s12).isD,g2.isD,a5J _ _,a5J _ _,?_⟩
  rw [if_neg Bool.false_ne_true,c1Z (a5J _ _)]
  exact q _
end
end K
open PySem PySem.W PyProof.Rows
def PySem.W.Fast.tw12102072749231601634 : Unit := ()
def PySem.W.Fast.tw1805629350585866843 : Unit := ()
def PySem.W.Fast.tw1801640015179224543 : Unit := ()
def PySem.W.Fast.tw5636855112571573205 : Unit := ()
def PySem.W.Fast.tw14723099582867334898 : Unit := ()
def PySem.W.Fast.tw15753721181312624249 : Unit := ()
def PySem.W.Fast.tw3556159811569634548 : Unit := ()
def PySem.W.Fast.tw9656491932215670045 : Unit := ()
def PySem.W.Fast.tw4016099981969784617 : Unit := ()
def PySem.W.Fast.tw24937078942623801 : Unit := ()
def PySem.W.Fast.tw7457627167636291289 : Unit := ()
def PySem.W.Fast.tw14573534781176743514 : Unit := ()
def PySem.W.Fast.tw3103266228357678334 : Unit := ()
def PySem.W.Fast.tw2870649744722912618 : Unit := ()
def PySem.W.Fast.tw17738244922427803744 : Unit := ()
def PySem.W.Fast.tw18037205135117545846 : Unit := ()
def PySem.W.Fast.tw2450373743141832006 : Unit := ()
def PySem.W.Fast.tw17622299167394395141 : Unit := ()
def PySem.W.Fast.tw14586846872930373059 : Unit := ()
def PySem.W.Fast.tw15187540010737966987 : Unit := ()
set_option maxRecDepth 100000 in
set_option maxHeartbeats 0 in
theorem PySem.Challenge.cw_bagwood_k50_whole_four_in_a_bag_holds : PySem.Challenge.rw_bagwood_k50_whole_four_in_a_bag.Holds := by
 w_on; o_law; k_head; (case hw => w_witness2)
 k_fill
 refine L2.walk_ofK (l := PySem.Challenge.rw_bagwood_k50_whole_four_in_a_bag) (n := 63) (k := 10) (x := "_law_script") (CX := L2.CX0) (sp := Lw.spLaw) rfl (by decide) rfl ⟨rfl, by decide, by decide⟩ (fun w h Y => PySem.W.kIn_of Y) ?F ?S ?C
 case F =>
  intro w mg fa h KX G hmg
  have B : L2.Bl mg := by
   refine' L2.bl_mk KX G ?z1 ?z2 ?z3 ?z4 ?z5 ?z6 ?z7 ?z8 ?z9 ?z10 ?z11 ?z12 ?z13 ?z14 ?z15 ?z16 ?z17
   all_goals k_is
  have dZ16 : Nonempty (L2.Dn (L2.KOf KX) mg "is_whole" K.a8K ["thing"]) := by
   dsimp only [L2.KOf]
   refine' L2.dn_mk1 KX G ?a ?l ?c ?k rfl (fun _ _ _ _ _ _ _ => rfl)
   (case a => k_is); (case l => k_is); (case c => k_is); (case k => k_is)
  obtain ⟨dZ16⟩ := dZ16
  have dZ12 : Nonempty (L2.Dn (L2.KOf KX) mg "is_below" K.a8L ["n", "thing"]) := by
   dsimp only [L2.KOf]
   refine' L2.dn_mk2 KX G ?a ?l ?c ?k rfl (fun _ _ _ _ _ _ _ _ => rfl)
   (case a => k_is); (case l => k_is); (case c => k_is); (case k => k_is)
  obtain ⟨dZ12⟩ := dZ12
  have dZ15 : Nonempty (L2.Dn (L2.KOf KX) mg "is_set" K.b4S ["n", "places"]) := by
   dsimp only [L2.KOf]
   refine' L2.dn_mk2 KX G ?a ?l ?c ?k rfl (fun _ _ _ _ _ _ _ _ => rfl)
   (case a => k_is); (case l => k_is); (case c => k_is); (case k => k_is)
  obtain ⟨dZ15⟩ := dZ15
  have dZ6 : Nonempty (L2.Dn (L2.KOf KX) mg "common" K.a9J ["one", "other"]) := by
   dsimp only [L2.KOf]
   refine' L2.dn_mk2 KX G ?a ?l ?c ?k rfl (fun _ _ _ _ _ _ _ _ => rfl)
   (case a => k_is); (case l => k_is); (case c => k_is); (case k => k_is)
  obtain ⟨dZ6⟩ := dZ6
  have dZ17 : Nonempty (L2.Dn (L2.KOf KX) mg "joint" K.b9T ["one", "other"]) := by
   dsimp only [L2.KOf]
   refine' L2.dn_mk2 KX G ?a ?l ?c ?k rfl (fun _ _ _ _ _ _ _ _ => rfl)
   (case a => k_is); (case l => k_is); (case c => k_is); (case k => k_is)
  obtain ⟨dZ17⟩ := dZ17
  have dZ20 : Nonempty (L2.Dn (L2.KOf KX) mg "less" K.b4U ["one", "other"]) := by
   dsimp only [L2.KOf]
   refine' L2.dn_mk2 KX G ?a ?l ?c ?k rfl (fun _ _ _ _ _ _ _ _ => rfl)
   (case a => k_is); (case l => k_is); (case c => k_is); (case k => k_is)
  obtain ⟨dZ20⟩ := dZ20
  have dZ5 : Nonempty (L2.Dn (L2.KOf KX) mg "around" K.b4V ["graph", "v"]) := by
   dsimp only [L2.KOf]
   refine' L2.dn_mk2 KX G ?a ?l ?c ?k rfl (fun _ _ _ _ _ _ _ _ => rfl)
   (case a => k_is); (case l => k_is); (case c => k_is); (case k => k_is)
  obtain ⟨dZ5⟩ := dZ5
  have dZ14 : Nonempty (L2.Dn (L2.KOf KX) mg "is_joined" K.a7H ["graph", "places"]) := by
   dsimp only [L2.KOf]
   refine' L2.dn_mk2 KX G ?a ?l ?c ?k rfl (fun _ _ _ _ _ _ _ _ => rfl)
   (case a => k_is); (case l => k_is); (case c => k_is); (case k => k_is)
  obtain ⟨dZ14⟩ := dZ14
  have dZ27 : Nonempty (L2.Dn (L2.KOf KX) mg "pieces" K.b5F ["graph", "places"]) := by
   dsimp only [L2.KOf]
   refine' L2.dn_mk2 KX G ?a ?l ?c ?k rfl (fun _ _ _ _ _ _ _ _ => rfl)
   (case a => k_is); (case l => k_is); (case c => k_is); (case k => k_is)
  obtain ⟨dZ27⟩ := dZ27
  have dZ26 : Nonempty (L2.Dn (L2.KOf KX) mg "piece_from" K.a6E ["graph", "places", "v"]) := by
   dsimp only [L2.KOf]
   refine' L2.dn_mk3 KX G ?a ?l ?c ?k rfl (fun _ _ _ _ _ _ _ _ _ => rfl)
   (case a => k_is); (case l => k_is); (case c => k_is); (case k => k_is)
  obtain ⟨dZ26⟩ := dZ26
  have dZ30 : Nonempty (L2.Dn (L2.KOf KX) mg "rim" K.c9Z ["graph", "places"]) := by
   dsimp only [L2.KOf]
   refine' L2.dn_mk2 KX G ?a ?l ?c ?k rfl (fun _ _ _ _ _ _ _ _ => rfl)
   (case a => k_is); (case l => k_is); (case c => k_is); (case k => k_is)
  obtain ⟨dZ30⟩ := dZ30
  have dZ34 : Nonempty (L2.Dn (L2.KOf KX) mg "touch" K.b9U ["graph", "one", "other"]) := by
   dsimp only [L2.KOf]
   refine' L2.dn_mk3 KX G ?a ?l ?c ?k rfl (fun _ _ _ _ _ _ _ _ _ => rfl)
   (case a => k_is); (case l => k_is); (case c => k_is); (case k => k_is)
  obtain ⟨dZ34⟩ := dZ34
  have dZ28 : Nonempty (L2.Dn (L2.KOf KX) mg "places_of" K.a7E ["mask"]) := by
   dsimp only [L2.KOf]
   refine' L2.dn_mk1 KX G ?a ?l ?c ?k rfl (fun _ _ _ _ _ _ _ => rfl)
   (case a => k_is); (case l => k_is); (case c => k_is); (case k => k_is)
  obtain ⟨dZ28⟩ := dZ28
  have dZ23 : Nonempty (L2.Dn (L2.KOf KX) mg "mask_sizes" K.a6D ["n"]) := by
   dsimp only [L2.KOf]
   refine' L2.dn_mk1 KX G ?a ?l ?c ?k rfl (fun _ _ _ _ _ _ _ => rfl)
   (case a => k_is); (case l => k_is); (case c => k_is); (case k => k_is)
  obtain ⟨dZ23⟩ := dZ23
  have dZ8 : Nonempty (L2.Dn (L2.KOf KX) mg "first_bags" K.a6A ["graph"]) := by
   dsimp only [L2.KOf]
   refine' L2.dn_mk1 KX G ?a ?l ?c ?k rfl (fun _ _ _ _ _ _ _ => rfl)
   (case a => k_is); (case l => k_is); (case c => k_is); (case k => k_is)
  obtain ⟨dZ8⟩ := dZ8
  have dZ33 : Nonempty (L2.Dn (L2.KOf KX) mg "taken_out" K.a7F ["bags", "v"]) := by
   dsimp only [L2.KOf]
   refine' L2.dn_mk2 KX G ?a ?l ?c ?k rfl (fun _ _ _ _ _ _ _ _ => rfl)
   (case a => k_is); (case l => k_is); (case c => k_is); (case k => k_is)
  obtain ⟨dZ33⟩ := dZ33
  have dZ38 : Nonempty (L2.Dn (L2.KOf KX) mg "wood" K.c4X ["graph"]) := by
   dsimp only [L2.KOf]
   refine' L2.dn_mk1 KX G ?a ?l ?c ?k rfl (fun _ _ _ _ _ _ _ => rfl)
   (case a => k_is); (case l => k_is); (case c => k_is); (case k => k_is)
  obtain ⟨dZ38⟩ := dZ38
  have dZ32 : Nonempty (L2.Dn (L2.KOf KX) mg "ringed" K.b5G ["graph"]) := by
   dsimp only [L2.KOf]
   refine' L2.dn_mk1 KX G ?a ?l ?c ?k rfl (fun _ _ _ _ _ _ _ => rfl)
   (case a => k_is); (case l => k_is); (case c => k_is); (case k => k_is)
  obtain ⟨dZ32⟩ := dZ32
  have dZ21 : Nonempty (L2.Dn (L2.KOf KX) mg "loose_among" K.a5B ["graph", "left"]) := by
   dsimp only [L2.KOf]
   refine' L2.dn_mk2 KX G ?a ?l ?c ?k rfl (fun _ _ _ _ _ _ _ _ => rfl)
   (case a => k_is); (case l => k_is); (case c => k_is); (case k => k_is)
  obtain ⟨dZ21⟩ := dZ21
  have dZ31 : Nonempty (L2.Dn (L2.KOf KX) mg "ring_among" K.a3T ["graph", "left"]) := by
   dsimp only [L2.KOf]
   refine' L2.dn_mk2 KX G ?a ?l ?c ?k rfl (fun _ _ _ _ _ _ _ _ => rfl)
   (case a => k_is); (case l => k_is); (case c => k_is); (case k => k_is)
  obtain ⟨dZ31⟩ := dZ31
  have dZ36 : Nonempty (L2.Dn (L2.KOf KX) mg "up_to" K.c0S ["graph", "piece", "v"]) := by
   dsimp only [L2.KOf]
   refine' L2.dn_mk3 KX G ?a ?l ?c ?k rfl (fun _ _ _ _ _ _ _ _ _ => rfl)
   (case a => k_is); (case l => k_is); (case c => k_is); (case k => k_is)
  obtain ⟨dZ36⟩ := dZ36
  have dZ10 : Nonempty (L2.Dn (L2.KOf KX) mg "folds" K.c0D ["graph"]) := by
   dsimp only [L2.KOf]
   refine' L2.dn_mk1 KX G ?a ?l ?c ?k rfl (fun _ _ _ _ _ _ _ => rfl)
   (case a => k_is); (case l => k_is); (case c => k_is); (case k => k_is)
  obtain ⟨dZ10⟩ := dZ10
  have dZ9 : Nonempty (L2.Dn (L2.KOf KX) mg "first_to_fold" K.a3S ["bags", "sizes"]) := by
   dsimp only [L2.KOf]
   refine' L2.dn_mk2 KX G ?a ?l ?c ?k rfl (fun _ _ _ _ _ _ _ _ => rfl)
   (case a => k_is); (case l => k_is); (case c => k_is); (case k => k_is)
  obtain ⟨dZ9⟩ := dZ9
  have dZ11 : Nonempty (L2.Dn (L2.KOf KX) mg "four" K.c4V ["graph"]) := by
   dsimp only [L2.KOf]
   refine' L2.dn_mk1 KX G ?a ?l ?c ?k rfl (fun _ _ _ _ _ _ _ => rfl)
   (case a => k_is); (case l => k_is); (case c => k_is); (case k => k_is)
  obtain ⟨dZ11⟩ := dZ11
  have dZ13 : Nonempty (L2.Dn (L2.KOf KX) mg "is_firm" K.b1R ["graph", "parts"]) := by
   dsimp only [L2.KOf]
   refine' L2.dn_mk2 KX G ?a ?l ?c ?k rfl (fun _ _ _ _ _ _ _ _ => rfl)
   (case a => k_is); (case l => k_is); (case c => k_is); (case k => k_is)
  obtain ⟨dZ13⟩ := dZ13
  have dZ7 : Nonempty (L2.Dn (L2.KOf KX) mg "firm_of" K.b1T ["graph", "fewer", "parts"]) := by
   dsimp only [L2.KOf]
   refine' L2.dn_mk3 KX G ?a ?l ?c ?k rfl (fun _ _ _ _ _ _ _ _ _ => rfl)
   (case a => k_is); (case l => k_is); (case c => k_is); (case k => k_is)
  obtain ⟨dZ7⟩ := dZ7
  have dZ22 : Nonempty (L2.Dn (L2.KOf KX) mg "made_one" K.a5P ["parts", "a", "b"]) := by
   dsimp only [L2.KOf]
   refine' L2.dn_mk3 KX G ?a ?l ?c ?k rfl (fun _ _ _ _ _ _ _ _ _ => rfl)
   (case a => k_is); (case l => k_is); (case c => k_is); (case k => k_is)
  obtain ⟨dZ22⟩ := dZ22
  have dZ37 : Nonempty (L2.Dn (L2.KOf KX) mg "width" K.c0Y ["tree"]) := by
   dsimp only [L2.KOf]
   refine' L2.dn_mk1 KX G ?a ?l ?c ?k rfl (fun _ _ _ _ _ _ _ => rfl)
   (case a => k_is); (case l => k_is); (case c => k_is); (case k => k_is)
  obtain ⟨dZ37⟩ := dZ37
  have dZ24 : Nonempty (L2.Dn (L2.KOf KX) mg "meeting" K.b2B ["tree", "sets"]) := by
   dsimp only [L2.KOf]
   refine' L2.dn_mk2 KX G ?a ?l ?c ?k rfl (fun _ _ _ _ _ _ _ _ => rfl)
   (case a => k_is); (case l => k_is); (case c => k_is); (case k => k_is)
  obtain ⟨dZ24⟩ := dZ24
  have dZ18 : Nonempty (L2.Dn (L2.KOf KX) mg "later" K.c0B ["graph", "order"]) := by
   dsimp only [L2.KOf]
   refine' L2.dn_mk2 KX G ?a ?l ?c ?k rfl (fun _ _ _ _ _ _ _ _ => rfl)
   (case a => k_is); (case l => k_is); (case c => k_is); (case k => k_is)
  obtain ⟨dZ18⟩ := dZ18
  have dZ29 : Nonempty (L2.Dn (L2.KOf KX) mg "refuse_no_order" K.a3D ["n", "order"]) := by
   dsimp only [L2.KOf]
   refine' L2.dn_mk2 KX G ?a ?l ?c ?k rfl (fun _ _ _ _ _ _ _ _ => rfl)
   (case a => k_is); (case l => k_is); (case c => k_is); (case k => k_is)
  obtain ⟨dZ29⟩ := dZ29
  have dZ25 : Nonempty (L2.Dn (L2.KOf KX) mg "order_width" K.a5E ["graph", "order"]) := by
   dsimp only [L2.KOf]
   refine' L2.dn_mk2 KX G ?a ?l ?c ?k rfl (fun _ _ _ _ _ _ _ _ => rfl)
   (case a => k_is); (case l => k_is); (case c => k_is); (case k => k_is)
  obtain ⟨dZ25⟩ := dZ25
  have dZ35 : Nonempty (L2.Dn (L2.KOf KX) mg "tree_of" K.b1Y ["graph", "order"]) := by
   dsimp only [L2.KOf]
   refine' L2.dn_mk2 KX G ?a ?l ?c ?k rfl (fun _ _ _ _ _ _ _ _ => rfl)
   (case a => k_is); (case l => k_is); (case c => k_is); (case k => k_is)
  obtain ⟨dZ35⟩ := dZ35
  have dZ1 : Nonempty (L2.Dn (L2.KOf KX) mg "_law_cell" K.a7L ["_law_script", "_law_k"]) := by
   dsimp only [L2.KOf]
   refine' L2.dn_mk2 KX G ?a ?l ?c ?k rfl (fun _ _ _ _ _ _ _ _ => rfl)
   (case a => k_is); (case l => k_is); (case c => k_is); (case k => k_is)
  obtain ⟨dZ1⟩ := dZ1
  have dZ4 : Nonempty (L2.Dn (L2.KOf KX) mg "_law_turned" K.a5G ["_law_script", "_law_n", "_law_first"]) := by
   dsimp only [L2.KOf]
   refine' L2.dn_mk3 KX G ?a ?l ?c ?k rfl (fun _ _ _ _ _ _ _ _ _ => rfl)
   (case a => k_is); (case l => k_is); (case c => k_is); (case k => k_is)
  obtain ⟨dZ4⟩ := dZ4
  have dZ0 : Nonempty (L2.Dn (L2.KOf KX) mg "_law_amid" K.a7M ["_law_pairs", "_law_at", "_law_v"]) := by
   dsimp only [L2.KOf]
   refine' L2.dn_mk3 KX G ?a ?l ?c ?k rfl (fun _ _ _ _ _ _ _ _ _ => rfl)
   (case a => k_is); (case l => k_is); (case c => k_is); (case k => k_is)
  obtain ⟨dZ0⟩ := dZ0
  have dZ3 : Nonempty (L2.Dn (L2.KOf KX) mg "_law_ties" K.a4L ["_law_script", "_law_n"]) := by
   dsimp only [L2.KOf]
   refine' L2.dn_mk2 KX G ?a ?l ?c ?k rfl (fun _ _ _ _ _ _ _ _ => rfl)
   (case a => k_is); (case l => k_is); (case c => k_is); (case k => k_is)
  obtain ⟨dZ3⟩ := dZ3
  have dZ2 : Nonempty (L2.Dn (L2.KOf KX) mg "_law_family" K.a3H ["_law_web", "_law_found"]) := by
   dsimp only [L2.KOf]
   refine' L2.dn_mk2 KX G ?a ?l ?c ?k rfl (fun _ _ _ _ _ _ _ _ => rfl)
   (case a => k_is); (case l => k_is); (case c => k_is); (case k => k_is)
  obtain ⟨dZ2⟩ := dZ2
  have dZ19 : Nonempty (L2.Dn (L2.KOf KX) mg "law" K.c4B ["_law_script"]) := by
   dsimp only [L2.KOf]
   refine' L2.dn_mk1 KX G ?a ?l ?c ?k rfl (fun _ _ _ _ _ _ _ => rfl)
   (case a => k_is); (case l => k_is); (case c => k_is); (case k => k_is)
  obtain ⟨dZ19⟩ := dZ19
  exact L2.law_at hmg dZ19 fun base => K.d2E B dZ16 dZ12 dZ15 dZ6 dZ17 dZ20 dZ5 dZ14 dZ27 dZ26 dZ30 dZ34 dZ28 dZ23 dZ8 dZ33 dZ38 dZ32 dZ21 dZ31 dZ36 dZ10 dZ9 dZ11 dZ13 dZ7 dZ22 dZ37 dZ24 dZ18 dZ29 dZ25 dZ35 dZ1 dZ4 dZ0 dZ3 dZ2 dZ19
 case S => exact fun K H a ns hl hO hS => ⟨a, ns, rfl, Lw.Scr.of hO hS, hl, fun _ => rfl⟩
 case C => exact fun _ _ _ _ z => z
