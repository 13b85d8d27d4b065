import PyProof.Rows.All
import Wide.All
import OpenK.AllK
import Wide.FinOn
import Lean
import PyProof.EqAt
import PyProof.EqKinds
import PyProof.TupleCall
import PyProof.SetScanFacts
import PyProof.SetKind
import PyProof.DictKinds
import PyProof.FactsAll.set_0
import PyProof.FactsAll.set_1
import PyProof.FactsAll.set_2
import PyProof.FactsAll.set_3
import PyProof.FactsSeq
import PyProof.CollectWalk
import PyProof.ListRange
import PyProof.ZipIter
import PyProof.MeetsSeq
import PyProof.IsRules
import PyProof.Rows.ZipGen
import PyProof.SumWalkG
import PyProof.DictWalks
import PyProof.Rows.SortShell
import PyProof.Rows.SetFrom
import PyProof.SetRoads
import KE.KIntText
import KE.IntTextLaws
import PyProof.StrWalks
import PyProof.StrOps2
import PyProof.SliceStr2
import PyProof.PureStr
import PyProof.StrCalls3
import PyProof.Rows.StrMadeLen
import PyProof.StrLawsIn
import PySem.Challenge.RW_bagwood_k49_whole_low_widths
set_option Elab.async false
set_option linter.all false
set_option maxRecDepth 100000
local macro_rules | `(tactic| omega) => `(tactic| first | lia | omega (config := {}))
abbrev Φρ:=PySem.W.Frag
abbrev ζζ:=Int × Int
theorem τα {α:Type} {l:List α} {i:Nat} {a:α}:l.getD i a = l[i]?.getD a:=List.getD_eq_getElem?_getD ..
namespace L2
open PySem PySem.Spec PyProof.Rows
abbrev Key:=Sum Int Str
def c4G:Key->Value->Bool
 | .inl k,v=>Value.isInt k v
 | .inr x,v=>Value.isStrOf x v
def keyH (w:World):Key->Int
 | .inl k=>hashInt k
 | .inr x=>hashStr w x
theorem a1J:∀ {k:Key} {v:Value},c4G k v = true->(∃ i t,k = Sum.inl i/\v = Value.int i t)\/(∃ x t,k = Sum.inr x/\v = Value.str x t)
 | .inl i,v,h=>by
  obtain ⟨t,e⟩:=Value.isInt_shape (k:=i) (v:=v) h
  exact .inl ⟨i,t,rfl,e⟩
 | .inr x,v,h=>by
  obtain ⟨t,e⟩:=Value.isStrOf_shape (x:=x) (v:=v) h
  exact .inr ⟨x,t,rfl,e⟩
theorem c4H (a b:Int):decide ((Sum.inl a:Key) = Sum.inl b) = (a == b):=by
 by_cases e:a = b
 ·subst e; simp
 ·have h:¬ (Sum.inl a:Key) = Sum.inl b:=λ q=>e (Sum.inl.inj q)
  rw [decide_eq_false h]
  exact (beq_eq_false_iff_ne.mpr e).symm
theorem c4I (a b:Str):decide ((Sum.inr a:Key) = Sum.inr b) = decide (a = b):=by
 by_cases e:a = b
 ·subst e; simp
 ·have h:¬ (Sum.inr a:Key) = Sum.inr b:=λ q=>e (Sum.inr.inj q)
  rw [decide_eq_false h,decide_eq_false e]
theorem c4J (a:Int) (b:Str):decide ((Sum.inl a:Key) = Sum.inr b) = false:=decide_eq_false (λ q=>nomatch q)
theorem c4K (a:Str) (b:Int):decide ((Sum.inr a:Key) = Sum.inl b) = false:=decide_eq_false (λ q=>nomatch q)
def b0M (prog:Program) (w:World):PySem.KeyKind prog w Key where
 is:=c4G
 hash:=keyH w
 inj:=λ v a b ha hb=>by
  rcases a1J ha with ⟨i,t,rfl,rfl⟩ | ⟨x,t,rfl,rfl⟩
  ·rcases a1J hb with ⟨j,u,rfl,e⟩ | ⟨y,u,rfl,e⟩
   ·injection e with e1 _; rw [e1]
   ·exact nomatch e
  ·rcases a1J hb with ⟨j,u,rfl,e⟩ | ⟨y,u,rfl,e⟩
   ·exact nomatch e
   ·injection e with e1 _; rw [e1]
 byValue:=λ k v h=>by
  rcases a1J h with ⟨i,t,rfl,rfl⟩ | ⟨x,t,rfl,rfl⟩ <;> rfl
 pyHash:=λ hv h=>by
  rcases a1J hv with ⟨i,t,rfl,rfl⟩ | ⟨x,t,rfl,rfl⟩
  ·exact wpAny_pyHash_int h
  ·exact wpAny_pyHash_str h
 eqBool:=λ hu hv h=>by
  rcases a1J hu with ⟨i,t,rfl,rfl⟩ | ⟨x,t,rfl,rfl⟩
  ·rcases a1J hv with ⟨j,u,rfl,rfl⟩ | ⟨y,u,rfl,rfl⟩
   ·rw [c4H] at h; exact wpAny_eqBool_int h
   ·rw [c4J] at h; exact SeqAt.EqAt.int_str i t y u _ _ _ _ h
  ·rcases a1J hv with ⟨j,u,rfl,rfl⟩ | ⟨y,u,rfl,rfl⟩
   ·rw [c4K] at h; exact SeqAt.EqAt.str_int x t j u _ _ _ _ h
   ·rw [c4I] at h; exact wpAny_eqBool_str h
 «strs» := λ k x t v h=>by
  rcases a1J h with ⟨i,u,rfl,e⟩ | ⟨y,u,rfl,e⟩
  ·exact nomatch e
  ·injection e with e1 _
   subst e1
   cases v <;> rfl
end L2
namespace L2
open PySem PySem.Spec PyProof.Rows
inductive V where
 | non | bl (b:Bool) | int (i:Int) | str (x:Str) | byt (b:Array UInt8) | flt (b:UInt64) | ref (a:Addr) | ty (n:String)
 deriving DecidableEq
def RelV:V->Value->Prop
 | .non,u=>u = Value.none
 | .bl b,u=>u = Value.bool b
 | .int i,u=>∃ t,u = Value.int i t
 | .str x,u=>∃ t,u = Value.str x t
 | .byt b,u=>∃ t,u = Value.bytes b t
 | .flt b,u=>∃ t,u = Value.float b t
 | .ref a,u=>u = Value.ref a
 | .ty n,u=>u = Value.type n
abbrev Vals:List V->List Value->Prop:=Paired RelV
theorem Vals.length {xs:List V} {us:List Value} (r:Vals xs us):xs.length = us.length:=Paired.length r
theorem Vals.get:∀ {xs:List V} {us:List Value} {i:Nat} {x:V},Vals xs us->xs[i]? = some x->∃ u,us[i]? = some u/\RelV x u
 | _,_,_,_,.nil,e=>by simp at e
 | _,_,0,_,.cons r _,e=>by simp at e; subst e; exact ⟨_,rfl,r⟩
 | _,_,i + 1,x,.cons _ t,e=>by
  obtain ⟨u,h1,h2⟩:=Vals.get (i:=i) (x:=x) t (by simpa using e)
  exact ⟨u,by simpa using h1,h2⟩
theorem Vals.set {x:V} {u:Value} (r:RelV x u):∀ {xs:List V} {us:List Value} (i:Nat),Vals xs us->Vals (xs.set i x) (us.set i u)
 | _,_,_,.nil=>.nil
 | _,_,0,.cons _ t=>.cons r t
 | _,_,i + 1,.cons q t=>.cons q (Vals.set r i t)
theorem Vals.append:∀ {xs ys:List V} {us ws:List Value},Vals xs us->Vals ys ws->Vals (xs ++ ys) (us ++ ws)
 | _,_,_,_,.nil,s=>s
 | _,_,_,_,.cons r t,s=>.cons r (Vals.append t s)
theorem Vals.take:∀ {xs:List V} {us:List Value} (n:Nat),Vals xs us->Vals (xs.take n) (us.take n)
 | _,_,0,_=>.nil
 | _,_,_ + 1,.nil=>.nil
 | _,_,n + 1,.cons r t=>.cons r (Vals.take n t)
theorem Vals.drop:∀ {xs:List V} {us:List Value} (n:Nat),Vals xs us->Vals (xs.drop n) (us.drop n)
 | _,_,0,r=>r
 | _,_,_ + 1,.nil=>.nil
 | _,_,n + 1,.cons _ t=>Vals.drop n t
def RelO:Option V->Option Value->Prop
 | some v,some u=>RelV v u
 | none,none=>True
 | _,_=>False
def KV {κ:Type}:List (κ × V)->List (κ × Value)->Prop:=Paired λ (p:κ × V) (q:κ × Value)=>p.1 = q.1/\RelV p.2 q.2
def kV:Key->V
 | .inl i=>.int i
 | .inr x=>.str x
inductive HO where
  | lst (xs:List V)
  | tup (xs:List V)
  | dK (kvs:List (Key × V)) | dT (kvs:List (List Key × V))
  | set (S:Int->Bool) (n:Nat)
  | ins (C dx:Addr) (fs:List (Str × V))
  | own (x:Addr)
  | xd (fs:List (Str × V))
  | met (f x:Addr)
  | rng (lo hi:Int)
  | frz (o:Obj) (u:HO)
  | tbl (ps:Array Value)
  | ext (φ:Heap->Prop)
abbrev Hp:=Addr->Option HO
def upd (H:Hp) (a:Addr) (o:HO):Hp:=λ b=>if b = a then some o else H b
theorem a4A {H:Hp} {a:Addr} {o:HO}:upd H a o a = some o:=by unfold upd; rw [if_pos rfl]
theorem a1I {H:Hp} {a b:Addr} {o:HO} (h:b ≠ a):upd H a o b = H b:=by unfold upd; rw [if_neg h]
theorem c6K {H:Hp} {a b:Addr} {o u:HO} (h:H a = some o) (h':H b = some u) (d:o ≠ u):a ≠ b:=by
 intro e; subst e; rw [h] at h'; exact d (Option.some.inj h')
theorem a0Z {H:Hp} {a b:Addr} {o:HO} (h:H a = some o) (h':H b = none):a ≠ b:=by
 intro e; subst e; rw [h] at h'; cases h'
section
variable (P:Program) (w:World)
def ObjOk (H:Hp) (h:Heap) (a:Addr):HO->Prop
 | .lst xs=>xs.length <= sizeLine/\∃ (its:List Value) (n:Nat),Vals xs its/\h.get? a = some { cls:=.type "list", data:=.seq its.toArray n }
 | .tup xs=>xs.length <= sizeLine/\∃ its:List Value,Vals xs its/\IsTup h a its.toArray
 | .dK kvs=>kvs.length <= sizeLine/\(a == sysModules) = false/\∃ vs,KV kvs vs/\h.DictOf (b0M P w) a vs
 | .dT kvs=>kvs.length <= sizeLine/\(a == sysModules) = false/\∃ xs:List (List Key × Addr × Value),
   Paired (λ (p:List Key × V) (q:List Key × Addr × Value)=>p.1 = q.1/\H q.2.1 = some (.tup (p.1.map kV))/\RelV p.2 q.2.2) kvs xs /\
   ∃ o es ep,h.get? a = some o/\o.ExactDict/\o.data = .dict es ep/\es.toList = xs.map (entryOfKey (tupleKind (b0M P w)))/\(xs.map (·.1)).Nodup
 | .set S n=>h.SetOf (intKind P w) a S n
 | .ins C dx fs=>H dx = some (.own a)/\fs.length <= 1000/\dx ≠ a/\h.get? a = some (PySem.W.instObj C dx) /\
   ∃ mA,h.Ns1 dx mA/\(∀ f,RelO (fs.lookup f) (mA f))/\PySem.Within mA (fs.map (·.1))
 | .own _=>∃ o,h.get? a = some o
 | .xd fs=>∃ mA,h.Ns1 a mA/\∀ f,RelO (fs.lookup f) (mA f)
 | .rng lo hi=>∃ t u v,h.get? a = some { cls:=.type "range", data:=.fields #[.int lo t,.int hi u,.int 1 v] }
 | .frz o u=>h.get? a = some o/\ObjOk H h a u
 | .tbl ps=>h.get? a = some { cls:=.none,data:=.fields ps }
 | .met f x=>h.get? a = some (PySem.W.methodObj (.ref f) (.ref x))
 | .ext φ=>φ h/\(∃ o,h.get? a = some o)/\∀ h1 h2:Heap,φ h1->(∀ o,h1.get? a = some o->h2.get? a = some o)->φ h2
def HOk (H:Hp) (h:Heap):Prop:=∀ a o,H a = some o->ObjOk P w H h a o
end
section
variable {P:Program} {w:World} {H H':Hp} {h h':Heap} {a:Addr} {o:HO}
theorem ObjOk.lt (x:ObjOk P w H h a o):a < h.objs.size:=by
 cases o with
 | lst xs=>obtain ⟨_,_,_,_,e⟩:=x; exact Heap.lt_size e
 | tup xs=>obtain ⟨_,_,_,p⟩:=x; exact p.lt
 | dK kvs=>obtain ⟨_,_,_,_,o,_,_,e,_⟩:=x; exact Heap.lt_size e
 | dT kvs=>obtain ⟨_,_,_,_,o,_,_,e,_⟩:=x; exact Heap.lt_size e
 | set S n=>obtain ⟨o,_,_,_,e,_⟩:=x; exact Heap.lt_size e
 | ins C dx fs=>obtain ⟨_,_,_,e,_⟩:=x; exact Heap.lt_size e
 | own y=>obtain ⟨_,e⟩:=x; exact Heap.lt_size e
 | xd fs=>obtain ⟨_,⟨_,_,_,e,_⟩,_⟩:=x; exact Heap.lt_size e
 | rng lo hi=>obtain ⟨_,_,_,e⟩:=x; exact Heap.lt_size e
 | frz ob u=>obtain ⟨e,_⟩:=x; exact Heap.lt_size e
 | tbl ps=>exact Heap.lt_size (show h.get? a = some _ from x)
 | met f y=>exact Heap.lt_size (show h.get? a = some _ from x)
 | ext φ=>obtain ⟨_,⟨_,e⟩,_⟩:=x; exact Heap.lt_size e
theorem Paired.mapP {α β:Type} {F G:α->β->Prop}:∀ {l₁:List α} {l₂:List β},Paired F l₁ l₂->(∀ a b,F a b->G a b)->Paired G l₁ l₂
 | _,_,.nil,_=>.nil
 | _,_,.cons r t,f=>.cons (f _ _ r) (Paired.mapP t f)
theorem ObjOk.stay (x:ObjOk P w H h a o) (k:∀ b u,(b = a\/H b = some (.own a))->h.get? b = some u->h'.get? b = some u)
  (ho:∀ b,H b = some (.own a)->H' b = some (.own a)) (ht:∀ b xs,H b = some (.tup xs)->H' b = some (.tup xs)):ObjOk P w H' h' a o:=by
 induction o with
 | lst xs=>obtain ⟨z,its,n,r,e⟩:=x; exact ⟨z,its,n,r,k _ _ (.inl rfl) e⟩
 | tup xs=>obtain ⟨z,its,r,ob,e,c⟩:=x; exact ⟨z,its,r,ob,k _ _ (.inl rfl) e,c⟩
 | dK kvs=>obtain ⟨z,y,vs,r,ob,es,ep,e,c⟩:=x; exact ⟨z,y,vs,r,ob,es,ep,k _ _ (.inl rfl) e,c⟩
 | dT kvs =>
  obtain ⟨z,y,xs,r,ob,es,ep,e,c⟩:=x
  exact ⟨z,y,xs,Paired.mapP r λ p q z=>⟨z.1,ht _ _ z.2.1,z.2.2⟩,ob,es,ep,k _ _ (.inl rfl) e,c⟩
 | set S n=>obtain ⟨ob,es,ep,t,e,c⟩:=x; exact ⟨ob,es,ep,t,k _ _ (.inl rfl) e,c⟩
 | ins C dx fs =>
  obtain ⟨d,z,ne,e,mA,⟨od,es,ep,e2,c⟩,r⟩:=x
  exact ⟨ho _ d,z,ne,k _ _ (.inl rfl) e,mA,⟨od,es,ep,k _ _ (.inr d) e2,c⟩,r⟩
 | own y=>obtain ⟨ob,e⟩:=x; exact ⟨ob,k _ _ (.inl rfl) e⟩
 | xd fs=>obtain ⟨mA,⟨od,es,ep,e,c⟩,r⟩:=x; exact ⟨mA,⟨od,es,ep,k _ _ (.inl rfl) e,c⟩,r⟩
 | rng lo hi=>obtain ⟨t,u,v,e⟩:=x; exact ⟨t,u,v,k _ _ (.inl rfl) e⟩
 | frz ob u ih=>obtain ⟨e,q⟩:=x; exact ⟨k _ _ (.inl rfl) e,ih q⟩
 | tbl ps =>
  have e:h.get? a = some { cls:=.none,data:=.fields ps }:=x
  show h'.get? a = some { cls:=.none,data:=.fields ps }
  exact k a _ (.inl rfl) e
 | met f y =>
  have e:h.get? a = some (PySem.W.methodObj (.ref f) (.ref y)):=x
  show h'.get? a = some (PySem.W.methodObj (.ref f) (.ref y))
  exact k a _ (.inl rfl) e
 | ext φ=>obtain ⟨p,⟨o,e⟩,st⟩:=x; exact ⟨st _ _ p λ o q=>k _ _ (.inl rfl) q,⟨o,k _ _ (.inl rfl) e⟩,st⟩
theorem HOk.lt (x:HOk P w H h) (e:H a = some o):a < h.objs.size:=(x a o e).lt
theorem HOk.fresh (x:HOk P w H h) (e:h.objs.size <= a):H a = none:=by
 cases q:H a with
 | none=>rfl
 | some u=>exact absurd (Nat.lt_of_lt_of_le (x.lt q) e) (Nat.lt_irrefl _)
theorem HOk.kept (x:HOk P w H h) (k:∀ b u,h.get? b = some u->h'.get? b = some u):HOk P w H h':=λ a o e =>
 (x a o e).stay (λ b u _ q=>k b u q) (λ _ q=>q) λ _ _ q=>q
theorem HOk.laid (x:HOk P w H h) (k:∀ b u,h.get? b = some u->h'.get? b = some u) (hp:h.objs.size <= a) (new:ObjOk P w (upd H a o) h' a o):HOk P w (upd H a o) h':=λ b u e=>by
 have hn:=x.fresh hp
 by_cases hb:b = a
 ·subst hb; rw [a4A] at e; cases e; exact new
 ·rw [a1I hb] at e
  exact (x b u e).stay (λ c v _ q=>k c v q) (λ c q=>by rw [a1I (a0Z q hn)]; exact q) λ c xs q=>by rw [a1I (a0Z q hn)]; exact q
end
def Rd (H:Hp) (a:Addr) (u:HO):Prop:=H a = some u\/∃ o,H a = some (.frz o u)
theorem Rd.ok {P:Program} {w:World} {H:Hp} {h:Heap} {a:Addr} {u:HO} (r:Rd H a u) (x:HOk P w H h):ObjOk P w H h a u:=by
 rcases r with r | ⟨o,r⟩
 ·exact x a u r
 ·obtain ⟨_,q⟩:=x a _ r
  exact q
def Mut:Option HO->Prop
 | some (.lst _)=>True
 | some (.dK _)=>True
 | some (.dT _)=>True
 | some (.set _ _)=>True
 | some (.ins _ _ _)=>True
 | some (.ext _)=>True
 | _=>False
section
variable {P:Program} {w:World} {H:Hp} {h h':Heap} {x e:Addr} {o':HO}
theorem HOk.write (ok:HOk P w H h) (mu:Mut (H x)) (he:e = x\/H e = some (.own x)) (k:∀ b u,b ≠ e->h.get? b = some u->h'.get? b = some u) (heo:∃ u,h'.get? e = some u)
  (new:ObjOk P w (upd H x o') h' x o'):HOk P w (upd H x o') h':=λ b u q=>by
 have nown:∀ c y,H c = some (.own y)->c ≠ x:=λ c y r z=>by subst z; rw [r] at mu; exact mu
 have ntup:∀ c xs,H c = some (.tup xs)->c ≠ x:=λ c xs r z=>by subst z; rw [r] at mu; exact mu
 by_cases hb:b = x
 ·subst hb; rw [a4A] at q; cases q; exact new
 ·rw [a1I hb] at q
  by_cases hbe:b = e
  ·have q':H b = some (.own x):=by
    rcases he with z | z
    ·exact absurd (hbe.trans z) hb
    ·rw [hbe]; exact z
   rw [q] at q'; cases q'
   obtain ⟨v,hv⟩:=heo
   exact ⟨v,by rw [hbe]; exact hv⟩
  ·refine (ok b u q).stay (λ c v hc r=>k c v ?_ r) (λ c r=>by rw [a1I (nown c b r)]; exact r) λ c xs r=>by rw [a1I (ntup c xs r)]; exact r
   rcases hc with rfl | hc
   ·exact hbe
   ·rintro rfl
    rcases he with z | z
    ·exact nown c b hc z
    ·rw [hc] at z; cases z; exact hb rfl
end
structure Un (fs ex:List Addr) (H H':Hp) (h h':Heap):Prop where
 keep:∀ b o,h.get? b = some o->H b = none->b ∉ fs->b ∉ ex->h'.get? b = some o
 slot:∀ b o,h.get? b = some o->H b = none->b ∈ fs->b ∉ ex->∃ sl,h'.get? b = some { o with slots:=sl }
 free:∀ b o,h.get? b = some o->H b = none->b ∉ ex->H' b = none
 there:∀ b o,h.get? b = some o->b ∉ ex->∃ o',h'.get? b = some o'
 tups:∀ b xs,H b = some (.tup xs)->H' b = some (.tup xs)
 frzs:∀ b o u,H b = some (.frz o u)->H' b = some (.frz o u)
 tbls:∀ b ps,H b = some (.tbl ps)->∃ more,H' b = some (.tbl (ps ++ more))
section
variable {fs fs' ex ex':List Addr} {H H1 H2:Hp} {h h1 h2 h':Heap} {a x e:Addr} {o:HO}
theorem Un.any (u:Un fs ex H H1 h h1) {b:Addr} {ob:Obj} (q:h.get? b = some ob) (n:H b = none) (hx:b ∉ ex):∃ sl,h1.get? b = some { ob with slots:=sl }:=by
 by_cases hb:b ∈ fs
 ·exact u.slot b ob q n hb hx
 ·exact ⟨ob.slots,u.keep b ob q n hb hx⟩
theorem Un.kept (k:∀ b u,h.get? b = some u->h'.get? b = some u):Un fs ex H H h h' :=
 ⟨λ b ob q _ _ _=>k b ob q,λ b ob q _ _ _=>⟨ob.slots,k b ob q⟩,λ _ _ _ n _=>n,λ b ob q _=>⟨ob,k b ob q⟩,λ _ _ q=>q,λ _ _ _ q=>q,λ _ ps q=>⟨#[],by rw [q]; simp⟩⟩
theorem Un.refl:Un fs ex H H h h:=Un.kept λ _ _ q=>q
theorem Un.laid (k:∀ b u,h.get? b = some u->h'.get? b = some u) (hp:h.objs.size <= a) (hn:H a = none):Un fs ex H (upd H a o) h h' where
 keep:=λ b u q _ _ _=>k b u q
 slot:=λ b u q _ _ _=>⟨u.slots,k b u q⟩
 free:=λ b u q n _=>by rw [a1I (Nat.ne_of_lt (Nat.lt_of_lt_of_le (Heap.lt_size q) hp))]; exact n
 there:=λ b u q _=>⟨u,k b u q⟩
 tups:=λ b xs q=>by rw [a1I (a0Z q hn)]; exact q
 frzs:=λ b u xs q=>by rw [a1I (a0Z q hn)]; exact q
 tbls:=λ b ps q=>⟨#[],by rw [a1I (a0Z q hn),q]; simp⟩
theorem Un.write (mu:Mut (H x)) (he:e = x\/H e = some (.own x)) (k:∀ b u,b ≠ e->h.get? b = some u->h'.get? b = some u) (heo:∃ u,h'.get? e = some u):Un fs ex H (upd H x o) h h':=by
 have hx:∀ b,H b = none->b ≠ x:=λ b n z=>by subst z; rw [n] at mu; exact mu
 have hb:∀ b,H b = none->b ≠ e:=λ b n z=>by
  subst z
  rcases he with r | r
  ·exact hx b n r
  ·rw [n] at r; cases r
 have hm:∀ b u,H b = some u->¬ Mut (some u)->b ≠ x:=λ b u q nm z=>by subst z; rw [q] at mu; exact nm mu
 refine ⟨λ b u q n _ _=>k b u (hb b n) q,λ b u q n _ _=>⟨u.slots,k b u (hb b n) q⟩,λ b u q n _=>by rw [a1I (hx b n)]; exact n,λ b u q _=>?_,
  λ b xs q=>by rw [a1I (hm b _ q λ z=>z)]; exact q,λ b u xs q=>by rw [a1I (hm b _ q λ z=>z)]; exact q,λ b ps q=>⟨#[],by rw [a1I (hm b _ q λ z=>z),q]; simp⟩⟩
 by_cases hbe:b = e
 ·subst hbe; exact heo
 ·exact ⟨u,k b u hbe q⟩
end
def trk (h:Heap) (H:Hp):List Addr:=(List.range h.objs.size).filter λ a=>(H a).isSome
def hidT (h:Heap) (H:Hp):Heap:=PySem.W.hideAll h (trk h H)
theorem b4F (h:Heap) (H:Hp):(hidT h H).objs.size = h.objs.size:=PySem.W.hideAll_size _ _
theorem b7Z {h:Heap} {H:Hp} {b:Addr} {o:Obj} (e:h.get? b = some o) (n:H b = none):(hidT h H).get? b = some o :=
 PySem.W.hideAll_get _ e λ hm=>by
  have q:(H b).isSome = true:=(List.mem_filter.mp hm).2
  rw [n] at q; simp at q
theorem c1J {h:Heap} {H:Hp} {b:Addr} {o:Obj} (e:(hidT h H).get? b = some o):h.get? b = some o/\H b = none:=by
 have e':h.get? b = some o:=PySem.W.of_hideAll (trk h H) e
 refine ⟨e',?_⟩
 cases q:H b with
 | none=>rfl
 | some x =>
  have hm:b ∈ trk h H:=List.mem_filter.mpr ⟨List.mem_range.mpr (Heap.lt_size e'),by simp [q]⟩
  have z:(hidT h H).get? b = none:=PySem.W.hideAll_none (trk h H) hm
  rw [z] at e; cases e
end L2
namespace L2
open PySem PySem.Spec PyProof.Rows
structure Mod (K:Φρ) (mg:Str->Option Value) (base:Heap):Prop where
 kin:K.In base
 glob:base.Ns mainGlobals mg
 blt:∃ mb,base.Ns builtinsNs mb/\∀ x:Str,x ≠ "__name__" -> mb x = bootBuiltins x
 nolimit:base.NoLimit
structure Cx where
 prog:Program
 w:World
 K:Φρ
 mg:Str->Option Value
 base:Heap
 A:Around
 N:List Str
 s₀:Shared
 H₀:Hp
 env:Env
 outer:List Env
 stack:List Env
 ex:List Addr
 fn:Str->Bool
 calm:Bool
 pn:List (Addr × Obj)
 xe:Value->Shared->Prop
def frs (l:List Env):List Addr:=l.filterMap (·.frame)
abbrev Cx.fs (X:Cx):List Addr:=frs X.outer
def Vis (sc:Scope) (x:Str):Prop:=sc.names.lookup x = some .local\/sc.names.lookup x = some .cell\/sc.names.lookup x = some .free
def Loc (sc:Scope) (x:Str):Prop:=sc.names.lookup x = some .local\/sc.names.lookup x = some .cell
def Look (env:Env) (h:Heap) (m:Str->Option Value) (x:Str) (u:Value):Prop :=
 (env.kindOf x = some .local/\m x = some u)\/((env.kindOf x = some .cell\/env.kindOf x = some .free)/\∃ c,env.cells.lookup x = some c/\h.IsCell c (some u))
structure Cx.Ok (X:Cx):Prop where
 mod:Mod X.K X.mg X.base
 kind:X.env.scope.kind = .function
 glob:X.env.globals = mainGlobals
 blt:X.env.builtins = builtinsNs
 above:X.s₀.heap.objs.size <= X.env.locals
 inj:∀ x y c,X.env.cells.lookup x = some c->X.env.cells.lookup y = some c->x = y
 has:∀ x,(X.env.kindOf x = some .cell\/X.env.kindOf x = some .free)->∃ c,X.env.cells.lookup x = some c
 cab:∀ x c,X.fn x = true->X.env.cells.lookup x = some c->X.s₀.heap.objs.size <= c
 hd:X.calm = true->X.A.handled = none
 frames:X.A.frames = some X.stack
 stk:X.stack = X.outer\/(X.stack = X.env :: X.outer/\X.env.frame = some X.env.locals)
 exf:∀ b ∈ X.ex,b ≠ X.env.locals/\∀ x c,X.env.cells.lookup x = some c->c ≠ b
 bs:∀ b o,X.base.get? b = some o->X.s₀.heap.get? b = some o/\X.H₀ b = none
 bsz:X.base.objs.size <= X.s₀.heap.objs.size
 noex:∀ b o,X.base.get? b = some o->b ∉ X.ex
 exfs:∀ b ∈ X.ex,b ∉ X.fs
 funs:X.s₀.heap.FunFrames X.base X.outer
 frf:∀ b ∈ X.fs,X.H₀ b = none
structure Inv (X:Cx) (pins:List (Addr × Obj)) (σ:List (Option V)) (H:Hp) (s:Shared):Prop where
 ok:X.Ok
 os:s.os = X.s₀.os
 bare:AllBare s.gens
 base:Un X.fs X.ex X.H₀ H X.s₀.heap s.heap
 loc:∃ m,s.heap.Ns X.env.locals m/\∀ (i:Nat) (x:Str) (v:V),X.N[i]? = some x->σ[i]? = some (some v)->Vis X.env.scope x->∃ u,RelV v u/\Look X.env s.heap m x u
 cell:∀ x c,X.env.cells.lookup x = some c->∃ v,s.heap.IsCell c v
 free:H X.env.locals = none
 freeC:∀ x c,X.env.cells.lookup x = some c->H c = none
 pin:∀ p ∈ X.pn ++ pins,s.heap.get? p.1 = some p.2/\H p.1 = none/\p.1 ≠ X.env.locals/\p.1 ∉ X.fs/\∀ v,p.2.data ≠ .cell v
 hok:HOk X.prog X.w H s.heap
 len:σ.length = X.N.length
section
variable {X:Cx} {pins:List (Addr × Obj)} {σ:List (Option V)} {H H':Hp} {s:Shared} {h':Heap}
theorem Cx.Ok.nofr (ok:X.Ok) {b:Addr} {o:Obj} (e:X.base.get? b = some o):b ∉ X.fs:=λ hb=>by
 have:=(ok.funs.mem hb).1
 rw [e] at this; cases this
theorem Inv.bs (I:Inv X pins σ H s):∀ b o,X.base.get? b = some o->s.heap.get? b = some o/\H b = none:=λ b o e =>
 ⟨I.base.keep b o (I.ok.bs b o e).1 (I.ok.bs b o e).2 (I.ok.nofr e) (I.ok.noex b o e),I.base.free b o (I.ok.bs b o e).1 (I.ok.bs b o e).2 (I.ok.noex b o e)⟩
theorem Inv.bk (I:Inv X pins σ H s):∀ b o,X.base.get? b = some o->s.heap.get? b = some o:=λ b o e=>(I.bs b o e).1
theorem Inv.mod (I:Inv X pins σ H s):Mod X.K X.mg X.base:=I.ok.mod
theorem Inv.kIn (I:Inv X pins σ H s):X.K.In s.heap:=I.ok.mod.kin.keeps I.bk
theorem Inv.lt (I:Inv X pins σ H s):X.env.locals < s.heap.objs.size:=let ⟨_,hn,_⟩:=I.loc; hn.lt
theorem Inv.sz (I:Inv X pins σ H s):X.s₀.heap.objs.size <= s.heap.objs.size:=Nat.le_trans I.ok.above (Nat.le_of_lt I.lt)
theorem Inv.nofs (I:Inv X pins σ H s) {a:Addr} (h:s.heap.objs.size <= a):a ∉ X.fs:=λ hb=>by
 obtain ⟨_,o,ho,_⟩:=I.ok.funs.mem hb
 exact absurd (Nat.lt_of_lt_of_le (Heap.lt_size ho) (Nat.le_trans I.sz h)) (Nat.lt_irrefl _)
theorem Inv.cne (I:Inv X pins σ H s):∀ x c,X.env.cells.lookup x = some c->c ≠ X.env.locals:=λ x c e z=>by
 obtain ⟨v,o,ho,hd⟩:=I.cell x c e
 obtain ⟨m,⟨o',es,ep,ho',hd',_⟩,_⟩:=I.loc
 rw [z,ho'] at ho; cases ho; rw [hd'] at hd; cases hd
theorem Inv.funs (I:Inv X pins σ H s):s.heap.FunFrames X.base X.outer:=by
 have all:∀ (l:List Env),(∀ b ∈ frs l,b ∈ X.fs)->X.s₀.heap.FunFrames X.base l->s.heap.FunFrames X.base l:=by
  intro l
  induction l with
  | nil=>intro _ _; trivial
  | cons env r ih =>
   intro hs hl
   obtain ⟨hk,⟨L,o,hf,hn,ho,hd⟩,hr⟩:=hl
   have hL:L ∈ X.fs:=hs L (by unfold frs; rw [List.filterMap_cons,hf]; exact List.mem_cons_self)
   obtain ⟨sl,e⟩:=I.base.slot L o ho (I.ok.frf L hL) hL λ z=>I.ok.exfs L z hL
   exact ⟨hk,⟨L,_,hf,hn,e,hd⟩,ih (λ b hb=>hs b (by unfold frs; rw [List.filterMap_cons,hf]; exact List.mem_cons_of_mem _ hb)) hr⟩
 exact all X.outer (λ _ hb=>hb) I.ok.funs
theorem Inv.stack (I:Inv X pins σ H s):s.heap.FunFrames X.base X.stack:=by
 rcases I.ok.stk with e | ⟨e,hf⟩
 ·rw [e]; exact I.funs
 ·rw [e]
  obtain ⟨m,hn,_⟩:=I.loc
  refine .cons (by rw [I.ok.kind]; decide) hf hn ?_ I.funs
  exact Heap.get?_none_of_le (Nat.le_trans I.ok.bsz I.ok.above)
theorem Inv.stkSub (I:Inv X pins σ H s):∀ b ∈ frs X.stack,b ∈ X.env.locals :: X.fs:=λ b hb=>by
 rcases I.ok.stk with e | ⟨e,hf⟩
 ·rw [e] at hb; exact List.mem_cons_of_mem _ hb
 ·rw [e] at hb
  unfold frs at hb
  rw [List.filterMap_cons,hf] at hb
  exact hb
theorem Inv.stkFree (I:Inv X pins σ H s):∀ b ∈ frs X.stack,H b = none:=λ b hb=>by
 rcases List.mem_cons.mp (I.stkSub b hb) with e | hb
 ·rw [e]; exact I.free
 ·obtain ⟨_,o,ho,_⟩:=I.ok.funs.mem hb
  exact I.base.free b o ho (I.ok.frf b hb) λ z=>I.ok.exfs b z hb
theorem Inv.step {g':Array GenState} {t':Nat} {d':Drawn} {ch:List Addr} (I:Inv X pins σ H s)
  (hch:∀ b ∈ ch,(b ∈ X.ex\/X.s₀.heap.objs.size <= b)/\b ≠ X.env.locals/\(∀ x c,X.env.cells.lookup x = some c->c ≠ b)/\∀ p ∈ X.pn ++ pins,p.1 ≠ b)
  (keep:∀ b o,b ≠ X.env.locals->b ∉ X.fs->b ∉ ch->s.heap.get? b = some o->H b = none->h'.get? b = some o)
  (slot:∀ b o,b ≠ X.env.locals->b ∈ X.fs->b ∉ ch->s.heap.get? b = some o->H b = none->∃ sl,h'.get? b = some { o with slots:=sl }) (free:∀ b o,b ∉ ch->s.heap.get? b = some o->H b = none->H' b = none)
  (there:∀ b o,b ∉ ch->s.heap.get? b = some o->∃ o',h'.get? b = some o')
  (tups:∀ b xs,H b = some (.tup xs)->H' b = some (.tup xs)) (frzs:∀ b o u,H b = some (.frz o u)->H' b = some (.frz o u)) (tbls:∀ b ps,H b = some (.tbl ps)->∃ more,H' b = some (.tbl (ps ++ more)))
  (ns:∀ m,s.heap.Ns X.env.locals m->h'.Ns X.env.locals m) (hok:HOk X.prog X.w H' h') (hg:AllBare g') :
  Inv X pins σ H' { s with heap:=h',gens:=g',drawn:=d',toks:=t' }:=by
 have neL:∀ b o,X.s₀.heap.get? b = some o->b ≠ X.env.locals:=λ b o e=>Nat.ne_of_lt (Nat.lt_of_lt_of_le (Heap.lt_size e) I.ok.above)
 have neC:∀ b o,X.s₀.heap.get? b = some o->b ∉ X.ex->b ∉ ch:=λ b o e hx hb=>by
  rcases (hch b hb).1 with z | z
  ·exact hx z
  ·exact absurd (Nat.lt_of_lt_of_le (Heap.lt_size e) z) (Nat.lt_irrefl _)
 have cellK:∀ x c,X.env.cells.lookup x = some c->∀ v,s.heap.IsCell c v->h'.IsCell c v:=λ x c e v ⟨o,ho,hd⟩=>by
  have nch:c ∉ ch:=λ z=>(hch c z).2.2.1 x c e rfl
  by_cases hc:c ∈ X.fs
  ·obtain ⟨sl,q⟩:=slot c o (I.cne x c e) hc nch ho (I.freeC x c e)
   exact ⟨_,q,hd⟩
  ·exact ⟨o,keep c o (I.cne x c e) hc nch ho (I.freeC x c e),hd⟩
 refine ⟨I.ok,I.os,hg,⟨λ b o e n hb hx=>?_,λ b o e n hb hx=>?_,λ b o e n hx=>?_,λ b o e hx=>?_,λ b xs e=>tups b xs (I.base.tups b xs e),λ b o xs e=>frzs b o xs (I.base.frzs b o xs e),λ b ps e=>?_⟩,?_,λ x c e=>?_,?_,λ x c e=>?_,λ p hp=>?_,hok,I.len⟩
 ·exact keep b o (neL b o e) hb (neC b o e hx) (I.base.keep b o e n hb hx) (I.base.free b o e n hx)
 ·obtain ⟨sl,e1⟩:=I.base.slot b o e n hb hx
  obtain ⟨sl',e2⟩:=slot b _ (neL b o e) hb (neC b o e hx) e1 (I.base.free b o e n hx)
  exact ⟨sl',e2⟩
 ·obtain ⟨o',e1⟩:=I.base.there b o e hx
  exact free b o' (neC b o e hx) e1 (I.base.free b o e n hx)
 ·obtain ⟨o',e1⟩:=I.base.there b o e hx
  exact there b o' (neC b o e hx) e1
 ·obtain ⟨m1,e1⟩:=I.base.tbls b ps e
  obtain ⟨m2,e2⟩:=tbls b _ e1
  exact ⟨m1 ++ m2,by rw [e2,Array.append_assoc]⟩
 ·obtain ⟨m,hn,hl⟩:=I.loc
  refine ⟨m,ns m hn,λ i x v e1 e2 e3=>?_⟩
  obtain ⟨u,r,l⟩:=hl i x v e1 e2 e3
  refine ⟨u,r,?_⟩
  rcases l with l | ⟨k,c,e,z⟩
  ·exact .inl l
  ·exact .inr ⟨k,c,e,cellK x c e _ z⟩
 ·obtain ⟨v,z⟩:=I.cell x c e
  exact ⟨v,cellK x c e v z⟩
 ·obtain ⟨m,⟨o,_,_,ho,_⟩,_⟩:=I.loc
  exact free _ o (λ z=>(hch _ z).2.1 rfl) ho I.free
 ·obtain ⟨v,o,ho,hd⟩:=I.cell x c e
  exact free c o (λ z=>(hch c z).2.2.1 x c e rfl) ho (I.freeC x c e)
 ·obtain ⟨e,n,ne,nf,d⟩:=I.pin p hp
  have nch:p.1 ∉ ch:=λ z=>(hch p.1 z).2.2.2 p hp rfl
  exact ⟨keep p.1 p.2 ne nf nch e n,free p.1 p.2 nch e n,ne,nf,d⟩
theorem Inv.un {t':Nat} (I:Inv X pins σ H s) (u:Un X.fs [] H H' s.heap h') (hok:HOk X.prog X.w H' h'):Inv X pins σ H' { s with heap:=h',toks:=t' }:=by
 obtain ⟨m,⟨o,es,ep,ho,r⟩,_⟩:=id I.loc
 obtain ⟨sl,hL⟩:=u.any ho I.free (by simp)
 exact I.step (g':=s.gens) (d':=s.drawn) (ch:=[]) (λ _ z=>nomatch z) (λ b o _ hb _ e n=>u.keep b o e n hb (by simp)) (λ b o _ hb _ e n=>u.slot b o e n hb (by simp)) (λ b o _ e n=>u.free b o e n (by simp)) (λ b o _ e=>u.there b o e (by simp)) u.tups u.frzs u.tbls (λ m' hm=>by
  obtain ⟨o',es',ep',ho',r'⟩:=hm
  rw [ho] at ho'; cases ho'
  exact ⟨_,es',ep',hL,r'⟩) hok I.bare
theorem Inv.call {g':Array GenState} {t':Nat} {d':Drawn} {ch:List Addr} (I:Inv X pins σ H s) (u:Un (frs X.stack) ch H H' s.heap h') (hok:HOk X.prog X.w H' h') (hg:AllBare g')
  (hch:∀ b ∈ ch,(b ∈ X.ex\/X.s₀.heap.objs.size <= b)/\b ≠ X.env.locals/\(∀ x c,X.env.cells.lookup x = some c->c ≠ b)/\∀ p ∈ X.pn ++ pins,p.1 ≠ b) :
  Inv X pins σ H' { s with heap:=h',gens:=g',drawn:=d',toks:=t' }:=by
 obtain ⟨m,⟨o,es,ep,ho,r⟩,_⟩:=id I.loc
 obtain ⟨sl,hL⟩:=u.any ho I.free λ z=>(hch _ z).2.1 rfl
 exact I.step (ch:=ch) hch (λ b o hL hb hc e n=>u.keep b o e n (λ z=>(List.mem_cons.mp (I.stkSub b z)).elim hL hb) hc) (λ b o _ _ hc e n=>u.any e n hc) (λ b o hc e n=>u.free b o e n hc) (λ b o hc e=>u.there b o e hc) u.tups u.frzs u.tbls (λ m' hm=>by
  obtain ⟨o',es',ep',ho',r'⟩:=hm
  rw [ho] at ho'; cases ho'
  exact ⟨_,es',ep',hL,r'⟩) hok hg
theorem Inv.turned {t':Nat} {it:Addr} (I:Inv X pins σ H s) (k:∀ b o,b ≠ it->s.heap.get? b = some o->h'.get? b = some o) (hn:H it = none) (hL:it ≠ X.env.locals)
  (h1:it ∈ X.ex\/X.s₀.heap.objs.size <= it) (h2:∀ x c,X.env.cells.lookup x = some c->c ≠ it) (h3:∀ p ∈ X.pn ++ pins,p.1 ≠ it):Inv X pins σ H { s with heap:=h',toks:=t' }:=by
 have nit:∀ b u,H b = some u->b ≠ it:=λ b u e z=>by rw [z,hn] at e; cases e
 refine I.step (g':=s.gens) (d':=s.drawn) (ch:=[it]) (λ b hb=>?_) (λ b o _ _ hc e _=>k b o (λ z=>hc (by simp [z])) e) (λ b o _ _ hc e _=>⟨o.slots,k b o (λ z=>hc (by simp [z])) e⟩) (λ _ _ _ _ n=>n)
  (λ b o hc e=>⟨o,k b o (λ z=>hc (by simp [z])) e⟩) (λ _ _ e=>e) (λ _ _ _ e=>e) (λ b ps e=>⟨#[],by rw [e]; simp⟩) (λ m hm=>?_) (λ b u e=>?_) I.bare
 ·have e:b = it:=by simpa using hb
  subst e
  exact ⟨h1,hL,h2,h3⟩
 ·obtain ⟨o,es,ep,ho,r⟩:=hm
  exact ⟨o,es,ep,k _ o (Ne.symm hL) ho,r⟩
 ·refine (I.hok b u e).stay (λ c v hc q=>k c v ?_ q) (λ _ q=>q) λ _ _ q=>q
  rcases hc with z | z
  ·rw [z]; exact nit b u e
  ·exact nit c _ z
theorem Inv.tok (I:Inv X pins σ H s) (t:Nat):Inv X pins σ H { s with toks:=t }:=I.un (h':=s.heap) (t':=t) Un.refl I.hok
theorem Inv.kept {t':Nat} (I:Inv X pins σ H s) (k:∀ b u,s.heap.get? b = some u->h'.get? b = some u):Inv X pins σ H { s with heap:=h',toks:=t' }:=I.un (Un.kept k) (I.hok.kept k)
theorem Inv.laid {a:Addr} {o:HO} {t':Nat} (I:Inv X pins σ H s) (k:∀ b u,s.heap.get? b = some u->h'.get? b = some u) (hp:s.heap.objs.size <= a) (new:ObjOk X.prog X.w (upd H a o) h' a o) :
  Inv X pins σ (upd H a o) { s with heap:=h',toks:=t' }:=I.un (Un.laid k hp (I.hok.fresh hp)) (I.hok.laid k hp new)
theorem Inv.write {x e:Addr} {o:HO} {t':Nat} (I:Inv X pins σ H s) (mu:Mut (H x)) (he:e = x\/H e = some (.own x)) (k:∀ b u,b ≠ e->s.heap.get? b = some u->h'.get? b = some u) (heo:∃ u,h'.get? e = some u)
  (new:ObjOk X.prog X.w (upd H x o) h' x o):Inv X pins σ (upd H x o) { s with heap:=h',toks:=t' }:=I.un (Un.write mu he k heo) (I.hok.write mu he k heo new)
theorem Inv.pins_of {pins':List (Addr × Obj)} (I:Inv X pins σ H s) (h:∀ p ∈ pins',s.heap.get? p.1 = some p.2/\H p.1 = none/\p.1 ≠ X.env.locals/\p.1 ∉ X.fs/\∀ v,p.2.data ≠ .cell v):Inv X pins' σ H s :=
 ⟨I.ok,I.os,I.bare,I.base,I.loc,I.cell,I.free,I.freeC,λ p hp=>(List.mem_append.mp hp).elim (λ z=>I.pin p (List.mem_append_left _ z)) (h p),I.hok,I.len⟩
theorem b1S {N:List Str} (hN:N.Nodup) {i j:Nat} {x:Str} (a:N[i]? = some x) (b:N[j]? = some x):i = j:=by
 obtain ⟨h1,e1⟩:=List.getElem?_eq_some_iff.mp a
 obtain ⟨h2,e2⟩:=List.getElem?_eq_some_iff.mp b
 exact (List.getElem_inj hN).mp (e1.trans e2.symm)
theorem a8S {M:Model} {A:Around} {E:Value->Shared->Prop} {i:Nat} {x:Str} {v:V} {u:Value} {Q:Unit->Shared->Prop} (I:Inv X pins σ H s) (hN:X.N.Nodup) (hi:X.N[i]? = some x) (hx:Loc X.env.scope x) (r:RelV v u)
  (h:∀ s',Inv X pins (σ.set i (some v)) H s'->(∃ a,Heap.SameBut a s.heap s'.heap/\(a = X.env.locals\/X.env.cells.lookup x = some a))->Q () s') (hf:X.fn x = true\/X.env.scope.names.lookup x = some .local:=by first | exact .inl rfl | exact .inr rfl | assumption):wpAny M A (storeName X.env x u) Q E s:=by
 obtain ⟨m,hn,hl⟩:=id I.loc
 have hcls:(X.env.scope.kind == .class || (X.env.scope.kind == .module && X.env.locals != X.env.globals)) = false:=by rw [I.ok.kind]; rfl
 have hiσ:i < σ.length:=by rw [I.len]; exact (List.getElem?_eq_some_iff.mp hi).1
 have cne:=I.cne
 have tracked:∀ {a:Addr} {h':Heap},(∃ o,s.heap.get? a = some o/\H a = none)->Heap.SameBut a s.heap h'->HOk X.prog X.w H h':=λ {a h'} ha hs b ob e=>by
  obtain ⟨_,_,hfree⟩:=ha
  refine (I.hok b ob e).stay (λ c w' hc q=>(hs.2 c ?_).trans q) (λ _ q=>q) λ _ _ q=>q
  rintro rfl
  rcases hc with rfl | hc
  ·rw [hfree] at e; cases e
  ·rw [hfree] at hc; cases hc
 rcases hx with hk | hk
 ·refine wpAny_storeName_local hk hn (λ h' hn' hs=>?_) hcls
  obtain ⟨oL,_,_,hoL,_⟩:=id hn
  refine h _ ⟨I.ok,I.os,I.bare,⟨λ b o e n hb hx=>?_,λ b o e n hb hx=>?_,I.base.free,λ b o e hx=>?_,I.base.tups,I.base.frzs,I.base.tbls⟩,⟨_,hn',λ j y v' e1 e2 e3=>?_⟩,λ y c e=>?_,I.free,I.freeC,λ p hp=>?_,tracked ⟨oL,hoL,I.free⟩ hs,by simpa using I.len⟩ ⟨_,hs,.inl rfl⟩
  ·exact (hs.2 b (Nat.ne_of_lt (Nat.lt_of_lt_of_le (Heap.lt_size e) I.ok.above))).trans (I.base.keep b o e n hb hx)
  ·obtain ⟨sl,e1⟩:=I.base.slot b o e n hb hx
   exact ⟨sl,(hs.2 b (Nat.ne_of_lt (Nat.lt_of_lt_of_le (Heap.lt_size e) I.ok.above))).trans e1⟩
  ·obtain ⟨o',e1⟩:=I.base.there b o e hx
   exact ⟨o',(hs.2 b (Nat.ne_of_lt (Nat.lt_of_lt_of_le (Heap.lt_size e) I.ok.above))).trans e1⟩
  ·by_cases hj:j = i
   ·subst hj
    rw [hi] at e1; cases e1
    rw [List.getElem?_set_self hiσ] at e2
    cases e2
    exact ⟨u,r,.inl ⟨hk,by simp⟩⟩
   ·rw [List.getElem?_set_ne (Ne.symm hj)] at e2
    obtain ⟨u',r',q⟩:=hl j y v' e1 e2 e3
    refine ⟨u',r',?_⟩
    rcases q with ⟨k,e⟩ | ⟨k,c,e,z⟩
    ·refine .inl ⟨k,?_⟩
     have:y ≠ x:=λ e=>hj (b1S hN e1 (e ▸ hi))
     simp [this,e]
    ·exact .inr ⟨k,c,e,z.sameBut hs (cne y c e)⟩
  ·obtain ⟨w',z⟩:=I.cell y c e
   exact ⟨w',z.sameBut hs (cne y c e)⟩
  ·obtain ⟨e,n,ne,nf,d⟩:=I.pin p hp
   exact ⟨(hs.2 p.1 ne).trans e,n,ne,nf,d⟩
 ·have hfn:X.fn x = true:=by
   rcases hf with z | z
   ·exact z
   ·rw [z] at hk; cases hk
  obtain ⟨c,hc⟩:=I.ok.has x (.inl hk)
  obtain ⟨w',z⟩:=I.cell x c hc
  refine wpAny_storeName_cell I.ok.kind hk hc z (λ h' hc' hs=>?_)
  obtain ⟨oc,hoc,hocd⟩:=id z
  refine h { s with heap:=h' } ⟨I.ok,I.os,I.bare,⟨λ b o e n hb hx=>?_,λ b o e n hb hx=>?_,I.base.free,λ b o e hx=>?_,I.base.tups,I.base.frzs,I.base.tbls⟩,⟨m,hn.sameBut hs (Ne.symm (cne x c hc)),λ j y v' e1 e2 e3=>?_⟩,λ y c' e=>?_,I.free,I.freeC,λ p hp=>?_,tracked ⟨oc,hoc,I.freeC x c hc⟩ hs,by simpa using I.len⟩ ⟨c,hs,.inr hc⟩
  ·exact (hs.2 b (Nat.ne_of_lt (Nat.lt_of_lt_of_le (Heap.lt_size e) (I.ok.cab x c hfn hc)))).trans (I.base.keep b o e n hb hx)
  ·obtain ⟨sl,e1⟩:=I.base.slot b o e n hb hx
   exact ⟨sl,(hs.2 b (Nat.ne_of_lt (Nat.lt_of_lt_of_le (Heap.lt_size e) (I.ok.cab x c hfn hc)))).trans e1⟩
  ·obtain ⟨o',e1⟩:=I.base.there b o e hx
   exact ⟨o',(hs.2 b (Nat.ne_of_lt (Nat.lt_of_lt_of_le (Heap.lt_size e) (I.ok.cab x c hfn hc)))).trans e1⟩
  ·by_cases hj:j = i
   ·subst hj
    rw [hi] at e1; cases e1
    rw [List.getElem?_set_self hiσ] at e2
    cases e2
    exact ⟨u,r,.inr ⟨.inl hk,c,hc,hc'⟩⟩
   ·rw [List.getElem?_set_ne (Ne.symm hj)] at e2
    obtain ⟨u',r',q⟩:=hl j y v' e1 e2 e3
    refine ⟨u',r',?_⟩
    rcases q with q | ⟨k,c',e,z'⟩
    ·exact .inl q
    ·refine .inr ⟨k,c',e,z'.sameBut hs ?_⟩
     rintro rfl
     exact hj (b1S hN e1 (I.ok.inj _ _ _ e hc ▸ hi))
  ·by_cases hcc:c' = c
   ·subst hcc; exact ⟨_,hc'⟩
   ·obtain ⟨w2,z2⟩:=I.cell y c' e
    exact ⟨w2,z2.sameBut hs hcc⟩
  ·obtain ⟨e,n,ne,nf,d⟩:=I.pin p hp
   refine ⟨(hs.2 p.1 ?_).trans e,n,ne,nf,d⟩
   intro q
   rw [q,hoc] at e
   have q':oc = p.2:=Option.some.inj e
   exact d w' (by rw [<- q']; exact hocd)
theorem b1T {M:Model} {A:Around} {E:Value->Shared->Prop} {i:Nat} {x:Str} {v:V} {u:Value} {Q:Unit->Shared->Prop} (I:Inv X pins σ H s) (hN:X.N.Nodup) (hi:X.N[i]? = some x) (hx:Loc X.env.scope x) (r:RelV v u)
  (h:∀ s',Inv X pins (σ.set i (some v)) H s'->Q () s') (hf:X.fn x = true\/X.env.scope.names.lookup x = some .local:=by first | exact .inl rfl | exact .inr rfl | assumption):wpAny M A (storeName X.env x u) Q E s :=
 a8S I hN hi hx r (λ s' I' _=>h s' I') hf
theorem Inv.call' {s':Shared} {ch:List Addr} (I:Inv X pins σ H s) (ho:s'.os = s.os) (u:Un (frs X.stack) ch H H' s.heap s'.heap) (hok:HOk X.prog X.w H' s'.heap) (hg:AllBare s'.gens)
  (hch:∀ b ∈ ch,(b ∈ X.ex\/X.s₀.heap.objs.size <= b)/\b ≠ X.env.locals/\(∀ x c,X.env.cells.lookup x = some c->c ≠ b)/\∀ p ∈ X.pn ++ pins,p.1 ≠ b):Inv X pins σ H' s':=by
 obtain ⟨h',g',d',t',o'⟩:=s'
 have e:o' = s.os:=ho
 subst e
 exact I.call (g':=g') (t':=t') (d':=d') u hok hg hch
end
abbrev XK:=Value->Option Addr->Hp->Prop
abbrev St:=List (Option V)
abbrev VK:=V->Hp->Prop
abbrev TE:=St->Hp->VK->Prop
abbrev TT:=St->Hp->(Bool->Hp->Prop)->Prop
abbrev TA:=St->Hp->(List V->Hp->Prop)->Prop
structure Ends where
 nx:St->Hp->Prop
 rt:VK
 bk:St->Hp->Prop:=λ _ _=>False
 ct:St->Hp->Prop:=λ _ _=>False
abbrev TS:=Ends->St->Hp->Prop
def EP (X:Cx) (pins:List (Addr × Obj)) (σ:St) (Q:VK) (u:Value) (s':Shared):Prop:=∃ v H',Inv X pins σ H' s'/\RelV v u/\Q v H'
def TP (X:Cx) (pins:List (Addr × Obj)) (σ:St) (Q:Bool->Hp->Prop) (b:Bool) (s':Shared):Prop:=∃ H',Inv X pins σ H' s'/\Q b H'
def AP (X:Cx) (pins:List (Addr × Obj)) (σ:St) (Q:List V->Hp->Prop) (us:List Value) (s':Shared):Prop:=∃ vs H',Inv X pins σ H' s'/\Vals vs us/\Q vs H'
def SP (X:Cx) (pins:List (Addr × Obj)) (D:Ends) (f:Flow) (s':Shared):Prop :=
 match f with
 | .next=>∃ σ' H',Inv X pins σ' H' s'/\D.nx σ' H'
 | .brk=>∃ σ' H',Inv X pins σ' H' s'/\D.bk σ' H'
 | .cont=>∃ σ' H',Inv X pins σ' H' s'/\D.ct σ' H'
 | .ret u=>∃ v σ' H',Inv X pins σ' H' s'/\RelV v u/\D.rt v H'
def PE (X:Cx) (e:Expr) (t:TE):Prop :=
 ∀ (pins:List (Addr × Obj)) (s:Shared) (σ:St) (H:Hp) (Q:VK),Inv X pins σ H s->t σ H Q->wpAny (model X.prog X.w) X.A (eval e X.env) (EP X pins σ Q) X.xe s
def PT (X:Cx) (e:Expr) (t:TT):Prop :=
 ∀ (pins:List (Addr × Obj)) (s:Shared) (σ:St) (H:Hp) (Q:Bool->Hp->Prop),Inv X pins σ H s->t σ H Q->wpAny (model X.prog X.w) X.A (isTrue e X.env (eval e X.env)) (TP X pins σ Q) X.xe s
def PW (X:Cx) (e:Expr) (t:TT):Prop :=
 ∀ (whole:Sem Value) (pins:List (Addr × Obj)) (s:Shared) (σ:St) (H:Hp) (Q:Bool->Hp->Prop),Inv X pins σ H s->t σ H Q->wpAny (model X.prog X.w) X.A (isTrue e X.env whole) (TP X pins σ Q) X.xe s
theorem PW.pt {X:Cx} {e:Expr} {t:TT} (h:PW X e t):PT X e t:=h _
def PA (X:Cx) (es:List Expr) (t:TA):Prop :=
 ∀ (pos:Pos) (pins:List (Addr × Obj)) (s:Shared) (σ:St) (H:Hp) (Q:List V->Hp->Prop),Inv X pins σ H s->t σ H Q->wpAny (model X.prog X.w) X.A (spliced (backTo pos (starEach es X.env))) (AP X pins σ Q) X.xe s
def PS (X:Cx) (st:Stmt) (t:TS):Prop :=
 ∀ (pins:List (Addr × Obj)) (s:Shared) (σ:St) (H:Hp) (D:Ends),Inv X pins σ H s->t D σ H->wpAny (model X.prog X.w) X.A (exec st X.env) (SP X pins D) X.xe s
def PSs (X:Cx) (st:List Stmt) (t:TS):Prop :=
 ∀ (pins:List (Addr × Obj)) (s:Shared) (σ:St) (H:Hp) (D:Ends),Inv X pins σ H s->t D σ H->wpAny (model X.prog X.w) X.A (execs st X.env) (SP X pins D) X.xe s
theorem thn {α:Type} {t:Sem α} {Q Q':α->Shared->Prop} {M:Model} {A:Around} {E:Value->Shared->Prop} {s:Shared} (h:wpAny M A t Q E s) (hQ:∀ a s,Q a s->Q' a s):wpAny M A t Q' E s:=wpAny_mono h hQ λ _ _ x=>x
end L2
namespace L2
open PySem PySem.Spec PyProof.Rows
section
variable {X:Cx}
def tVar (i:Nat):TE:=λ σ H Q=>∃ v,σ[i]? = some (some v)/\Q v H
def tC (v:V):TE:=λ _ H Q=>Q v H
theorem c4L {i:Nat} {x:Str} {pos:Pos} (hN:X.N[i]? = some x) (hv:Vis X.env.scope x) (hd:(x == ("__debug__" : Str)) = false:=by decide) (hcd:(x == ("__classdict__" : Str)) = false:=by decide):PE X (.Name x pos) (tVar i):=by
 intro pins s σ H Q I h
 obtain ⟨v,e,h⟩:=h
 obtain ⟨m,hn,hl⟩:=I.loc
 obtain ⟨u,r,l⟩:=hl i x v hN e hv
 have fin:EP X pins σ Q u s:=⟨v,H,I,r,h⟩
 rcases l with ⟨hk,hm⟩ | ⟨hk,c,hc,hcell⟩
 ·exact wpAny_Name (wpAny_loadName_local I.ok.kind hk hn hm fin) hd
 ·rcases hk with hk | hk
  ·exact wpAny_Name (wpAny_loadName_cell I.ok.kind hk hc hcell fin) hd
  ·exact wpAny_Name (wpAny_loadName_free I.ok.kind hk hc hcell fin hcd) hd
theorem a0F {i j pos}:PE X (.Constant (.int i) j pos) (tC (.int i)):=λ _ _ _ H _ I h=>wpAny_Constant_int ⟨.int i,H,I.tok _,⟨_,rfl⟩,h⟩
theorem a8T {b j pos}:PE X (.Constant (.bool b) j pos) (tC (.bl b)):=λ _ _ _ H _ I h=>Constant_bool ⟨.bl b,H,I,rfl,h⟩
theorem a7D {j pos}:PE X (.Constant .none j pos) (tC .non):=λ _ _ _ H _ I h=>Constant_none ⟨.non,H,I,rfl,h⟩
theorem a8U {x j pos}:PE X (.Constant (.str x) j pos) (tC (.str x)):=λ _ _ _ H _ I h=>Calls.Constant_str ⟨.str x,H,I.tok _,⟨_,rfl⟩,h⟩
def Gl (X:Cx) (x:Str):Prop:=X.env.kindOf x = some .globalImplicit
theorem c1K {E:Value->Shared->Prop} {pins:List (Addr × Obj)} {s:Shared} {σ:St} {H:Hp} {x:Str} {u:Value} {pos:Pos} {Q:Value->Shared->Prop} (I:Inv X pins σ H s) (hg:Gl X x) (hm:X.mg x = some u) (h:Q u s)
  (hd:(x == ("__debug__" : Str)) = false:=by decide):wpAny (model X.prog X.w) X.A (eval (.Name x pos) X.env) Q E s :=
 Calls.Name_function_global I.ok.kind hg (Calls.loadGlobal_global (by rw [I.ok.glob]; exact I.mod.glob.keeps I.bk) hm h) hd
theorem a5G {E:Value->Shared->Prop} {pins:List (Addr × Obj)} {s:Shared} {σ:St} {H:Hp} {x:Str} {u:Value} {pos:Pos} {Q:Value->Shared->Prop} (I:Inv X pins σ H s) (hg:Gl X x) (hm:X.mg x = none) (hv:bootBuiltins x = some u) (h:Q u s)
  (hn:x ≠ "__name__" := by decide) (hd:(x == ("__debug__" : Str)) = false:=by decide):wpAny (model X.prog X.w) X.A (eval (.Name x pos) X.env) Q E s:=by
 obtain ⟨mb,h1,h2⟩:=I.mod.blt
 exact Calls.Name_function_global I.ok.kind hg (Calls.loadGlobal_builtin (by rw [I.ok.glob]; exact I.mod.glob.keeps I.bk) hm (by rw [I.ok.blt]; exact h1.keeps I.bk) ((h2 x hn).trans hv) h) hd
theorem a6A {x:Str} {v:V} {u:Value} {pos:Pos} (hg:Gl X x) (hm:X.mg x = none) (hv:bootBuiltins x = some u) (r:RelV v u) (hn:x ≠ "__name__" := by decide) (hd:(x == ("__debug__" : Str)) = false:=by decide):PE X (.Name x pos) (tC v) :=
 λ _ _ _ H _ I h=>a5G I hg hm hv ⟨v,H,I,r,h⟩ hn hd
variable {a b:Expr} {ta tb:TE} {pos:Pos}
variable {tA tB':TT} {rest:List Expr}
def tAnd (t u:TT):TT:=λ σ H Q=>t σ H λ c H1=>if c = true then u σ H1 Q else Q false H1
def tOr (t u:TT):TT:=λ σ H Q=>t σ H λ c H1=>if c = true then Q true H1 else u σ H1 Q
def tNot (t:TT):TT:=λ σ H Q=>t σ H λ c H1=>Q (!c) H1
theorem b4G (ha:PT X a tA):PW X (.BoolOp .And [a] pos) tA:=by
 intro wh pins s σ H Q I h
 refine isTrue_and (thn (ha pins s σ H Q I h) λ c s1 e=>?_)
 cases c with
 | true=>exact isTrue_and_nil e
 | false=>exact e
theorem a8V (ha:PT X a tA):PW X (.BoolOp .Or [a] pos) tA:=by
 intro wh pins s σ H Q I h
 refine isTrue_or (thn (ha pins s σ H Q I h) λ c s1 e=>?_)
 cases c with
 | false=>exact isTrue_or_nil e
 | true=>exact e
theorem c0M (ha:PT X a tA) (hb:PW X (.BoolOp .And (b :: rest) pos) tB'):PW X (.BoolOp .And (a :: b :: rest) pos) (tAnd tA tB'):=by
 intro wh pins s σ H Q I h
 refine isTrue_and (thn (ha pins s σ H _ I h) λ c s1 ⟨H1,I1,q1⟩=>?_)
 cases c with
 | true=>exact hb wh pins s1 σ H1 Q I1 q1
 | false=>exact ⟨H1,I1,q1⟩
theorem b0N (ha:PT X a tA) (hb:PW X (.BoolOp .Or (b :: rest) pos) tB'):PW X (.BoolOp .Or (a :: b :: rest) pos) (tOr tA tB'):=by
 intro wh pins s σ H Q I h
 refine isTrue_or (thn (ha pins s σ H _ I h) λ c s1 ⟨H1,I1,q1⟩=>?_)
 cases c with
 | true=>exact ⟨H1,I1,q1⟩
 | false=>exact hb wh pins s1 σ H1 Q I1 q1
theorem a7E (ha:PT X a tA):PT X (.UnaryOp .Not a pos) (tNot tA):=by
 intro pins s σ H Q I h
 exact isTrue_not (ha pins s σ H (λ c H1=>Q (!c) H1) I h)
def c6L (ta tb:TE):TE:=λ σ H Q=>ta σ H λ x H1=>∃ c,x = .bl c/\if c = true then tb σ H1 Q else Q (.bl false) H1
def c6M (ta:TE):TE:=λ σ H Q=>ta σ H λ x H1=>∃ c,x = .bl c/\Q (.bl (!c)) H1
theorem b1U {op} {t:TE} (h:PE X a t):PE X (.BoolOp op [a] pos) t:=λ pins s σ H Q I hw=>BoolOp_one (h pins s σ H Q I hw)
theorem b1V (ha:PE X a ta) (hb:PE X (.BoolOp .And (b :: rest) pos) tb):PE X (.BoolOp .And (a :: b :: rest) pos) (c6L ta tb):=by
 intro pins s σ H Q I h
 refine BoolOp_and (thn (ha pins s σ H _ I h) λ v s1 ⟨x,H1,I1,r1,q1⟩=>?_)
 obtain ⟨c,rfl,q1⟩:=q1
 cases r1
 refine wpAny_truthy_bool ?_
 cases c with
 | true=>exact hb pins s1 σ H1 Q I1 q1
 | false=>exact ⟨.bl false,H1,I1,rfl,q1⟩
theorem c4M (ha:PE X a ta):PE X (.UnaryOp .Not a pos) (c6M ta):=by
 intro pins s σ H Q I h
 refine UnaryOp_ (thn (ha pins s σ H _ I h) λ v s1 ⟨x,H1,I1,r1,q1⟩=>?_)
 obtain ⟨c,rfl,q1⟩:=q1
 cases r1
 exact not_of (wpAny_truthy_bool ⟨.bl (!c),H1,I1,rfl,q1⟩)
def tIf (t:TT) (ta tb:TE):TE:=λ σ H Q=>t σ H λ c H1=>if c = true then ta σ H1 Q else tb σ H1 Q
theorem b1W {c:Expr} (hc:PT X c tA) (ha:PE X a ta) (hb:PE X b tb):PE X (.IfExp c a b pos) (tIf tA ta tb):=by
 intro pins s σ H Q I h
 refine wpAny_IfExp (thn (hc pins s σ H _ I h) λ d s1 ⟨H1,I1,q1⟩=>?_)
 cases d with
 | true=>exact ha pins s1 σ H1 Q I1 q1
 | false=>exact hb pins s1 σ H1 Q I1 q1
end
end L2
namespace L2
open PySem PySem.Spec PyProof.Rows
def SqL (K:Φρ) (H:Hp) (a:Addr) (xs:List V):Prop :=
 Rd H a (.lst xs) \/
  ∃ (o:Obj) (its:Array Value) (n:Nat),K.lookup a = some o/\o.cls = .type "list" /\ o.dict = none/\o.data = .seq its n/\its.size <= sizeLine/\Vals xs its.toList
def SqT (K:Φρ) (H:Hp) (a:Addr) (xs:List V):Prop :=
 Rd H a (.tup xs) \/
  ∃ (o:Obj) (its:Array Value) (n:Nat),K.lookup a = some o/\o.cls = .type "tuple" /\ o.data = .seq its n/\its.size <= sizeLine/\Vals xs its.toList
def absV:Value->Option V
 | .none=>some .non
 | .bool b=>some (.bl b)
 | .int i _=>some (.int i)
 | .str x _=>some (.str x)
 | .bytes b _=>some (.byt b)
 | .float b _=>some (.flt b)
 | .ref a=>some (.ref a)
 | .type n=>some (.ty n)
 | _=>none
theorem RelV.abs {x:V} {u:Value} (r:RelV x u):absV u = some x:=by
 cases x with
 | non=>cases r; rfl
 | bl _=>cases r; rfl
 | int _=>obtain ⟨t,rfl⟩:=r; rfl
 | str _=>obtain ⟨t,rfl⟩:=r; rfl
 | byt _=>obtain ⟨t,rfl⟩:=r; rfl
 | flt _=>obtain ⟨t,rfl⟩:=r; rfl
 | ref _=>cases r; rfl
 | ty _=>cases r; rfl
theorem RelV.inj {x y:V} {u:Value} (r:RelV x u) (q:RelV y u):x = y:=Option.some.inj (r.abs.symm.trans q.abs)
theorem Vals.inj:∀ {xs ys:List V} {us:List Value},Vals xs us->Vals ys us->xs = ys
 | _,_,_,.nil,.nil=>rfl
 | _,_,_,.cons r t,.cons r' t'=>by rw [r.inj r',Vals.inj t t']
section
variable {X:Cx} {pins:List (Addr × Obj)} {σ:St} {H:Hp} {s:Shared} {a:Addr} {xs ys:List V}
theorem SqL.of {K:Φρ} (h:H a = some (.lst xs)):SqL K H a xs:=.inl (.inl h)
theorem SqT.of {K:Φρ} (h:H a = some (.tup xs)):SqT K H a xs:=.inl (.inl h)
theorem Inv.list (I:Inv X pins σ H s) (h:SqL X.K H a xs):∃ its:List Value,Vals xs its/\PlainL s.heap a its.toArray/\xs.length <= sizeLine:=by
 rcases h with h | ⟨o,its,n,hk,hc,hd,hs,hz,r⟩
 ·obtain ⟨z,its,n,r,e⟩:=h.ok I.hok
  exact ⟨its,r,⟨_,n,e,rfl,rfl,rfl⟩,z⟩
 ·refine ⟨its.toList,r,⟨o,n,I.kIn a o hk,hc,hd,by simpa using hs⟩,?_⟩
  have e:=r.length
  simp only [Array.length_toList] at e
  omega
theorem Inv.tuple (I:Inv X pins σ H s) (h:SqT X.K H a xs):∃ its:List Value,Vals xs its/\IsTup s.heap a its.toArray/\xs.length <= sizeLine:=by
 rcases h with h | ⟨o,its,n,hk,hc,hs,hz,r⟩
 ·obtain ⟨z,its,r,p⟩:=h.ok I.hok
  exact ⟨its,r,p,z⟩
 ·refine ⟨its.toList,r,⟨o,I.kIn a o hk,hc,n,by simpa using hs⟩,?_⟩
  have e:=r.length
  simp only [Array.length_toList] at e
  omega
theorem Inv.list_inj (I:Inv X pins σ H s) (h:SqL X.K H a xs) (h':SqL X.K H a ys):xs = ys:=by
 obtain ⟨its,r,⟨o,n,e,_,_,d⟩,_⟩:=I.list h
 obtain ⟨its',r',⟨o',n',e',_,_,d'⟩,_⟩:=I.list h'
 rw [e] at e'; cases e'
 rw [d] at d'
 injection d' with d1 _
 have:its = its':=by simpa using congrArg Array.toList d1
 subst this
 exact r.inj r'
end
abbrev Cx.wish (X:Cx) (E:Value->Shared->Prop):Cx:={ X with xe:=E }
abbrev Cx.nox (X:Cx):Cx:=X.wish λ _ _=>False
theorem Cx.Ok.wish {X:Cx} (ok:X.Ok) (E:Value->Shared->Prop):(X.wish E).Ok :=
 ⟨ok.mod,ok.kind,ok.glob,ok.blt,ok.above,ok.inj,ok.has,ok.cab,ok.hd,ok.frames,ok.stk,ok.exf,ok.bs,ok.bsz,ok.noex,ok.exfs,ok.funs,ok.frf⟩
theorem Cx.Ok.unwish {X:Cx} {E:Value->Shared->Prop} (ok:(X.wish E).Ok):X.Ok :=
 ⟨ok.mod,ok.kind,ok.glob,ok.blt,ok.above,ok.inj,ok.has,ok.cab,ok.hd,ok.frames,ok.stk,ok.exf,ok.bs,ok.bsz,ok.noex,ok.exfs,ok.funs,ok.frf⟩
section
variable {X:Cx} {pins:List (Addr × Obj)} {σ:St} {H:Hp} {s:Shared} {E:Value->Shared->Prop}
theorem Inv.wish (I:Inv X pins σ H s) (E:Value->Shared->Prop):Inv (X.wish E) pins σ H s:=⟨I.ok.wish E,I.os,I.bare,I.base,I.loc,I.cell,I.free,I.freeC,I.pin,I.hok,I.len⟩
theorem Inv.unwish (I:Inv (X.wish E) pins σ H s):Inv X pins σ H s:=⟨I.ok.unwish,I.os,I.bare,I.base,I.loc,I.cell,I.free,I.freeC,I.pin,I.hok,I.len⟩
theorem SP.unwish {D:Ends} {f:Flow} {s':Shared} (h:SP (X.wish E) pins D f s'):SP X pins D f s':=by
 cases f with
 | next=>obtain ⟨σ',H',I,q⟩:=h; exact ⟨σ',H',I.unwish,q⟩
 | brk=>obtain ⟨σ',H',I,q⟩:=h; exact ⟨σ',H',I.unwish,q⟩
 | cont=>obtain ⟨σ',H',I,q⟩:=h; exact ⟨σ',H',I.unwish,q⟩
 | ret u=>obtain ⟨v,σ',H',I,r,q⟩:=h; exact ⟨v,σ',H',I.unwish,r,q⟩
theorem PSs.nox {st:List Stmt} {t:TS} (h:PSs X.nox st t):PSs X st t:=λ pins s σ H D I hw =>
 wpAny_mono (h pins s σ H D (I.wish _) hw) (λ _ _ q=>q.unwish) λ _ _ z=>False.elim z
end
section
variable {X:Cx} {st:Stmt} {rest:List Stmt} {t u:TS} {e:Expr} {te:TE} {pos:Pos}
def c6N:TS:=λ D σ H=>D.nx σ H
def tSeq (t u:TS):TS:=λ D σ H=>t { D with nx:=u D } σ H
theorem a1S:PSs X [] c6N:=λ _ _ σ H _ I h=>wpAny_execs_nil ⟨σ,H,I,h⟩
theorem a0C (h1:PS X st t) (h2:PSs X rest u):PSs X (st :: rest) (tSeq t u):=by
 intro pins s σ H D I h
 refine wpAny_execs_cons (thn (h1 pins s σ H { D with nx:=u D } I h) λ f s1 q=>?_)
 cases f with
 | next =>
  obtain ⟨σ',H',I',q⟩:=q
  exact h2 pins s1 σ' H' D I' q
 | ret v=>exact q
 | brk=>exact q
 | cont=>exact q
theorem a0D (h1:PS X st t):PSs X [st] t:=by
 intro pins s σ H D I h
 refine wpAny_execs_cons (thn (h1 pins s σ H D I h) λ f s1 q=>?_)
 cases f with
 | next=>exact wpAny_execs_nil q
 | ret v=>exact q
 | brk=>exact q
 | cont=>exact q
theorem Inv.quiet {pins:List (Addr × Obj)} {σ:St} {H:Hp} {s:Shared} (I:Inv X pins σ H s):interactive X.env = false:=by simp [interactive,I.ok.kind]
def c6O (te:TE):TS:=λ D σ H=>te σ H λ _ H1=>D.nx σ H1
theorem a3C (he:PE X e te) (hs:swapsWith e none pos.line X.env = pure false:=by rfl):PS X (.Expr e pos) (c6O te):=by
 intro pins s σ H D I h
 exact wpAny_Expr_any (thn (he pins s σ H _ I h) λ v s1 ⟨x,H1,I1,r1,q1⟩=>⟨σ,H1,I1,q1⟩) I.quiet hs
def tRet (te:TE):TS:=λ D σ H=>te σ H D.rt
theorem a0M (he:PE X e te):PS X (.Return (some e) pos) (tRet te):=by
 intro pins s σ H D I h
 exact wpAny_Return_some (thn (he pins s σ H _ I h) λ v s1 ⟨x,H1,I1,r1,q1⟩=>⟨x,σ,H1,I1,r1,q1⟩)
def tIfS (c:TT) (t u:TS):TS:=λ D σ H=>c σ H λ b H1=>if b = true then t D σ H1 else u D σ H1
theorem a3T {c:Expr} {a b:List Stmt} {tc:TT} (hc:PT X c tc) (ha:PSs X a t) (hb:PSs X b u):PS X (.If c a b pos) (tIfS tc t u):=by
 intro pins s σ H D I h
 refine wpAny_If (thn (hc pins s σ H _ I h) λ d s1 ⟨H1,I1,q1⟩=>?_)
 cases d with
 | true=>exact ha pins s1 σ H1 D I1 q1
 | false=>exact hb pins s1 σ H1 D I1 q1
def c4N:TS:=λ _ _ _=>False
theorem b8A:PS X st c4N:=λ _ _ _ _ _ _ h=>h.elim
end
abbrev TG:=V->St->Hp->(St->Hp->Prop)->Prop
abbrev TGs:=List V->St->Hp->(St->Hp->Prop)->Prop
def PG (X:Cx) (target:Expr) (t:TG):Prop :=
 ∀ (pins:List (Addr × Obj)) (s:Shared) (σ:St) (H:Hp) (v:V) (u:Value) (Q:St->Hp->Prop),Inv X pins σ H s->RelV v u->t v σ H Q ->
  wpAny (model X.prog X.w) X.A (assign target X.env u) (λ _ s'=>∃ σ' H',Inv X pins σ' H' s'/\Q σ' H') X.xe s
def PGs (X:Cx) (ts:List Expr) (t:TGs):Prop :=
 ∀ (pins:List (Addr × Obj)) (s:Shared) (σ:St) (H:Hp) (vs:List V) (us:List Value) (Q:St->Hp->Prop),Inv X pins σ H s->Vals vs us->t vs σ H Q ->
  wpAny (model X.prog X.w) X.A (assignInOrder ((assignEach ts X.env).map (·.2)) us) (λ _ s'=>∃ σ' H',Inv X pins σ' H' s'/\Q σ' H') X.xe s
abbrev TSet:=V->V->V->Hp->(Hp->Prop)->Prop
def PSet (X:Cx) (t:TSet):Prop :=
 ∀ (pins:List (Addr × Obj)) (s:Shared) (σ:St) (H:Hp) (o i v:V) (ov iv u:Value) (Q:Hp->Prop),Inv X pins σ H s->RelV o ov->RelV i iv->RelV v u->t o i v H Q ->
  wpAny (model X.prog X.w) X.A (setItem ov iv u) (λ _ s'=>∃ H',Inv X pins σ H' s'/\Q H') X.xe s
section
variable {X:Cx} {pos:Pos}
def b8B (i:Nat):TG:=λ v σ H Q=>Q (σ.set i (some v)) H
theorem a0H {i:Nat} {x:Str} (hN:X.N.Nodup) (hi:X.N[i]? = some x) (hx:Loc X.env.scope x) (hf:X.fn x = true\/X.env.scope.names.lookup x = some .local:=by first | exact .inl rfl | exact .inr rfl | assumption):PG X (.Name x pos) (b8B i):=by
 intro pins s σ H v u Q I r h
 exact wpAny_assign_Name (b1T I hN hi hx r (λ s' I'=>⟨_,H,I',h⟩) hf)
def gNil:TGs:=λ vs σ H Q=>vs = []/\Q σ H
def c6P (t:TG) (u:TGs):TGs:=λ vs σ H Q=>∃ v r,vs = v :: r/\t v σ H λ σ' H'=>u r σ' H' Q
theorem a2V:PGs X [] gNil:=by
 intro pins s σ H vs us Q I r h
 obtain ⟨e,h⟩:=h
 subst e
 cases r
 exact assignInOrder_nil ⟨σ,H,I,h⟩
theorem a1B {e:Expr} {es:List Expr} {t:TG} {u:TGs} (h1:PG X e t) (h2:PGs X es u)
  (hs:(assignEach (e :: es) X.env).map (·.2) = assign e X.env :: (assignEach es X.env).map (·.2):=by rfl):PGs X (e :: es) (c6P t u):=by
 intro pins s σ H vs us Q I r h
 obtain ⟨v,vr,e1,h⟩:=h
 subst e1
 cases r with
 | cons r rr =>
  rw [hs]
  refine assignInOrder_cons (thn (h1 pins s σ H _ _ _ I r h) λ _ s1 ⟨σ1,H1,I1,q1⟩=>?_)
  exact h2 pins s1 σ1 H1 _ _ Q I1 rr q1
def gTup (K:Φρ) (n:Nat) (t:TGs):TG:=λ v σ H Q=>∃ a xs,v = .ref a/\SqT K H a xs/\xs.length = n/\t xs σ H Q
theorem c4O {es:List Expr} {k:Nat} {t:TGs} {n:Nat} (hc:X.calm = true) (h:PGs X es t)
  (hn:(assignEach es X.env).length = n:=by rfl) (hst:(assignEach es X.env).findIdx? (·.1) = none:=by rfl):PG X (.Tuple es k pos) (gTup X.K n t):=by
 intro pins s σ H v u Q I r hw
 obtain ⟨a,xs,e1,hq,hl,hw⟩:=hw
 subst e1
 cases r
 obtain ⟨its,rv,ht,hz⟩:=I.tuple hq
 refine assign_Tuple_tuple (I.ok.hd hc) ht (by simp [hn,<- hl,rv.length]) hst λ h' hx=>?_
 have I1:Inv X pins σ H { s with heap:=h' }:=I.kept (t':=s.toks) λ b o e=>hx b o (Nat.ne_of_lt (Heap.lt_size e)) e
 exact h pins _ σ H xs _ Q I1 (by simpa using rv) hw
def gSub (to ti:TE) (t:TSet):TG:=λ v σ H Q=>to σ H λ o H1=>ti σ H1 λ i H2=>t o i v H2 λ H3=>Q σ H3
theorem a4B {o i:Expr} {to ti:TE} {t:TSet} (ho:PE X o to) (hi:PE X i ti) (hs:PSet X t)
  (ha:∀ v,assign (.Subscript o i pos) X.env v = (do
   let ov <- holding [v] (eval o X.env)
   let iv <- holding [v,ov] (eval i X.env)
   standAt pos
   holding [v,ov,iv] (setItem ov iv v)
   release [v,ov,iv] []):=by intro _; rfl):PG X (.Subscript o i pos) (gSub to ti t):=by
 intro pins s σ H v u Q I r h
 rw [ha]
 refine wpAny_bind (wpAny_holding (thn (ho pins s σ H _ I h) λ ov s1 ⟨x,H1,I1,r1,q1⟩=>?_))
 refine wpAny_bind (wpAny_holding (thn (hi pins s1 σ H1 _ I1 q1) λ iv s2 ⟨y,H2,I2,r2,q2⟩=>?_))
 refine wpAny_bind (wpAny_standAt (wpAny_bind (wpAny_holding (thn (hs pins s2 σ H2 x y v ov iv u _ I2 r1 r2 r q2) λ _ s3 ⟨H3,I3,q3⟩=>?_))))
 exact wpAny_release ⟨σ,H3,I3,q3⟩
def tAsg (te:TE) (g:TG):TS:=λ D σ H=>te σ H λ x H1=>g x σ H1 D.nx
theorem a4C {tg e:Expr} {te:TE} {g:TG} (he:PE X e te) (hg:PG X tg g) (hs:swapsWithSole [tg] e pos.line X.env = pure false:=by rfl) (hw:swappedStores [tg] e X.env = pure none:=by rfl)
  (h1:(assignEach [tg] X.env).map (·.2) = [assign tg X.env]:=by rfl):PS X (.Assign [tg] e pos) (tAsg te g):=by
 intro pins s σ H D I h
 refine wpAny_Assign_stores (thn (he pins s σ H _ I h) λ v s1 ⟨x,H1,I1,r1,q1⟩=>?_) hs hw
 rw [h1]
 exact thn (hg pins s1 σ H1 x v _ I1 r1 q1) λ _ s2 q=>q
theorem a0J {i:Nat} {x:Str} {e:Expr} {te:TE} {pos':Pos} (hN:X.N.Nodup) (hi:X.N[i]? = some x) (hx:Loc X.env.scope x) (he:PE X e te) (hs:swapsWith e (some (.Name x pos')) pos.line X.env = pure false:=by rfl) (hf:X.fn x = true\/X.env.scope.names.lookup x = some .local:=by first | exact .inl rfl | exact .inr rfl | assumption) :
  PS X (.Assign [.Name x pos'] e pos) (tAsg te (b8B i)):=by
 intro pins s σ H D I h
 refine wpAny_Assign_Name (thn (he pins s σ H _ I h) λ v s1 ⟨y,H1,I1,r1,q1⟩=>?_) hs
 exact b1T I1 hN hi hx r1 (λ s2 I2=>⟨_,H1,I2,q1⟩) hf
end
section
variable {X:Cx} {pos:Pos}
def c4P (c:TT) (tb:TS):TS:=λ D σ H=>∃ W:Nat->St->Hp->Prop,(∃ m,W m σ H)/\∀ m σ H,W m σ H ->
 c σ H λ b H1=>if b = true then ∃ N:St->Hp->Prop,(∀ σ' H',N σ' H'->∃ m',m' < m/\W m' σ' H')/\tb { D with nx:=N,ct:=N,bk:=D.nx } σ H1 else D.nx σ H1
theorem a4D {c:Expr} {body:List Stmt} {tc:TT} {tb:TS} (hp:PassesOwn (model X.prog X.w) X.A X.env X.xe) (hc:PT X c tc) (hb:PSs X body tb):PS X (.While c body [] pos) (c4P tc tb):=by
 intro pins s σ H D I h
 obtain ⟨W,⟨m0,w0⟩,turn⟩:=h
 refine wpAny_While (codeAny_whileLoop (λ n s'=>∃ σ' H',Inv X pins σ' H' s'/\W n σ' H') ?_ m0 ⟨σ,H,I,w0⟩)
 rintro n s1 ⟨σ1,H1,I1,w1⟩
 refine wpAny_passesOwn hp (thn (hc pins s1 σ1 H1 _ I1 (turn n σ1 H1 w1)) λ b s2 ⟨H2,I2,q2⟩=>?_)
 cases b with
 | true =>
  obtain ⟨N,hN,q2⟩:=q2
  rw [if_pos rfl]
  refine wpAny_passesOwn hp (thn (hb pins s2 σ1 H2 _ I2 q2) λ f s3 q3=>?_)
  cases f with
  | next =>
   obtain ⟨σ3,H3,I3,n3⟩:=q3
   obtain ⟨m',hm,w3⟩:=hN σ3 H3 n3
   exact ⟨m',hm,σ3,H3,I3,w3⟩
  | cont =>
   obtain ⟨σ3,H3,I3,n3⟩:=q3
   obtain ⟨m',hm,w3⟩:=hN σ3 H3 n3
   exact ⟨m',hm,σ3,H3,I3,w3⟩
  | brk=>exact q3
  | ret v=>exact q3
 | false =>
  rw [if_neg Bool.false_ne_true]
  exact wpAny_execs_nil ⟨σ1,H2,I2,q2⟩
end
structure It where
 go:Nat->Hp->Prop
 yld:Nat->Hp->V->Hp->Prop
 stop:Nat->Hp->Prop
def FpOk (X:Cx) (pins:List (Addr × Obj)) (H:Hp) (b:Addr):Prop :=
 H b = none/\b ≠ X.env.locals/\b ∉ X.fs/\(b ∈ X.ex\/X.s₀.heap.objs.size <= b)/\(∀ x c,X.env.cells.lookup x = some c->c ≠ b)/\∀ p ∈ X.pn ++ pins,p.1 ≠ b
theorem Inv.fpOk {X:Cx} {pins:List (Addr × Obj)} {σ:St} {H H':Hp} {s:Shared} {b:Addr} (I:Inv X pins σ H s) (hb:s.heap.objs.size <= b) (hn:H' b = none):FpOk X pins H' b:=by
 refine ⟨hn,Nat.ne_of_gt (Nat.lt_of_lt_of_le I.lt hb),I.nofs hb,.inr (Nat.le_trans I.sz hb),λ x c e z=>?_,λ p hp z=>?_⟩
 ·obtain ⟨v,q⟩:=I.cell x c e
  exact absurd (Nat.lt_of_lt_of_le q.lt (by rw [z]; exact hb)) (Nat.lt_irrefl _)
 ·exact absurd (Nat.lt_of_lt_of_le (Heap.lt_size (I.pin p hp).1) (by rw [z]; exact hb)) (Nat.lt_irrefl _)
structure Turn (P:Program) (w:World) (K:Φρ) (tg:Expr) (J:It) (fp:List Addr) (it:Addr) (tn:Nat->Heap->Prop):Prop where
 mem:it ∈ fp
 obj:∀ i h,tn i h->∀ b ∈ fp,∃ o,h.get? b = some o/\∀ v,o.data ≠ .cell v
 keep:∀ i h h',tn i h->(∀ b ∈ fp,∀ o,h.get? b = some o->h'.get? b = some o)->tn i h'
 item:∀ (X:Cx),X.prog = P->X.w = w->X.K = K->X.calm = true->∀ (i:Nat) (pins:List (Addr × Obj)) (s:Shared) (σ:St) (H:Hp) (E:Value->Shared->Prop),Inv X pins σ H s->(∀ b ∈ fp,FpOk X pins H b)->tn i s.heap->J.go i H ->
  wpAny (model P w) X.A (pyNext (.ref it)) (λ r s1=>∃ u,r = some u /\
   wpAny (model P w) X.A (letOwnedTupleGo tg (.ref it) u) (λ _ s2=>∃ x H',Inv X pins σ H' s2/\RelV x u/\J.yld i H x H'/\tn (i + 1) s2.heap/\∀ b ∈ fp,H' b = none) E s1) E s
 done:∀ (X:Cx),X.prog = P->X.w = w->X.K = K->X.calm = true->∀ (i:Nat) (pins:List (Addr × Obj)) (s:Shared) (σ:St) (H:Hp) (E:Value->Shared->Prop),Inv X pins σ H s->(∀ b ∈ fp,FpOk X pins H b)->tn i s.heap->J.stop i H ->
  wpAny (model P w) X.A (pyNext (.ref it)) (λ r s1=>r = none/\Inv X pins σ H s1) E s
 self:∀ (A:Around) (i:Nat) (s:Shared) (Q:Value->Shared->Prop) (E:Value->Shared->Prop),tn i s.heap->Q (.ref it) s->wpAny (model P w) A (pyIter (.ref it)) Q E s
abbrev TI:=St->Hp->(It->Hp->Prop)->Prop
def PIE (X:Cx) (pins:List (Addr × Obj)) (σ:St) (tg:Expr) (R:It->Hp->Prop) (itv:Value) (s2:Shared):Prop :=
 ∃ (it:Addr) (fp:List Addr) (tn:Nat->Heap->Prop) (J:It) (H':Hp),itv = .ref it/\Inv X pins σ H' s2/\Turn X.prog X.w X.K tg J fp it tn/\tn 0 s2.heap/\(∀ b ∈ fp,FpOk X pins H' b)/\R J H'
def PI (X:Cx) (tg iter:Expr) (wi:TI):Prop :=
 ∀ (pins:List (Addr × Obj)) (s:Shared) (σ:St) (H:Hp) (R:It->Hp->Prop),Inv X pins σ H s->wi σ H R ->
  wpAny (model X.prog X.w) X.A (eval iter X.env) (λ v s1=>wpAny (model X.prog X.w) X.A (pyIter v) (PIE X pins σ tg R) X.xe s1) X.xe s
theorem c4Q {M : Model} {A : Around} {E : Value -> Shared -> Prop} {s : Shared} {tg : Expr} {it : Addr} {u : Value} {o : Obj} {n : String} {vs : Array Value} {Q : Unit -> Shared -> Prop} (ho : s.heap.get? it = some o) (hc : o.cls = .type n) (hd : o.data = .fields vs)
    (hn : ["enumerate", "zip", "dict_itemiterator", "dict_reverseitemiterator", "odict_iterator", "itertools.zip_longest", "itertools.pairwise"].contains n = false) (hQ : Q () s) : wpAny M A (letOwnedTupleGo tg (.ref it) u) Q E s := by
  unfold letOwnedTupleGo
  cases tg <;> first
    | exact wpAny_pure hQ
    | (cases u <;> first
        | exact wpAny_pure hQ
        | (refine wpAny_bind (wpAny_load ho ?_)
           rw [hc, hd]
           show wpAny M A (if (["enumerate", "zip", "dict_itemiterator", "dict_reverseitemiterator", "odict_iterator", "itertools.zip_longest", "itertools.pairwise"].contains n && vs[0]? == some (rawInt _)) = true then _ else _) Q E s
           rw [if_neg (by intro h; rw [hn, Bool.false_and] at h; cases h)]
           exact wpAny_pure hQ))
def Itl (K:Φρ) (a:Addr):It :=
 ⟨λ i H=>∃ xs x,SqL K H a xs/\xs[i]? = some x,λ i H x H'=>H' = H/\∀ xs,SqL K H a xs->xs[i]? = some x,λ i H=>∃ xs,SqL K H a xs/\xs.length <= i⟩
def Itr (lo:Int) (n:Nat):It:=⟨λ i _=>i < n,λ i H x H'=>H' = H/\x = .int (lo + i),λ i _=>n <= i⟩
theorem b4H {P:Program} {w:World} {K:Φρ} {tg:Expr} (a it:Addr):Turn P w K tg (Itl K a) [it] it (λ i h=>h.IsListIter it a i) where
 mem:=by simp
 obj:=λ i h st b hb=>by
  have e:b = it:=by simpa using hb
  subst e
  obtain ⟨o,e,c,d⟩:=st
  exact ⟨o,e,λ v z=>by rw [d] at z; cases z⟩
 keep:=λ i h h' st k=>st.at λ o e=>k it (by simp) o e
 item:=by
  intro X hP hw hK hc i pins s σ H E I hf st hg
  subst hP hw hK
  obtain ⟨xs,x,hq,hx⟩:=hg
  obtain ⟨its,rv,p,hz⟩:=I.list hq
  obtain ⟨u,hu,ru⟩:=rv.get hx
  obtain ⟨f0,f1,f2,f3,f4,f5⟩:=hf it (by simp)
  refine wpAny_pyNext_list_item st p.isList (x:=u) (by simpa using hu) λ h' st' sb=>?_
  have I1:Inv X pins σ H { s with heap:=h' }:=I.turned (t':=s.toks) (λ b o hb e=>(sb.2 b hb).trans e) f0 f1 f3 f4 f5
  obtain ⟨o,e,c,d⟩:=id st'
  exact ⟨u,rfl,c4Q (s:={ s with heap:=h' }) e c d (by decide) ⟨x,H,I1,ru,⟨rfl,λ ys hy=>by rw [I.list_inj hy hq]; exact hx⟩,st',λ b hb=>(hf b hb).1⟩⟩
 done:=by
  intro X hP hw hK hc i pins s σ H E I hf st hg
  subst hP hw hK
  obtain ⟨xs,hq,hx⟩:=hg
  obtain ⟨its,rv,p,hz⟩:=I.list hq
  obtain ⟨f0,f1,f2,f3,f4,f5⟩:=hf it (by simp)
  have hl:=rv.length
  exact wpAny_pyNext_list_end (I.ok.hd hc) st p.isList (by simp; omega) λ h' eb=>⟨rfl,I.turned (t':=s.toks) (λ b o hb e=>eb b o hb e) f0 f1 f3 f4 f5⟩
 self:=λ _ _ _ _ _ st h=>wpAny_pyIter_listiter st h
theorem b3D {P:Program} {w:World} {K:Φρ} {tg:Expr} (it:Addr) (lo:Int) (n:Nat):Turn P w K tg (Itr lo n) [it] it (λ i h=>IsRangeIter h it (lo + (i:Nat) * 1) ((n:Int) - (i:Nat)) 1) where
 mem:=by simp
 obj:=λ i h st b hb=>by
  have e:b = it:=by simpa using hb
  subst e
  exact ⟨_,st,λ v z=>by
   have z':Data.fields _ = Data.cell v:=z
   cases z'⟩
 keep:=λ i h h' st k=>k it (by simp) _ st
 item:=by
  intro X hP hw hK hc i pins s σ H E I hf st hg
  subst hP hw hK
  obtain ⟨f0,f1,f2,f3,f4,f5⟩:=hf it (by simp)
  have W:=Walks.range (prog:=X.prog) (w:=X.w) (I.ok.hd hc) it lo 1 n
  refine W.item i s _ _ hg st λ v h' tk hv st' kk=>?_
  obtain ⟨t,rfl⟩:=hv
  have I1:Inv X pins σ H { s with heap:=h',toks:=tk }:=I.turned (λ b o hb e=>kk b o (by simpa using hb) e) f0 f1 f3 f4 f5
  refine ⟨_,rfl,c4Q (s:={ s with heap:=h',toks:=tk }) (n:="range_iterator") st' rfl rfl (by decide) ⟨.int (lo + i),H,I1,⟨t,?_⟩,⟨rfl,rfl⟩,st',λ b hb=>(hf b hb).1⟩⟩
  rw [Int.mul_one]
 done:=by
  intro X hP hw hK hc i pins s σ H E I hf st hg
  subst hP hw hK
  obtain ⟨f0,f1,f2,f3,f4,f5⟩:=hf it (by simp)
  exact wpAny_pyNext_range_end (I.ok.hd hc) st (by have:n <= i:=hg; omega) λ h' eb=>⟨rfl,I.turned (t':=s.toks) (λ b o hb e=>eb b o hb e) f0 f1 f3 f4 f5⟩
 self:=λ _ _ _ _ _ st h=>wpAny_pyIter_rangeiter st h
end L2
namespace L2
open PySem PySem.Spec PyProof.Rows
section
variable {X:Cx} {tg:Expr}
def c4R (K:Φρ) (tl:TE):TI:=λ σ H R=>tl σ H λ x H1=>∃ a,x = .ref a/\(∃ xs,SqL K H1 a xs)/\R (Itl K a) H1
theorem c1L {l:Expr} {tl:TE} (hl:PE X l tl):PI X tg l (c4R X.K tl):=by
 intro pins s σ H R I h
 refine thn (hl pins s σ H _ I h) λ v s1 ⟨x,H1,I1,r1,q1⟩=>?_
 obtain ⟨a,e,⟨xs,hq⟩,q⟩:=q1
 subst e
 cases r1
 obtain ⟨its,rv,p,hz⟩:=I1.list hq
 refine wpAny_pyIter_list p.isList ?_
 refine ⟨s1.heap.objs.size,[s1.heap.objs.size],_,_,H1,rfl,I1.kept (t':=s1.toks) λ b o e=>Heap.get?_push_of_some _ e,b4H a _,⟨_,Heap.get?_push_size _ rfl,rfl,rfl⟩,λ b hb=>?_,q⟩
 have e:b = s1.heap.objs.size:=by simpa using hb
 subst e
 exact I1.fpOk (Nat.le_refl _) (I1.hok.fresh (Nat.le_refl _))
theorem b1X {pins:List (Addr × Obj)} {σ:St} {H:Hp} {s:Shared} {R:It->Hp->Prop} {E:Value->Shared->Prop} {lo hi:Int} {t u v:Tok} {tk:Nat} (I:Inv X pins σ H s) (h1 : -(2 ^ 62) <= lo) (h2:lo < 2 ^ 62) (h3 : -(2 ^ 62) <= hi) (h4:hi < 2 ^ 62)
  (q:R (Itr lo (hi - lo).toNat) H):wpAny (model X.prog X.w) X.A (pyIter (.ref s.heap.objs.size)) (PIE X pins σ tg R) E { s with heap:=s.heap.push { cls:=.type "range", data:=.fields #[.int lo t,.int hi u,.int 1 v] },toks:=tk }:=by
 refine wpAny_pyIter_range (IsRange.new ..) (small_one h1 h2 h3 h4) ?_
 have I1:Inv X pins σ H { s with heap:=s.heap.push { cls:=.type "range", data:=.fields #[.int lo t,.int hi u,.int 1 v] },toks:=tk }:=I.kept λ b o e=>Heap.get?_push_of_some _ e
 refine ⟨(s.heap.push { cls:=.type "range", data:=.fields #[.int lo t,.int hi u,.int 1 v] }).objs.size,[(s.heap.push { cls:=.type "range", data:=.fields #[.int lo t,.int hi u,.int 1 v] }).objs.size],_,_,H,rfl,
  I1.kept (t':=tk) λ b o e=>Heap.get?_push_of_some _ e,b3D _ lo (hi - lo).toNat,?_,λ b hb=>?_,q⟩
 ·have e1:lo + ((0:Nat):Int) * 1 = lo:=by simp
  have e2:(((hi - lo).toNat:Nat):Int) - ((0:Nat):Int) = Builtin.Range.rangeSize lo hi 1:=by rw [rangeSize_one]; split <;> omega
  show IsRangeIter _ _ (lo + ((0:Nat):Int) * 1) ((((hi - lo).toNat:Nat):Int) - ((0:Nat):Int)) 1
  rw [e1,e2]
  exact Heap.get?_push_size _ rfl
 ·have e:b = (s.heap.push { cls:=.type "range", data:=.fields #[.int lo t,.int hi u,.int 1 v] }).objs.size:=by simpa using hb
  subst e
  exact I1.fpOk (Nat.le_refl _) (I1.hok.fresh (Nat.le_refl _))
def c6Q (ta:TA):TI:=λ σ H R=>ta σ H λ vs H1=>∃ j:Int,vs = [.int j] /\ -(2 ^ 62) <= j/\j < 2 ^ 62/\R (Itr 0 j.toNat) H1
def c6R (ta:TA):TI:=λ σ H R=>ta σ H λ vs H1=>∃ i j:Int,vs = [.int i,.int j]/\(-(2 ^ 62) <= i/\i < 2 ^ 62 /\ -(2 ^ 62) <= j/\j < 2 ^ 62)/\R (Itr i (j - i).toNat) H1
theorem a1D {a:Expr} {ta:TA} {p pos:Pos} (hg:Gl X "range") (hm:X.mg "range" = none) (ha:PA X [a] ta) (hs:starEach [a] X.env = [(false,eval a X.env)]:=by rfl):PI X tg (.Call (.Name "range" p) [a] [] pos) (c6Q ta):=by
 intro pins s σ H R I h
 refine Call_ (a5G I hg hm boot_range (PyProof.Rows.callWith_type1 (thn (ha pos pins s σ H _ I h) λ us s1 ⟨vs,H1,I1,r1,q1⟩=>?_) hs rfl))
 obtain ⟨j,e,q1,q2,q⟩:=q1
 subst e
 cases r1 with
 | cons r rr =>
  cases rr
  obtain ⟨t,rfl⟩:=r
  exact call_range_1 (b1X I1 (by omega) (by omega) q1 q2 (by simpa using q))
theorem a3D {a b:Expr} {ta:TA} {p pos:Pos} (hg:Gl X "range") (hm:X.mg "range" = none) (ha:PA X [a,b] ta) (hs:starEach [a,b] X.env = [(false,eval a X.env),(false,eval b X.env)]:=by rfl) (hs2:starEach [b] X.env = [(false,eval b X.env)]:=by rfl) :
  PI X tg (.Call (.Name "range" p) [a,b] [] pos) (c6R ta):=by
 intro pins s σ H R I h
 refine Call_ (a5G I hg hm boot_range (PyProof.Rows.callWith_type1 (thn (ha pos pins s σ H _ I h) λ us s1 ⟨vs,H1,I1,r1,q1⟩=>?_) (by rw [hs,hs2]) (by rw [hs2]; rfl)))
 obtain ⟨i,j,e,⟨q1,q2,q3,q4⟩,q⟩:=q1
 subst e
 cases r1 with
 | cons r rr =>
  cases rr with
  | cons r' rr =>
   cases rr
   obtain ⟨t,rfl⟩:=r
   obtain ⟨t',rfl⟩:=r'
   exact call_range_2 (b1X I1 q1 q2 q3 q4 q)
def tFor (wi:TI) (g:TG) (tb:TS):TS:=λ D σ H=>wi σ H λ J H1=>∃ W:Nat->Nat->St->Hp->Prop,(∃ m,W 0 m σ H1)/\∀ i m σ H,W i m σ H ->
 (J.stop i H/\D.nx σ H)\/(J.go i H/\∃ N:St->Hp->Prop,(∀ σ' H',N σ' H'->∃ m',m' < m/\W (i + 1) m' σ' H')/\∀ x H',J.yld i H x H'->g x σ H' λ σ2 H2=>tb { D with nx:=N,ct:=N,bk:=D.nx } σ2 H2)
def a8W (fp:List Addr) (h:Heap):List (Addr × Obj):=fp.filterMap λ b=>(h.get? b).map λ o=>(b,o)
theorem a4V {fp:List Addr} {h:Heap} {b:Addr} {o:Obj} (hb:b ∈ fp) (e:h.get? b = some o):(b,o) ∈ a8W fp h:=List.mem_filterMap.mpr ⟨b,hb,by rw [e]; rfl⟩
theorem b4I {fp:List Addr} {h:Heap} {p:Addr × Obj} (hp:p ∈ a8W fp h):p.1 ∈ fp/\h.get? p.1 = some p.2:=by
 obtain ⟨b,hb,e⟩:=List.mem_filterMap.mp hp
 cases q:h.get? b with
 | none=>rw [q] at e; cases e
 | some o =>
  rw [q] at e
  have e':(b,o) = p:=Option.some.inj e
  subst e'
  exact ⟨hb,q⟩
theorem Inv.pinned {pins:List (Addr × Obj)} {σ:St} {H:Hp} {s:Shared} {fp:List Addr} (I:Inv X pins σ H s) (hf:∀ b ∈ fp,FpOk X pins H b) (ho:∀ b ∈ fp,∃ o,s.heap.get? b = some o/\∀ v,o.data ≠ .cell v):Inv X (pins ++ a8W fp s.heap) σ H s :=
 I.pins_of λ p hp=>(List.mem_append.mp hp).elim (λ z=>I.pin p (List.mem_append_right _ z)) λ z=>by
  obtain ⟨hb,e⟩:=b4I z
  obtain ⟨f0,f1,f2,_⟩:=hf p.1 hb
  obtain ⟨o,e',d⟩:=ho p.1 hb
  rw [e] at e'; cases e'
  exact ⟨e,f0,f1,f2,d⟩
theorem Inv.unpinned {pins pl:List (Addr × Obj)} {σ:St} {H:Hp} {s:Shared} (I:Inv X (pins ++ pl) σ H s):Inv X pins σ H s:=I.pins_of λ p hp=>I.pin p (List.mem_append_right _ (List.mem_append_left _ hp))
theorem a1R {iter:Expr} {body:List Stmt} {wi:TI} {g:TG} {tb:TS} {pos:Pos} (hp:PassesOwn (model X.prog X.w) X.A X.env X.xe) (hc:X.calm = true) (hi:PI X tg iter wi) (hg:PG X tg g) (hb:PSs X body tb)
  (hs:∀ x,foldedSetIterable iter X.env x = pure x:=by intro _; rfl):PS X (.For tg iter body [] pos) (tFor wi g tb):=by
 intro pins s σ H D I h
 refine wpAny_For (thn (hi pins s σ H _ I h) λ v s1 h1=>thn h1 λ itv s2 h2=>?_) hs
 obtain ⟨it,fp,tn,J,H2,e,I2,T,st2,f2,W,⟨m0,w0⟩,turn⟩:=h2
 subst e
 have stat:∀ {H':Hp},(∀ b ∈ fp,H' b = none)->∀ b ∈ fp,FpOk X pins H' b:=λ hn b hb=>⟨hn b hb,(f2 b hb).2⟩
 refine codeAny_forLoop_any (λ n s'=>∃ i σ' H',Inv X pins σ' H' s'/\tn i s'.heap/\(∀ b ∈ fp,H' b = none)/\W i n σ' H') ?_ m0 ⟨0,σ,H2,I2,st2,λ b hb=>(f2 b hb).1,w0⟩
 rintro n s3 ⟨i,σ3,H3,I3,st3,fr3,w3⟩
 rcases turn i n σ3 H3 w3 with ⟨stop,qn⟩ | ⟨go,N,hN,step⟩
 ·refine wpAny_passesOwn hp (thn (T.done X rfl rfl rfl hc i pins s3 σ3 H3 X.xe I3 (stat fr3) st3 stop) λ r s4 ⟨hr,I4⟩=>?_)
  subst hr
  exact wpAny_execs_nil ⟨σ3,H3,I4,qn⟩
 ·refine wpAny_passesOwn hp (thn (T.item X rfl rfl rfl hc i pins s3 σ3 H3 X.xe I3 (stat fr3) st3 go) λ r s4 ⟨u,hr,h4⟩=>?_)
  subst hr
  refine wpAny_passesOwn hp (thn h4 λ _ s5 ⟨x,H5,I5,r5,y5,st5,fr5⟩=>?_)
  have I5':=I5.pinned (stat fr5) (T.obj _ _ st5)
  refine wpAny_passesOwn hp (thn (hg _ s5 σ3 H5 x u _ I5' r5 (step x H5 y5)) λ _ s6 ⟨σ6,H6,I6,q6⟩=>?_)
  refine wpAny_passesOwn hp (thn (hb _ s6 σ6 H6 _ I6 q6) λ f s7 q7=>?_)
  have again:∀ {σ7:St} {H7:Hp},Inv X (pins ++ a8W fp s5.heap) σ7 H7 s7->N σ7 H7->∃ m,m < n/\∃ i σ' H',Inv X pins σ' H' s7/\tn i s7.heap/\(∀ b ∈ fp,H' b = none)/\W i m σ' H':=λ {σ7 H7} I7 n7=>by
   obtain ⟨m',hm,w7⟩:=hN σ7 H7 n7
   refine ⟨m',hm,i + 1,σ7,H7,I7.unpinned,T.keep _ _ _ st5 λ b hb o e=>(I7.pin (b,o) (List.mem_append_right _ (List.mem_append_right _ (a4V hb e)))).1,λ b hb=>?_,w7⟩
   obtain ⟨o,e,d⟩:=T.obj _ _ st5 b hb
   exact (I7.pin (b,o) (List.mem_append_right _ (List.mem_append_right _ (a4V hb e)))).2.1
  cases f with
  | next=>obtain ⟨σ7,H7,I7,n7⟩:=q7; exact again I7 n7
  | cont=>obtain ⟨σ7,H7,I7,n7⟩:=q7; exact again I7 n7
  | brk=>obtain ⟨σ7,H7,I7,q7⟩:=q7; exact ⟨σ7,H7,I7.unpinned,q7⟩
  | ret v=>obtain ⟨x7,σ7,H7,I7,r7,q7⟩:=q7; exact ⟨x7,σ7,H7,I7.unpinned,r7,q7⟩
end
theorem a3Q {K:Φρ} {a:Addr} {xs:List V} {g:TG} {tb:TS} {D:Ends} {σ:St} {H:Hp} (Pv:Nat->St->Hp->Prop) (h0:Pv 0 σ H) (hl:∀ i σ H,i <= xs.length->Pv i σ H->SqL K H a xs)
  (hs:∀ i x σ H,xs[i]? = some x->Pv i σ H->g x σ H λ σ2 H2=>tb { D with nx:=Pv (i + 1),ct:=Pv (i + 1),bk:=D.nx } σ2 H2) (hd:∀ σ H,Pv xs.length σ H->D.nx σ H) :
  ∃ W:Nat->Nat->St->Hp->Prop,(∃ m,W 0 m σ H)/\∀ i m σ H,W i m σ H ->
   ((Itl K a).stop i H/\D.nx σ H)\/((Itl K a).go i H/\∃ N:St->Hp->Prop,(∀ σ' H',N σ' H'->∃ m',m' < m/\W (i + 1) m' σ' H')/\∀ x H',(Itl K a).yld i H x H'->g x σ H' λ σ2 H2=>tb { D with nx:=N,ct:=N,bk:=D.nx } σ2 H2):=by
 refine ⟨λ i m σ H=>m = xs.length - i/\i <= xs.length/\Pv i σ H,⟨xs.length,by simp,Nat.zero_le _,h0⟩,?_⟩
 rintro i m σ H ⟨rfl,hi,p⟩
 have q:=hl i σ H hi p
 by_cases hlt:i < xs.length
 ·refine .inr ⟨⟨xs,xs[i],q,by simp [hlt]⟩,Pv (i + 1),λ σ' H' p'=>⟨xs.length - (i + 1),by omega,rfl,hlt,p'⟩,λ x H' y=>?_⟩
  obtain ⟨e,y⟩:=y
  subst e
  exact hs i x σ _ (y xs q) p
 ·have e:i = xs.length:=by omega
  subst e
  exact .inl ⟨⟨xs,q,Nat.le_refl _⟩,hd σ H p⟩
theorem a1O {lo:Int} {n:Nat} {g:TG} {tb:TS} {D:Ends} {σ:St} {H:Hp} (Pv:Nat->St->Hp->Prop) (h0:Pv 0 σ H)
  (hs:∀ i σ H,i < n->Pv i σ H->g (.int (lo + i)) σ H λ σ2 H2=>tb { D with nx:=Pv (i + 1),ct:=Pv (i + 1),bk:=D.nx } σ2 H2) (hd:∀ σ H,Pv n σ H->D.nx σ H) :
  ∃ W:Nat->Nat->St->Hp->Prop,(∃ m,W 0 m σ H)/\∀ i m σ H,W i m σ H ->
   ((Itr lo n).stop i H/\D.nx σ H)\/((Itr lo n).go i H/\∃ N:St->Hp->Prop,(∀ σ' H',N σ' H'->∃ m',m' < m/\W (i + 1) m' σ' H')/\∀ x H',(Itr lo n).yld i H x H'->g x σ H' λ σ2 H2=>tb { D with nx:=N,ct:=N,bk:=D.nx } σ2 H2):=by
 refine ⟨λ i m σ H=>m = n - i/\i <= n/\Pv i σ H,⟨n,by simp,Nat.zero_le _,h0⟩,?_⟩
 rintro i m σ H ⟨rfl,hi,p⟩
 by_cases hlt:i < n
 ·refine .inr ⟨hlt,Pv (i + 1),λ σ' H' p'=>⟨n - (i + 1),by omega,rfl,hlt,p'⟩,λ x H' y=>?_⟩
  obtain ⟨e,y⟩:=y
  subst e y
  exact hs i σ _ hlt p
 ·have e:i = n:=by omega
  subst e
  exact .inl ⟨Nat.le_refl _,hd σ H p⟩
end L2
namespace L2
open PySem PySem.Spec PyProof.Rows
abbrev R2:=V->V->Hp->VK->Prop
def OpR (X:Cx) (f:Value->Value->Sem Value) (r:R2):Prop :=
 ∀ (pins:List (Addr × Obj)) (s:Shared) (σ:St) (H:Hp) (x y:V) (v u:Value) (Q:VK),Inv X pins σ H s->RelV x v->RelV y u->r x y H Q ->
  wpAny (model X.prog X.w) X.A (f v u) (EP X pins σ Q) X.xe s
def UnR (X:Cx) (f:Value->Sem Value) (r:V->Hp->VK->Prop):Prop :=
 ∀ (pins:List (Addr × Obj)) (s:Shared) (σ:St) (H:Hp) (x:V) (v:Value) (Q:VK),Inv X pins σ H s->RelV x v->r x H Q ->
  wpAny (model X.prog X.w) X.A (f v) (EP X pins σ Q) X.xe s
def CallR (X:Cx) (f:Value) (r:List V->Hp->VK->Prop):Prop :=
 ∀ (pins:List (Addr × Obj)) (s:Shared) (σ:St) (H:Hp) (xs:List V) (us:List Value) (Q:VK),Inv X pins σ H s->Vals xs us->r xs H Q ->
  wpAny (model X.prog X.w) X.A (call f us) (EP X pins σ Q) X.xe s
def TruR (X:Cx) (r:V->Hp->(Bool->Hp->Prop)->Prop):Prop :=
 ∀ (pins:List (Addr × Obj)) (s:Shared) (σ:St) (H:Hp) (x:V) (v:Value) (Q:Bool->Hp->Prop),Inv X pins σ H s->RelV x v->r x H Q ->
  wpAny (model X.prog X.w) X.A (truthy v) (TP X pins σ Q) X.xe s
def tOp (r:R2) (ta tb:TE):TE:=λ σ H Q=>ta σ H λ x H1=>tb σ H1 λ y H2=>r x y H2 Q
def tUn (r:V->Hp->VK->Prop) (ta:TE):TE:=λ σ H Q=>ta σ H λ x H1=>r x H1 Q
def rI (C:Int->Int->Prop) (g:Int->Int->V):R2:=λ x y H Q=>∃ i j,x = .int i/\y = .int j/\C i j/\Q (g i j) H
def rI0 (g:Int->Int->V):R2:=λ x y H Q=>∃ i j,x = .int i/\y = .int j/\Q (g i j) H
def rU (g:Int->V):V->Hp->VK->Prop:=λ x H Q=>∃ i,x = .int i/\Q (g i) H
section
variable {X:Cx} {a b c:Expr} {ta tb tc:TE} {pos:Pos}
theorem binT (ha:PE X a ta) (hb:PE X b tb) {pins:List (Addr × Obj)} {s:Shared} {σ:St} {H:Hp} {R:V->V->Hp->Prop} (I:Inv X pins σ H s)
  (h:ta σ H λ x H1=>tb σ H1 λ y H2=>R x y H2) {Q:Value->Shared->Prop} {f:Value->Value->Sem Value}
  (hf:∀ v u s2 x y H2,Inv X pins σ H2 s2->RelV x v->RelV y u->R x y H2->wpAny (model X.prog X.w) X.A (f v u) Q X.xe s2) :
  wpAny (model X.prog X.w) X.A (eval a X.env) (λ v s₁=>wpAny (model X.prog X.w) X.A (eval b X.env) (λ u s₂=>wpAny (model X.prog X.w) X.A (f v u) Q X.xe s₂) X.xe s₁) X.xe s:=by
 refine thn (ha pins s σ H _ I h) λ v s1 ⟨x,H1,I1,r1,q1⟩=>?_
 refine thn (hb pins s1 σ H1 _ I1 q1) λ u s2 ⟨y,H2,I2,r2,q2⟩=>?_
 exact hf v u s2 x y H2 I2 r1 r2 q2
theorem a0O {op:Operator} {r:R2} (ho:OpR X (binaryOp op) r) (ha:PE X a ta) (hb:PE X b tb):PE X (.BinOp a op b pos) (tOp r ta tb):=by
 intro pins s σ H Q I h
 exact wpAny_BinOp (binT ha hb I h λ v u s2 x y H2 I2 rx ry q=>ho pins s2 σ H2 x y v u Q I2 rx ry q)
theorem b8C {op:UnaryOp} {r:V->Hp->VK->Prop} (ho:UnR X (unaryOp op) r) (ha:PE X a ta):PE X (.UnaryOp op a pos) (tUn r ta):=by
 intro pins s σ H Q I h
 exact UnaryOp_ (thn (ha pins s σ H _ I h) λ v s1 ⟨x,H1,I1,r1,q1⟩=>ho pins s1 σ H1 x v Q I1 r1 q1)
theorem opI {f:Value->Value->Sem Value} {C:Int->Int->Prop} {g:Int->Int->Int}
  (rule:∀ (i j:Int) (t u:Tok) (s:Shared) (Q:Value->Shared->Prop) (E:Value->Shared->Prop),C i j->Q (.int (g i j) s.toks) { s with toks:=s.toks + 1 }->wpAny (model X.prog X.w) X.A (f (.int i t) (.int j u)) Q E s) :
  OpR X f (rI C λ i j=>.int (g i j)):=by
 intro pins s σ H x y v u Q I rx ry h
 obtain ⟨i,j,rfl,rfl,hc,q⟩:=h
 obtain ⟨t,rfl⟩:=rx
 obtain ⟨t',rfl⟩:=ry
 exact rule i j t t' s _ _ hc ⟨.int (g i j),H,I.tok _,⟨_,rfl⟩,q⟩
theorem opI0 {f:Value->Value->Sem Value} {g:Int->Int->Int}
  (rule:∀ (i j:Int) (t u:Tok) (s:Shared) (Q:Value->Shared->Prop) (E:Value->Shared->Prop),Q (.int (g i j) s.toks) { s with toks:=s.toks + 1 }->wpAny (model X.prog X.w) X.A (f (.int i t) (.int j u)) Q E s) :
  OpR X f (rI0 λ i j=>.int (g i j)):=by
 intro pins s σ H x y v u Q I rx ry h
 obtain ⟨i,j,rfl,rfl,q⟩:=h
 obtain ⟨t,rfl⟩:=rx
 obtain ⟨t',rfl⟩:=ry
 exact rule i j t t' s _ _ ⟨.int (g i j),H,I.tok _,⟨_,rfl⟩,q⟩
theorem opB0 {f:Value->Value->Sem Value} {g:Int->Int->Bool}
  (rule:∀ (i j:Int) (t u:Tok) (s:Shared) (Q:Value->Shared->Prop) (E:Value->Shared->Prop),Q (.bool (g i j)) s->wpAny (model X.prog X.w) X.A (f (.int i t) (.int j u)) Q E s) :
  OpR X f (rI0 λ i j=>.bl (g i j)):=by
 intro pins s σ H x y v u Q I rx ry h
 obtain ⟨i,j,rfl,rfl,q⟩:=h
 obtain ⟨t,rfl⟩:=rx
 obtain ⟨t',rfl⟩:=ry
 exact rule i j t t' s _ _ ⟨.bl (g i j),H,I,rfl,q⟩
def CDiv (i j:Int):Prop:=0 < j/\j < 1073741824
def CPow (i j:Int):Prop:=0 <= j/\j <= 1000000/\i.natAbs < 2 ^ 64
def CMul (i j:Int):Prop:=(-(2 ^ 64) < i/\i < 2 ^ 64)\/(-(2 ^ 64) < j/\j < 2 ^ 64)
theorem CMul.ok {i j:Int} (h:CMul i j):IntMulOk i j:=by
 rcases h with ⟨h1,h2⟩ | ⟨h1,h2⟩
 ·exact .of_left (intBits_le_64 h1 h2)
 ·exact .of_right (intBits_le_64 h1 h2)
theorem b3E (k:Nat):(0:Int) <= 2 ^ k:=by
 rw [two_pow_cast]
 exact Int.natCast_nonneg _
theorem a2R:OpR X (binaryOp .Add) (rI0 λ i j=>.int (i + j)):=opI0 λ _ _ _ _ _ _ _ q=>add_int q
theorem a6B:OpR X (binaryOp .Sub) (rI0 λ i j=>.int (i - j)):=opI0 λ _ _ _ _ _ _ _ q=>sub_int q
theorem a4E:OpR X (binaryOp .Mult) (rI CMul λ i j=>.int (i * j)):=opI λ _ _ _ _ _ _ _ hc q=>mul_int q hc.ok
theorem b0O:OpR X (binaryOp .FloorDiv) (rI CDiv λ i j=>.int (i / j)):=opI λ i j _ _ _ _ _ hc q=>by
 have h1:(0:Int) < j:=hc.1
 have h2:j < 1073741824:=hc.2
 exact floordiv_int (by omega) (by rw [Int.fdiv_eq_ediv_of_nonneg i (by omega)]; exact q) (.inl (PyProof.noPylong_small (by omega)))
theorem a2N:OpR X (binaryOp .Mod) (rI (λ _ j=>0 < j) λ i j=>.int (i % j)):=opI λ i j _ _ _ _ _ hc q=>by
 have h1:(0:Int) < j:=hc
 exact mod_int' (by omega) (by rw [Int.fmod_eq_emod_of_nonneg i (by omega)]; exact q)
theorem a4F:OpR X (binaryOp .LShift) (rI CPow λ i j=>.int (i * 2 ^ j.toNat)):=opI λ _ _ _ _ _ _ _ hc q=>lshift_int_small hc.1 hc.2.1 hc.2.2 q
theorem c4S:OpR X (binaryOp .RShift) (rI (λ _ j=>0 <= j) λ i j=>.int (i / 2 ^ j.toNat)):=opI λ i j _ _ _ _ _ hc q =>
 rshift_int hc (by rw [Int.fdiv_eq_ediv_of_nonneg i (b3E _)]; exact q)
theorem c0N:OpR X (binaryOp .BitAnd) (rI0 λ i j=>.int (Builtin.bitAnd i j)):=opI0 λ _ _ _ _ _ _ _ q=>and_int q
theorem b8D:OpR X (binaryOp .BitOr) (rI0 λ i j=>.int (Builtin.bitOr i j)):=opI0 λ _ _ _ _ _ _ _ q=>or_int q
theorem unI {f:Value->Sem Value} {g:Int->Int}
  (rule:∀ (i:Int) (t:Tok) (s:Shared) (Q:Value->Shared->Prop) (E:Value->Shared->Prop),Q (.int (g i) s.toks) { s with toks:=s.toks + 1 }->wpAny (model X.prog X.w) X.A (f (.int i t)) Q E s) :
  UnR X f (rU λ i=>.int (g i)):=by
 intro pins s σ H x v Q I rx h
 obtain ⟨i,rfl,q⟩:=h
 obtain ⟨t,rfl⟩:=rx
 exact rule i t s _ _ ⟨.int (g i),H,I.tok _,⟨_,rfl⟩,q⟩
theorem b1Y:UnR X (unaryOp .USub) (rU λ i=>.int (-i)):=unI λ _ _ _ _ _ q=>neg_int q
end
def scal:V->V->Bool
 | .non,.non=>true | .non,.int _=>true | .int _,.non=>true | .non,.bl _=>true | .bl _,.non=>true | .non,.str _=>true | .str _,.non=>true
 | .int _,.int _=>true | .bl _,.bl _=>true | .str _,.str _=>true | .byt _,.byt _=>true
 | .int _,.str _=>true | .str _,.int _=>true | .bl _,.str _=>true | .str _,.bl _=>true
 | _,_=>false
def rEq:R2:=λ x y H Q=>scal x y = true/\Q (.bl (decide (x = y))) H
def rNe:R2:=λ x y H Q=>scal x y = true/\Q (.bl (!decide (x = y))) H
theorem b4J {i j:Int}:decide (V.int i = V.int j) = (i == j):=by
 rw [Bool.eq_iff_iff]
 simp
theorem c0O {i j:Bool}:decide (V.bl i = V.bl j) = (i == j):=by
 rw [Bool.eq_iff_iff]
 simp
theorem b4K {i j:Str}:decide (V.str i = V.str j) = (i == j):=by
 rw [Bool.eq_iff_iff]
 simp
theorem b4L {i j:Array UInt8}:decide (V.byt i = V.byt j) = (i.toList == j.toList):=by
 rw [Bool.eq_iff_iff]
 cases i
 cases j
 simp
section
variable {X:Cx} {a b c:Expr} {ta tb tc:TE} {pos:Pos}
theorem a0Y {pins:List (Addr × Obj)} {σ:St} {H:Hp} {s:Shared} {Q:VK} {k k':Bool} (I:Inv X pins σ H s) (q:Q (.bl k) H) (e:k = k'):EP X pins σ Q (.bool k') s:=by
 subst e
 exact ⟨.bl k,H,I,rfl,q⟩
theorem a7V:OpR X (compareOp .Eq) rEq:=by
 intro pins s σ H x y v u Q I rx ry h
 obtain ⟨hs,q⟩:=h
 cases x with
 | non =>
  cases rx
  cases y with
  | non=>cases ry; exact PySem.EqNone.eq_none_none (a0Y I q (by simp))
  | bl j=>cases ry; exact PySem.EqNone.eq_none_bool (a0Y I q (by simp))
  | int j=>obtain ⟨t',rfl⟩:=ry; exact PySem.EqNone.eq_none_int (a0Y I q (by simp))
  | str j=>obtain ⟨t',rfl⟩:=ry; exact PySem.EqNone.eq_none_str (a0Y I q (by simp))
  | _=>exact absurd (show false = true from hs) Bool.false_ne_true
 | bl i =>
  cases rx
  cases y with
  | non=>cases ry; exact PySem.EqNone.eq_bool_none (a0Y I q (by simp))
  | bl j=>cases ry; exact eq_bool (a0Y I q c0O)
  | str j=>obtain ⟨t',rfl⟩:=ry; exact PySem.EqMixed.eq_bool_str (a0Y I q (by simp))
  | _=>exact absurd (show false = true from hs) Bool.false_ne_true
 | int i =>
  obtain ⟨t,rfl⟩:=rx
  cases y with
  | non=>cases ry; exact PySem.EqNone.eq_int_none (a0Y I q (by simp))
  | int j=>obtain ⟨t',rfl⟩:=ry; exact eq_int (a0Y I q b4J)
  | str j=>obtain ⟨t',rfl⟩:=ry; exact PySem.EqMixed.eq_int_str (a0Y I q (by simp))
  | _=>exact absurd (show false = true from hs) Bool.false_ne_true
 | str i =>
  obtain ⟨t,rfl⟩:=rx
  cases y with
  | non=>cases ry; exact PySem.EqNone.eq_str_none (a0Y I q (by simp))
  | bl j=>cases ry; exact PySem.EqMixed.eq_str_bool (a0Y I q (by simp))
  | int j=>obtain ⟨t',rfl⟩:=ry; exact PySem.EqMixed.eq_str_int (a0Y I q (by simp))
  | str j=>obtain ⟨t',rfl⟩:=ry; exact eq_str (a0Y I q b4K)
  | _=>exact absurd (show false = true from hs) Bool.false_ne_true
 | byt i =>
  obtain ⟨t,rfl⟩:=rx
  cases y with
  | byt j=>obtain ⟨t',rfl⟩:=ry; exact PySem.W.eq_bytes (a0Y I q b4L)
  | _=>exact absurd (show false = true from hs) Bool.false_ne_true
 | _=>cases y <;> exact absurd (show false = true from hs) Bool.false_ne_true
theorem c1M:OpR X (compareOp .NotEq) rNe:=by
 intro pins s σ H x y v u Q I rx ry h
 obtain ⟨hs,q⟩:=h
 cases x with
 | non =>
  cases rx
  cases y with
  | non=>cases ry; exact PySem.EqNone.ne_none_none (a0Y I q (by simp))
  | bl j=>cases ry; exact PySem.EqNone.ne_none_bool (a0Y I q (by simp))
  | int j=>obtain ⟨t',rfl⟩:=ry; exact PySem.EqNone.ne_none_int (a0Y I q (by simp))
  | str j=>obtain ⟨t',rfl⟩:=ry; exact PySem.EqNone.ne_none_str (a0Y I q (by simp))
  | _=>exact absurd (show false = true from hs) Bool.false_ne_true
 | bl i =>
  cases rx
  cases y with
  | non=>cases ry; exact PySem.EqNone.ne_bool_none (a0Y I q (by simp))
  | bl j=>cases ry; exact ne_bool (a0Y I q (congrArg not c0O))
  | str j=>obtain ⟨t',rfl⟩:=ry; exact PySem.EqMixed.ne_bool_str (a0Y I q (by simp))
  | _=>exact absurd (show false = true from hs) Bool.false_ne_true
 | int i =>
  obtain ⟨t,rfl⟩:=rx
  cases y with
  | non=>cases ry; exact PySem.EqNone.ne_int_none (a0Y I q (by simp))
  | int j=>obtain ⟨t',rfl⟩:=ry; exact ne_int (a0Y I q (congrArg not b4J))
  | str j=>obtain ⟨t',rfl⟩:=ry; exact PySem.EqMixed.ne_int_str (a0Y I q (by simp))
  | _=>exact absurd (show false = true from hs) Bool.false_ne_true
 | str i =>
  obtain ⟨t,rfl⟩:=rx
  cases y with
  | non=>cases ry; exact PySem.EqNone.ne_str_none (a0Y I q (by simp))
  | bl j=>cases ry; exact PySem.EqMixed.ne_str_bool (a0Y I q (by simp))
  | int j=>obtain ⟨t',rfl⟩:=ry; exact PySem.EqMixed.ne_str_int (a0Y I q (by simp))
  | str j=>obtain ⟨t',rfl⟩:=ry; exact ne_str (a0Y I q (congrArg not b4K))
  | _=>exact absurd (show false = true from hs) Bool.false_ne_true
 | byt i =>
  obtain ⟨t,rfl⟩:=rx
  cases y with
  | byt j=>obtain ⟨t',rfl⟩:=ry; exact PySem.W.ne_bytes (a0Y I q (congrArg not b4L))
  | _=>exact absurd (show false = true from hs) Bool.false_ne_true
 | _=>cases y <;> exact absurd (show false = true from hs) Bool.false_ne_true
theorem b3F:OpR X (compareOp .Lt) (rI0 λ i j=>.bl (decide (i < j))):=opB0 λ _ _ _ _ _ _ _ q=>lt_int q
theorem b8E:OpR X (compareOp .LtE) (rI0 λ i j=>.bl (decide (i <= j))):=opB0 λ _ _ _ _ _ _ _ q=>le_int q
theorem c4T : OpR X (compareOp .Is) (fun x y H Q => y = .non /\ Q (.bl (decide (x = .non))) H) := by
  intro pins s σ H x y v u Q I rx ry h
  obtain ⟨rfl, q⟩ := h
  cases ry
  refine is_none_gen (a0Y I q ?_)
  cases x <;> first
    | (cases rx; rfl)
    | (obtain ⟨t, rfl⟩ := rx; rfl)
theorem c1N : OpR X (compareOp .IsNot) (fun x y H Q => y = .non /\ Q (.bl (!decide (x = .non))) H) := by
  intro pins s σ H x y v u Q I rx ry h
  obtain ⟨rfl, q⟩ := h
  cases ry
  refine isnot_none_gen (a0Y I q ?_)
  cases x <;> first
    | (cases rx; rfl)
    | (obtain ⟨t, rfl⟩ := rx; rfl)
theorem a1N (b:Expr) {op:CmpOp} (h:op ≠ .In:=by decide) (h2:op ≠ .NotIn:=by decide):behindInMarks op b = false:=by
 have e1:(op == CmpOp.In) = false:=by cases op <;> first | rfl | exact absurd rfl h
 have e2:(op == CmpOp.NotIn) = false:=by cases op <;> first | rfl | exact absurd rfl h2
 cases b <;> simp [behindInMarks,e1,e2]
theorem a2W {op:CmpOp} {r:R2} (ho:OpR X (compareOp op) r) (ha:PE X a ta) (hb:PE X b tb) (hm:behindInMarks op b = false):PE X (.Compare a [op] [b] pos) (tOp r ta tb):=by
 intro pins s σ H Q I h
 exact wpAny_Compare1 (binT ha hb I h λ v u s2 x y H2 I2 rx ry q=>ho pins s2 σ H2 x y v u Q I2 rx ry q) hm
def c6S (t:TE):TT:=λ σ H Q=>t σ H λ x H'=>∃ k,x = .bl k/\Q k H'
theorem a1C {op:CmpOp} {r:R2} (ho:OpR X (compareOp op) r) (ha:PE X a ta) (hb:PE X b tb) (hm:behindInMarks op b = false):PT X (.Compare a [op] [b] pos) (c6S (tOp r ta tb)):=by
 intro pins s σ H Q I h
 refine wpAny_isTrue_Compare1 (thn (ha pins s σ H _ I h) λ v s1 ⟨x,H1,I1,r1,q1⟩=>thn (hb pins s1 σ H1 _ I1 q1) λ u s2 ⟨y,H2,I2,r2,q2⟩ =>
  thn (ho pins s2 σ H2 x y v u _ I2 r1 r2 q2) λ c s3 ⟨z,H3,I3,r3,k,e,q3⟩=>?_) hm
 subst e
 cases r3
 exact wpAny_truthy_bool ⟨H3,I3,q3⟩
def c4U (r r':R2) (ta tb tc:TE):TE:=λ σ H Q=>ta σ H λ x H1=>tb σ H1 λ y H2=>r x y H2 λ z H3=>∃ k,z = .bl k /\
 (if k = true then tc σ H3 λ w' H4=>r' y w' H4 Q else Q (.bl false) H3)
theorem b8F {op op':CmpOp} {r r':R2} (ho:OpR X (compareOp op) r) (ho':OpR X (compareOp op') r') (ha:PE X a ta) (hb:PE X b tb) (hc:PE X c tc)
  (hm:lastMarks [op,op'] [b,c] = false:=by with_unfolding_all rfl):PE X (.Compare a [op,op'] [b,c] pos) (c4U r r' ta tb tc):=by
 intro pins s σ H Q I h
 refine Compare_chain (thn (ha pins s σ H _ I h) λ v s1 ⟨x,H1,I1,r1,q1⟩=>chain_link (thn (hb pins s1 σ H1 _ I1 q1) λ u s2 ⟨y,H2,I2,r2,q2⟩ =>
  thn (ho pins s2 σ H2 x y v u _ I2 r1 r2 q2) λ d s3 ⟨z,H3,I3,r3,k,e,q3⟩=>?_)) hm
 subst e
 cases r3
 refine wpAny_truthy_bool ?_
 cases k with
 | false=>exact ite_ff ⟨.bl false,H3,I3,rfl,q3⟩
 | true=>exact ite_tt (chain_last (thn (hc pins s3 σ H3 _ I3 q3) λ w' s4 ⟨z',H4,I4,r4,q4⟩=>ho' pins s4 σ H4 y z' u w' Q I4 r2 r4 q4))
def TruV (K:Φρ) (x:V) (H:Hp) (k:Bool):Prop :=
 match x with
 | .non=>k = false
 | .bl b=>k = b
 | .int i=>k = (i != 0)
 | .str y=>y.length <= sizeLine/\k = ((y.length:Int) != 0)
 | .byt y=>y.size <= sizeLine/\k = ((y.size:Int) != 0)
 | .ref p=>(∃ xs,SqL K H p xs/\k = !xs.isEmpty)\/(∃ xs,SqT K H p xs/\k = !xs.isEmpty)\/∃ kvs,H p = some (.dK kvs)/\k = !kvs.isEmpty
 | _=>False
theorem b3G {κ:Type} {kvs:List (κ × V)} {vs:List (κ × Value)} (r:KV kvs vs):(!vs.isEmpty) = !kvs.isEmpty:=by
 cases r <;> rfl
theorem a4W {xs:List V} {its:List Value} (r:Vals xs its):(!its.toArray.isEmpty) = !xs.isEmpty:=by
 cases r <;> simp
theorem a7F:(sizeLine:Nat) < 2 ^ 63:=by rw [sizeLine_eq]; decide
theorem c0P:TruR X (λ x H Q=>∃ k,TruV X.K x H k/\Q k H):=by
 intro pins s σ H x v Q I rx h
 obtain ⟨k,e,q⟩:=h
 have hl:=a7F
 have hs:sizeLine = 16777216:=sizeLine_eq
 cases x with
 | non =>
  cases rx
  have e':k = false:=e
  subst e'
  exact truthy_none ⟨H,I,q⟩
 | bl b =>
  cases rx
  have e':k = b:=e
  subst e'
  exact wpAny_truthy_bool ⟨H,I,q⟩
 | int i =>
  obtain ⟨t,rfl⟩:=rx
  have e':k = (i != 0):=e
  subst e'
  exact PySem.P.truthy_int ⟨H,I,q⟩
 | str y =>
  obtain ⟨t,rfl⟩:=rx
  obtain ⟨hy,e'⟩:y.length <= sizeLine/\k = ((y.length:Int) != 0):=e
  subst e'
  exact PySem.P.truthy_str (by omega) ⟨H,I.tok _,q⟩
 | byt y =>
  obtain ⟨t,rfl⟩:=rx
  obtain ⟨hy,e'⟩:y.size <= sizeLine/\k = ((y.size:Int) != 0):=e
  subst e'
  exact PySem.W.truthy_bytes (by omega) ⟨H,I.tok _,q⟩
 | ref p =>
  cases rx
  have e':(∃ xs,SqL X.K H p xs/\k = !xs.isEmpty)\/(∃ xs,SqT X.K H p xs/\k = !xs.isEmpty)\/∃ kvs,H p = some (.dK kvs)/\k = !kvs.isEmpty:=e
  rcases e' with ⟨xs,hx,e'⟩ | ⟨xs,hx,e'⟩ | ⟨kvs,hx,e'⟩
  ·subst e'
   obtain ⟨its,r,pl,hz⟩:=I.list hx
   have hlen:=r.length
   exact wpAny_truthy_list pl.isList (by simp only [List.size_toArray]; omega) ⟨H,I.tok _,by rw [a4W r]; exact q⟩
  ·subst e'
   obtain ⟨its,r,pl,hz⟩:=I.tuple hx
   have hlen:=r.length
   exact truthy_tuple pl (by simp only [List.size_toArray]; omega) ⟨H,I.tok _,by rw [a4W r]; exact q⟩
  ·subst e'
   obtain ⟨hz,hS,vs,r,m⟩:kvs.length <= sizeLine/\(p == sysModules) = false/\∃ vs,KV kvs vs/\s.heap.DictOf (b0M X.prog X.w) p vs:=I.hok p _ hx
   have hlen:kvs.length = vs.length:=Paired.length r
   exact wpAny_truthy_dict hS m (by omega) ⟨H,I.tok _,by rw [b3G r]; exact q⟩
 | _=>exact (show False from e).elim
theorem b8G (ha:PE X a ta) (he:∀ whole,isTrue a X.env whole = (do let v <- whole; standAt a.pos; holding [v] (truthy v))) :
  PT X a (λ σ H Q=>ta σ H λ x H'=>∃ k,TruV X.K x H' k/\Q k H'):=by
 intro pins s σ H Q I h
 exact isTrue_plain (thn (ha pins s σ H _ I h) λ v s1 ⟨x,H1,I1,r1,q1⟩=>c0P pins s1 σ H1 x v Q I1 r1 q1) (he _)
theorem a8X {x:V} {us:List Value} (r:Vals [x] us):∃ u,us = [u]/\RelV x u:=by
 cases r with
 | cons r1 r2=>cases r2; exact ⟨_,rfl,r1⟩
theorem c1O {x y:V} {us:List Value} (r:Vals [x,y] us):∃ u w',us = [u,w']/\RelV x u/\RelV y w':=by
 cases r with
 | cons r1 r2 =>
  cases r2 with
  | cons r3 r4=>cases r4; exact ⟨_,_,rfl,r1,r3⟩
theorem a6C (hc:X.calm = true):CallR X (.builtin "max") (λ xs H Q=>∃ i j,xs = [.int i,.int j]/\Q (.int (if j > i then j else i)) H):=by
 intro pins s σ H xs us Q I r h
 obtain ⟨i,j,rfl,q⟩:=h
 obtain ⟨u,w',rfl,⟨t,rfl⟩,⟨t',rfl⟩⟩:=c1O r
 refine max_two_ints (I.ok.hd hc) λ h' tk k=>⟨_,H,I.kept k,?_,q⟩
 by_cases hj:j > i
 ·rw [if_pos hj,if_pos hj]; exact ⟨_,rfl⟩
 ·rw [if_neg hj,if_neg hj]; exact ⟨_,rfl⟩
theorem a3E (hc:X.calm = true):CallR X (.builtin "min") (λ xs H Q=>∃ i j,xs = [.int i,.int j]/\Q (.int (if j < i then j else i)) H):=by
 intro pins s σ H xs us Q I r h
 obtain ⟨i,j,rfl,q⟩:=h
 obtain ⟨u,w',rfl,⟨t,rfl⟩,⟨t',rfl⟩⟩:=c1O r
 refine min_two_ints (I.ok.hd hc) λ h' tk k=>⟨_,H,I.kept k,?_,q⟩
 by_cases hj:j < i
 ·rw [if_pos hj,if_pos hj]; exact ⟨_,rfl⟩
 ·rw [if_neg hj,if_neg hj]; exact ⟨_,rfl⟩
end
end L2
namespace L2
open PySem PySem.Spec PyProof.Rows
structure ObjM (h:Heap) (x dx C:Addr) (mA:Str->Option Value):Prop where
 obj:h.get? x = some (PySem.W.instObj C dx)
 ns:h.Ns1 dx mA
 ne:dx ≠ x
theorem b4M {h:Heap} {dx:Addr} {mA:Str->Option Value} (n:h.Ns1 dx mA):∃ od,h.get? dx = some od/\∀ name,PySem.W.lookIn name od = some (mA name):=by
 obtain ⟨o,es,ep,ho,hd,hk,_,hm⟩:=n
 refine ⟨o,ho,λ name=>?_⟩
 have e:=hm name
 unfold nsFind findBy at e
 rw [<- Array.find?_toList] at e
 unfold PySem.W.lookIn
 rw [hd]
 dsimp only
 split
 ·rename_i y q
  rw [q] at e
  exact congrArg some e
 ·rename_i q
  rw [q] at e
  have a:es.toList.any (·.refKey) = false:=by
   rw [List.any_eq_false]
   intro y hy
   obtain ⟨z,t,hkey⟩:=hk y (Array.mem_toList_iff.mp hy)
   simp [DictEntry.refKey,hkey]
  have a':¬ es.toList.any (·.refKey) = true:=by rw [a]; exact Bool.false_ne_true
  rw [if_neg a']
  exact congrArg some e
theorem ObjM.look {h:Heap} {x dx C:Addr} {mA:Str->Option Value} (I:ObjM h x dx C mA):∃ od,PySem.W.InstAt h x (PySem.W.instObj C dx) C (some od)/\∀ name,PySem.W.lookIn name od = some (mA name) :=
 let ⟨od,ho,hl⟩:=b4M I.ns
 ⟨od,⟨I.obj,rfl,rfl,ho⟩,hl⟩
section
variable {prog:Program} {w:World} {A:Around} {E:Value->Shared->Prop} {s:Shared} {K:Φρ} {x dx C f:Addr} {mA:Str->Option Value} {name:Str} {v:Value}
end
section
variable {P:Program} {w:World} {H H':Hp} {h h':Heap} {a C dx:Addr} {fs fs':List (Str × V)}
theorem c1P (hok:HOk P w H h) (e:H a = some (.ins C dx fs)):∃ mA,ObjM h a dx C mA/\(∀ f,RelO (fs.lookup f) (mA f))/\PySem.Within mA (fs.map (·.1))/\fs.length <= 1000/\H dx = some (.own a):=by
 obtain ⟨d,z,ne,ob,mA,n,r,q⟩:=(show ObjOk P w H h a (.ins C dx fs) from hok a _ e)
 exact ⟨mA,⟨ob,n,ne⟩,r,q,z,d⟩
end
structure Cls (K:Φρ) (C:Addr):Prop where
 pg:PySem.W.plainGet K C Str.empty = true
 hd:PySem.W.hasDictIn K C = true
 po:PySem.W.plainOver K C = true
 sa:PySem.W.findIn K (.ref C) "__setattr__" = some (some (.builtin "object.__setattr__"))
theorem Cls.get {K:Φρ} {C:Addr} (c:Cls K C) (f:Str):PySem.W.plainGet K C f = true:=c.pg
section
variable {X:Cx} {pins:List (Addr × Obj)} {σ:St} {H:Hp} {s:Shared} {a C dx:Addr} {fs:List (Str × V)} {f:Str} {v:V} {A:Around} {E:Value->Shared->Prop}
end
section
variable {X:Cx} {o e value:Expr} {f:Str} {pos pos' tpos:Pos} {ta tv:TE}
end
section
variable {X:Cx} {pins:List (Addr × Obj)} {σ:St} {H:Hp} {s:Shared} {A:Around} {E:Value->Shared->Prop} {Q:Value->Shared->Prop} {c:Value} {b:Bool}
inductive TyOf (K:Φρ) (H:Hp):V->Value->Prop where
 | non:TyOf K H .non (.type "NoneType")
 | bl (x:Bool):TyOf K H (.bl x) (.type "bool")
 | int (i:Int):TyOf K H (.int i) (.type "int")
 | str (x:Str):TyOf K H (.str x) (.type "str")
 | flt (x:UInt64):TyOf K H (.flt x) (.type "float")
 | lst {a:Addr} {xs:List V} (e:H a = some (.lst xs)):TyOf K H (.ref a) (.type "list")
 | frz {a:Addr} {o:Obj} {xs:List V} (e:H a = some (.frz o (.lst xs))):TyOf K H (.ref a) (.type "list")
 | tup {a:Addr} {xs:List V} (e:H a = some (.tup xs)):TyOf K H (.ref a) (.type "tuple")
 | dK {a:Addr} {kvs:List (Key × V)} (e:H a = some (.dK kvs)):TyOf K H (.ref a) (.type "dict")
 | dT {a:Addr} {kvs:List (List Key × V)} (e:H a = some (.dT kvs)):TyOf K H (.ref a) (.type "dict")
 | ins {a C dx:Addr} {fs:List (Str × V)} (e:H a = some (.ins C dx fs)) (cl:Cls K C) (ha:PySem.W.findIn K (.ref C) "__class__" = some (some (.builtin "object.__class__")))
   (hn:PySem.W.specialIn K (.builtin "object.__class__") "__get__" = some (some (.builtin "getset_descriptor.__get__"))) (htk:PySem.W.takesIn K (.builtin "object.__class__") = some true)
   (hm:PySem.W.mroIn K C (.type "object") = some true):TyOf K H (.ref a) (.ref C)
theorem b4N {x:V} {u t:Value} (I:Inv X pins σ H s) (rx:RelV x u) (ty:TyOf X.K H x t) (e:PySem.W.kitOne X.K t c = some b) (h:∀ tk,Q (.bool b) { s with toks:=tk }) :
  wpAny (model X.prog X.w) A (call (.builtin "isinstance") [u,c]) Q E s:=by
 cases ty with
 | non=>cases (show u = Value.none from rx); exact PySem.W.kia_one PySem.W.kitx_none I.kIn True.intro e (λ z=>nomatch z) h
 | bl y=>cases (show u = Value.bool y from rx); exact PySem.W.kia_one PySem.W.kitx_bool I.kIn True.intro e (λ z=>nomatch z) h
 | int i=>obtain ⟨t,q⟩:=(show ∃ t,u = Value.int i t from rx); cases q; exact PySem.W.kia_one PySem.W.kitx_int I.kIn True.intro e (λ z=>nomatch z) h
 | str y=>obtain ⟨t,q⟩:=(show ∃ t,u = Value.str y t from rx); cases q; exact PySem.W.kia_one PySem.W.kitx_str I.kIn True.intro e (λ z=>nomatch z) h
 | flt y=>obtain ⟨t,q⟩:=(show ∃ t,u = Value.float y t from rx); cases q; exact PySem.W.kia_one PySem.W.kitx_float I.kIn True.intro e (λ z=>nomatch z) h
 | @lst a xs ea =>
  cases (show u = Value.ref a from rx)
  obtain ⟨_,_,n,_,h1⟩:=(show ObjOk X.prog X.w H s.heap a (.lst xs) from I.hok a _ ea)
  exact PySem.W.kia_one PySem.W.kitx_list I.kIn ⟨_,h1,rfl⟩ e (λ z=>nomatch z) h
 | @frz a ob xs ea =>
  cases (show u = Value.ref a from rx)
  obtain ⟨_,_,_,n,_,h1⟩:=(show ObjOk X.prog X.w H s.heap a (.frz ob (.lst xs)) from I.hok a _ ea)
  exact PySem.W.kia_one PySem.W.kitx_list I.kIn ⟨_,h1,rfl⟩ e (λ z=>nomatch z) h
 | @tup a xs ea =>
  cases (show u = Value.ref a from rx)
  obtain ⟨_,_,_,p⟩:=(show ObjOk X.prog X.w H s.heap a (.tup xs) from I.hok a _ ea)
  obtain ⟨o,h1,h2,_⟩:=p
  exact PySem.W.kia_one PySem.W.kitx_tuple I.kIn ⟨o,h1,h2⟩ e (λ z=>nomatch z) h
 | @dK a kvs ea =>
  cases (show u = Value.ref a from rx)
  obtain ⟨_,_,vs,_,p⟩:=(show ObjOk X.prog X.w H s.heap a (.dK kvs) from I.hok a _ ea)
  obtain ⟨o,es,ep,h1,h2,_⟩:=p
  exact PySem.W.kia_one PySem.W.kitx_dict I.kIn ⟨o,h1,h2.1⟩ e (λ z=>nomatch z) h
 | @dT a kvs ea =>
  cases (show u = Value.ref a from rx)
  obtain ⟨_,_,xs,_,o,es,ep,h1,h2,_⟩:=(show ObjOk X.prog X.w H s.heap a (.dT kvs) from I.hok a _ ea)
  exact PySem.W.kia_one PySem.W.kitx_dict I.kIn ⟨o,h1,h2.1⟩ e (λ z=>nomatch z) h
 | @ins a C dx fs ea cl ha hn htk hm =>
  cases (show u = Value.ref a from rx)
  obtain ⟨mA,O,_⟩:=c1P I.hok ea
  obtain ⟨od,J,_⟩:=O.look
  exact PySem.W.kia_one (PySem.W.kitx_own (cl.get _) cl.hd ha hn htk hm) I.kIn J e (λ z=>nomatch z) h
end
end L2
namespace L2
open PySem PySem.Spec PyProof.Rows
structure Room (k:Nat) (A:Around):Prop where
 hd:A.handled = none
 dp:A.depth + 3 * k + 5 < recursionLimit
 un:A.units + 16 * k + 200 < cLine
theorem Room.mono {j k:Nat} {A:Around} (r:Room k A) (h:j <= k):Room j A:=⟨r.hd,by have:=r.dp; omega,by have:=r.un; omega⟩
theorem Room.deeper {k:Nat} {A:Around} (r:Room (k + 1) A) (env:Env):Room k (A.deeper env) :=
 ⟨r.hd,by have:=r.dp; show A.depth + 1 + 3 * k + 5 < _; omega,by have:=r.un; show A.units + 3 + 16 * k + 200 < _; omega⟩
theorem Room.depth {k:Nat} {A:Around} (r:Room k A):A.depth < recursionLimit:=by have:=r.dp; omega
theorem Room.units {k:Nat} {A:Around} (r:Room k A):A.units + 64 < cLine:=by have:=r.un; omega
def tNil:TA:=λ _ H Q=>Q [] H
def c6T (ta:TE) (tr:TA):TA:=λ σ H Q=>ta σ H λ x H1=>tr σ H1 λ xs H2=>Q (x :: xs) H2
section
variable {X:Cx} {e:Expr} {es:List Expr} {te:TE} {t:TA} {pos:Pos}
theorem a0B:PA X [] tNil:=λ _ _ _ _ H Q I h=>Calls.spliced_nil ⟨[],H,I,.nil,h⟩
theorem a0A (ha:PE X e te) (hr:PA X es t) (hs:starEach (e :: es) X.env = (false,eval e X.env) :: starEach es X.env:=by rfl):PA X (e :: es) (c6T te t):=by
 intro pos pins s σ H Q I h
 rw [hs]
 show wpAny _ _ (spliced ((false,eval e X.env) :: backTo pos (starEach es X.env))) _ _ s
 refine Calls.spliced_cons (thn (ha pins s σ H _ I h) λ u s1 ⟨x,H1,I1,r1,q1⟩=>?_)
 exact thn (hr pos pins s1 σ H1 _ I1 q1) λ us s2 ⟨xs,H2,I2,r2,q2⟩=>⟨x :: xs,H2,I2,.cons r1 r2,q2⟩
end
abbrev Sp:=List V->Hp->VK->XK->Prop
abbrev CXT:=List Env->Hp->Shared->XK->Value->Shared->Prop
structure Env0 (P:Program) (w:World) (K:Φρ) (mg:Str->Option Value) (base:Heap) (A:Around) (outer:List Env) (s:Shared) (H:Hp):Prop where
 frames:A.frames = some outer
 mod:Mod K mg base
 bs:∀ b o,base.get? b = some o->s.heap.get? b = some o/\H b = none
 bsz:base.objs.size <= s.heap.objs.size
 funs:s.heap.FunFrames base outer
 frf:∀ b ∈ frs outer,H b = none
 hok:HOk P w H s.heap
 bare:AllBare s.gens
def CE (outer:List Env) (P:Program) (w:World) (H:Hp) (s:Shared) (Q:VK) (u:Value) (s':Shared):Prop :=
 ∃ v H',s'.os = s.os/\AllBare s'.gens/\Un (frs outer) [] H H' s.heap s'.heap/\HOk P w H' s'.heap/\RelV v u/\Q v H'
def CR (CX:CXT) (outer:List Env) (P:Program) (w:World) (H:Hp) (s:Shared) (Q:VK) (E:XK) (r:Result) (s':Shared):Prop :=
 match r with
 | .ok (.ret u)=>CE outer P w H s Q u s'
 | .ok _=>False
 | .error e=>CX outer H s E e s'
structure FnOk (P:Program) (w:World) (K:Φρ) (mg:Str->Option Value) (base:Heap) (CX:CXT) (k:Nat) (f:Addr) (fd:FuncData) (ps:List Str) (sp:Sp):Prop where
 len:∀ vs H Q E,sp vs H Q E->vs.length = ps.length
 run:∀ (A:Around) (outer:List Env) (s:Shared) (H:Hp) (args:Args) (us:List Value) (vs:List V) (Q:VK) (E:XK),Room k A->Env0 P w K mg base A outer s H->BindsTo s fd args (ps.zip us)->Vals vs us->sp vs H Q E ->
  codeAny (model P w) A (.call (.ref f) args) (CR CX outer P w H s Q E) s
theorem FnOk.mono {P:Program} {w:World} {K:Φρ} {mg:Str->Option Value} {base:Heap} {CX:CXT} {j k:Nat} {f:Addr} {fd:FuncData} {ps:List Str} {sp:Sp} (F:FnOk P w K mg base CX j f fd ps sp) (h:j <= k) :
  FnOk P w K mg base CX k f fd ps sp:=⟨F.len,λ A outer s H args us vs Q E hr=>F.run A outer s H args us vs Q E (hr.mono h)⟩
theorem FnOk.imp {P:Program} {w:World} {K:Φρ} {mg:Str->Option Value} {base:Heap} {CX:CXT} {k:Nat} {f:Addr} {fd:FuncData} {ps:List Str} {sp sp':Sp} (F:FnOk P w K mg base CX k f fd ps sp)
  (h:∀ vs H Q E,sp' vs H Q E->sp vs H Q E):FnOk P w K mg base CX k f fd ps sp' :=
 ⟨λ vs H Q E q=>F.len vs H Q E (h _ _ _ _ q),λ A outer s H args us vs Q E hr he hb hv hs=>F.run A outer s H args us vs Q E hr he hb hv (h _ _ _ _ hs)⟩
section
variable {X:Cx} {pins:List (Addr × Obj)} {σ:St} {H:Hp} {s s':Shared}
theorem Inv.env0 (I:Inv X pins σ H s):Env0 X.prog X.w X.K X.mg X.base X.A X.stack s H :=
 ⟨I.ok.frames,I.ok.mod,I.bs,Nat.le_trans I.ok.bsz I.sz,I.stack,I.stkFree,I.hok,I.bare⟩
theorem Inv.after {Q:VK} {u:Value} (I:Inv X pins σ H s) (h:CE X.stack X.prog X.w H s Q u s'):EP X pins σ Q u s':=by
 obtain ⟨v,H',os,bare,un,hok,r,q⟩:=h
 obtain ⟨hh,g,d,t,os'⟩:=s'
 obtain rfl:os' = s.os:=os
 exact ⟨v,H',I.call (h':=hh) (g':=g) (d':=d) (t':=t) (ch:=[]) un hok bare (λ b z=>absurd z (by simp)),r,q⟩
end
def c6U (sp:Sp) (dvs:List V) (E:XK) (t:TA):TE:=λ σ H Q=>t σ H λ vs H1=>sp (vs ++ dvs) H1 Q E
def Binds (K:Φρ) (fd:FuncData) (ps:List Str) (ds:List Value):Prop :=
 ∀ (s:Shared) (us:List Value),K.In s.heap->(us ++ ds).length = ps.length->BindsTo s fd ⟨us,[]⟩ (ps.zip (us ++ ds))
theorem Binds.all {K:Φρ} {fd:FuncData} {ps:List Str} (h:∀ us:List Value,us.length = ps.length->bindArgs fd ⟨us,[]⟩ = pure (ps.zip us)):Binds K fd ps []:=λ s us _ hl=>by
 rw [List.append_nil] at hl ⊢
 exact .of_eq (h us hl)
def b4O (CX:CXT) (X:Cx) (E:XK):Prop:=∀ (pins:List (Addr × Obj)) (σ:St) (H:Hp) (s:Shared) (e:Value) (s':Shared),Inv X pins σ H s->CX X.stack H s E e s'->X.xe e s'
section
variable {X:Cx} {CX:CXT} {k:Nat} {f C:Addr} {fd:FuncData} {ps:List Str} {sp:Sp} {dvs:List V} {ds:List Value} {E:XK} {x m:Str} {p pos apos:Pos} {e o:Expr} {es:List Expr} {ta:TE} {t:TA}
theorem c4V {pins:List (Addr × Obj)} {σ:St} {H:Hp} {s:Shared} {Q:VK} {us:List Value} {vs:List V} (F:FnOk X.prog X.w X.K X.mg X.base CX k f fd ps sp) (hr:Room k X.A) (hb:Binds X.K fd ps ds) (hd:Vals dvs ds) (hx:b4O CX X E)
  (I:Inv X pins σ H s) (r:Vals vs us) (h:sp (vs ++ dvs) H Q E):wpAny (model X.prog X.w) X.A (call (.ref f) us) (EP X pins σ Q) X.xe s:=by
 have r2:Vals (vs ++ dvs) (us ++ ds):=r.append hd
 have hl:(us ++ ds).length = ps.length:=by rw [<- r2.length]; exact F.len _ _ _ _ h
 refine wpAny_call (codeAny_mono (F.run X.A X.stack s H ⟨us,[]⟩ (us ++ ds) (vs ++ dvs) Q E hr I.env0 (hb s us I.kIn hl) r2 h) λ r s' hq=>?_)
 cases r with
 | error e=>exact hx pins σ H s e s' I hq
 | ok fl =>
  cases fl with
  | ret u=>exact I.after hq
  | next=>exact False.elim hq
  | brk=>exact False.elim hq
  | cont=>exact False.elim hq
theorem a0G (F:FnOk X.prog X.w X.K X.mg X.base CX k f fd ps sp) (hr:Room k X.A) (hg:Gl X x) (hm:X.mg x = some (.ref f)) (hk:PySem.W.keepIn X.K (.ref f) = true) (hb:Binds X.K fd ps ds) (hd:Vals dvs ds) (hx:b4O CX X E)
  (ha:PA X (e :: es) t) (hdb:(x == ("__debug__" : Str)) = false:=by decide) (he:starEach (e :: es) X.env = (false,eval e X.env) :: starEach es X.env:=by rfl) (hpl:(backTo pos (starEach es X.env)).any (·.1) = false:=by rfl) :
  PE X (.Call (.Name x p) (e :: es) [] pos) (c6U sp dvs E t):=by
 intro pins s σ H Q I h
 refine wpAny_Call_Name_kw (c1K I hg hm ?_ hdb)
 refine PySem.W.callWith_K (h₀:=X.base) I.ok.mod.kin hk (thn (ha pos pins s σ H _ I h) λ us s1 ⟨vs,H1,I1,r,q⟩=>⟨I1.kIn,?_⟩) he hpl
 exact c4V F hr hb hd hx I1 r q
end
section
variable {X:Cx} {CX:CXT} {k:Nat} {f C:Addr} {fd:FuncData} {ps ks:List Str} {sp:Sp} {E:XK} {x m:Str} {p pos apos kpos:Pos} {e o:Expr} {es:List Expr} {kws:List Keyword} {te ta:TE} {t tk:TA} {nm:Option Str}
variable {g:List Value->List Value->List Value} {gV:List V->List V->List V}
end
structure FnScope (N P:List Str) (sc:Scope):Prop where
 kind:sc.kind = .function
 co:sc.isCoroutine = false
 gen:sc.isGenerator = false
 nd:N.Nodup
 pre:N.take P.length = P
 par:∀ x ∈ P,sc.names.lookup x = some .local\/sc.names.lookup x = some .cell
 nofree:∀ y ∈ sc.names,y.2 ≠ .free
theorem a8Y {kindOf:Str->Option NameKind} {x:Str}:∀ {binds:List (Str × Value)} {m:Str->Option Value},(∀ v,(x,v) ∉ binds)->bindL kindOf binds m x = m x
 | [],_,_=>rfl
 | (n,v) :: r,m,h=>by
  unfold bindL
  rw [a8Y λ w hw=>h w (List.mem_cons_of_mem _ hw)]
  split
  ·have:x ≠ n:=by rintro rfl; exact h v List.mem_cons_self
   simp [this]
  ·rfl
theorem a8Z {kindOf:Str->Option NameKind} {x:Str}:∀ {binds:List (Str × Value)} {m:Str->Option Value},(∀ v,(x,v) ∉ binds)->bindC kindOf binds m x = m x
 | [],_,_=>rfl
 | (n,v) :: r,m,h=>by
  unfold bindC
  rw [a8Z λ w hw=>h w (List.mem_cons_of_mem _ hw)]
  split
  ·rfl
  ·have:x ≠ n:=by rintro rfl; exact h v List.mem_cons_self
   simp [this]
theorem a9A {kindOf:Str->Option NameKind} {x:Str} {v:Value}:∀ {P:List Str} {vs:List Value} {i:Nat} {m:Str->Option Value},P.Nodup->P[i]? = some x->vs[i]? = some v->kindOf x = some .local ->
  bindL kindOf (P.zip vs) m x = some v
 | [],_,_,_,_,h,_,_=>by simp at h
 | _ :: _,[],_,_,_,_,h,_=>by simp at h
 | p :: P,w :: vs,0,m,nd,h1,h2,hk=>by
  simp at h1 h2; subst h1; subst h2
  show bindL kindOf ((p,w) :: P.zip vs) m p = _
  unfold bindL
  rw [a8Y λ v hv=>(List.nodup_cons.mp nd).1 (List.of_mem_zip hv).1,if_pos hk]
  simp
 | p :: P,w :: vs,i + 1,m,nd,h1,h2,hk=>by
  show bindL kindOf ((p,w) :: P.zip vs) m x = _
  unfold bindL
  exact a9A (i:=i) (List.nodup_cons.mp nd).2 (by simpa using h1) (by simpa using h2) hk
theorem a9B {kindOf:Str->Option NameKind} {x:Str} {v:Value}:∀ {P:List Str} {vs:List Value} {i:Nat} {m:Str->Option Value},P.Nodup->P[i]? = some x->vs[i]? = some v->kindOf x ≠ some .local ->
  bindC kindOf (P.zip vs) m x = some v
 | [],_,_,_,_,h,_,_=>by simp at h
 | _ :: _,[],_,_,_,_,h,_=>by simp at h
 | p :: P,w :: vs,0,m,nd,h1,h2,hk=>by
  simp at h1 h2; subst h1; subst h2
  show bindC kindOf ((p,w) :: P.zip vs) m p = _
  unfold bindC
  rw [a8Z λ v hv=>(List.nodup_cons.mp nd).1 (List.of_mem_zip hv).1,if_neg hk]
  simp
 | p :: P,w :: vs,i + 1,m,nd,h1,h2,hk=>by
  show bindC kindOf ((p,w) :: P.zip vs) m x = _
  unfold bindC
  exact a9B (i:=i) (List.nodup_cons.mp nd).2 (by simpa using h1) (by simpa using h2) hk
def a9C (N:List Str) (vs:List V):St:=vs.map some ++ List.replicate (N.length - vs.length) none
def cxOf (CX:CXT) (P:Program) (w:World) (K:Φρ) (mg:Str->Option Value) (base:Heap) (N:List Str) (qual:Str) (scope:Scope) (f:Addr) (cd:Value) (A:Around) (outer:List Env) (s:Shared) (H:Hp) (E:XK):Cx where
 prog:=P
 w:=w
 K:=K
 mg:=mg
 base:=base
 A:=A.deeper (envOfC qual scope s.heap.objs.size f cd)
 N:=N
 s₀:=s
 H₀:=H
 env:=envOfC qual scope s.heap.objs.size f cd
 outer:=outer
 stack:=envOfC qual scope s.heap.objs.size f cd :: outer
 ex:=[]
 calm:=true
 fn:=λ _=>true
 pn:=[]
 xe:=λ e s'=>wpAny (model P w) (A.deeper (envOfC qual scope s.heap.objs.size f cd)) (leaving (envOfC qual scope s.heap.objs.size f cd) e) (λ _ s''=>CX outer H s E e s'') (λ e' s''=>CX outer H s E e' s'') s'
theorem b1Z {sc:Scope} {n:Nat} {x:Str} (h:sc.names.lookup x = some .cell):∃ c,(cellsFrom n sc.names []).lookup x = some c:=by
 have q:=PySem.W.cellsFrom_some sc.names n [] (.inl h)
 exact Option.isSome_iff_exists.mp q
theorem b4P {CX:CXT} {P:Program} {w:World} {K:Φρ} {mg:Str->Option Value} {base:Heap} {N ps:List Str} {qual:Str} {scope:Scope} {f:Addr} {cd:Value} {A:Around} {outer:List Env} {s s1:Shared} {H:Hp} {E:XK} {us:List Value} {vs:List V}
  (S:FnScope N ps scope) (hd:A.handled = none) (e0:Env0 P w K mg base A outer s H) (hl:vs.length = ps.length) (r:Vals vs us)
  (x:InCallC s s.heap.objs.size (bindL (envOfC qual scope s.heap.objs.size f cd).kindOf (ps.zip us) λ _=>none) (cellsFrom (s.heap.objs.size + 1) scope.names []) (bindC (envOfC qual scope s.heap.objs.size f cd).kindOf (ps.zip us) λ _=>none) s1) :
  Inv (cxOf CX P w K mg base N qual scope f cd A outer s H E) [] (a9C N vs) H s1:=by
 have hpl:ps.length <= N.length:=by have:=congrArg List.length S.pre; rw [List.length_take] at this; omega
 obtain ⟨h1,tk,rfl,hk⟩:=x.done
 have noA:∀ b:Addr,b ∉ (cxOf CX P w K mg base N qual scope f cd A outer s H E).ex:=λ b z=>absurd (show b ∈ ([]:List Addr) from z) (by simp)
 refine ⟨⟨e0.mod,S.kind,rfl,rfl,Nat.le_refl _,λ y z c h1 h2=>?_,λ y hy=>?_,λ y c _ h=>?_,λ _=>hd,Around.frames_deeper e0.frames,.inr ⟨rfl,rfl⟩,λ b z=>absurd z (noA b),e0.bs,e0.bsz,λ b _ _=>noA b,λ b z=>absurd z (noA b),e0.funs,e0.frf⟩,
  rfl,e0.bare,Un.kept hk,⟨_,x.toInCall.ns,λ i y v h1 h2 h3=>?_⟩,λ y c h=>⟨_,x.cell y c h⟩,e0.hok.fresh (Nat.le_refl _),λ y c h=>?_,λ p hp=>absurd (show p ∈ ([]:List (Addr × Obj)) from hp) (by simp),e0.hok.kept hk,?_⟩
 ·exact name_of_addr x.apart (PySem.mem_of_lookup h1) (PySem.mem_of_lookup h2)
 ·have hy:scope.names.lookup y = some .cell\/scope.names.lookup y = some .free:=hy
  rcases hy with hy | hy
  ·exact b1Z hy
  ·exact absurd rfl (S.nofree _ (PySem.mem_of_lookup hy))
 ·exact Nat.le_of_lt (x.above y c (PySem.mem_of_lookup h))
 ·have hi:i < vs.length:=by
   unfold a9C at h2
   by_cases hi:i < vs.length
   ·exact hi
   ·rw [List.getElem?_append_right (by simpa using hi)] at h2
    rw [List.getElem?_replicate] at h2
    split at h2 <;> cases h2
  have ha:vs[i]? = some v:=by
   unfold a9C at h2
   rw [List.getElem?_append_left (by simpa using hi),List.getElem?_map] at h2
   cases e:vs[i]? with
   | none=>rw [e] at h2; cases h2
   | some a=>rw [e] at h2; cases h2; rfl
  obtain ⟨u,hu,rv⟩:=r.get ha
  have hp:ps[i]? = some y:=by
   rw [<- S.pre,List.getElem?_take_of_lt (by omega)]; exact h1
  have ndP:ps.Nodup:=by rw [<- S.pre]; exact S.nd.sublist (List.take_sublist _ _)
  refine ⟨u,rv,?_⟩
  rcases S.par y (List.mem_of_getElem? hp) with k | k
  ·exact .inl ⟨k,a9A ndP hp hu k⟩
  ·obtain ⟨c,e⟩:=b1Z (n:=s.heap.objs.size + 1) k
   refine .inr ⟨.inl k,c,e,?_⟩
   have q:=x.cell y c e
   rw [a9B ndP hp hu (by show scope.names.lookup y ≠ _; rw [k]; decide)] at q
   exact q
 ·exact e0.hok.fresh (Nat.le_of_lt (x.above y c (PySem.mem_of_lookup h)))
 ·unfold a9C
  show _ = N.length
  rw [List.length_append,List.length_map,List.length_replicate]
  omega
theorem c6V {CX:CXT} {P:Program} {w:World} {K:Φρ} {mg:Str->Option Value} {base:Heap} {k:Nat} {f:Addr} {name qual:Str} {params:Arguments} {body:List Stmt} {scope:Scope} {dV kV doc pm cdv ct oc:Value} {an od:Option Addr}
  {osl:Array (Option Value)} {N ps:List Str} {sp:Sp} (lk:K.lookup f = some ⟨oc,od,.func (PySem.W.fnOf name qual params body scope dV kV doc pm an cdv ct),osl⟩) (hcd:PySem.W.codeIn K cdv qual = true) (S:FnScope N ps scope)
  (len:∀ vs H Q E,sp vs H Q E->vs.length = ps.length)
  (hbody:∀ (A:Around) (outer:List Env) (s:Shared) (H:Hp) (vs:List V) (Q:VK) (E:XK),Room k (A.deeper (envOfC qual scope s.heap.objs.size f cdv))->sp vs H Q E ->
   ∃ t,PSs (cxOf CX P w K mg base N qual scope f cdv A outer s H E) body t/\t { nx:=λ _ H'=>Q .non H',rt:=Q } (a9C N vs) H) :
  FnOk P w K mg base CX (k + 1) f (PySem.W.fnOf name qual params body scope dV kV doc pm an cdv ct) ps sp:=by
 refine ⟨len,λ A outer s H args us vs Q E hr e0 hb r hsp=>?_⟩
 have hl:=len _ _ _ _ hsp
 have KX:K.In s.heap:=e0.mod.kin.keeps λ b o e=>(e0.bs b o e).1
 have lim:s.heap.NoLimit:=e0.mod.nolimit.keeps λ b o e=>(e0.bs b o e).1
 have hkind:∀ y ∈ ps.zip us,scope.names.lookup y.1 = some .local\/(scope.names.lookup y.1 = some .cell/\((cellsFrom (s.heap.objs.size + 1) scope.names []).lookup y.1).isSome = true):=λ ⟨n,v⟩ hy=>by
  rcases S.par n (List.of_mem_zip hy).1 with q | q
  ·exact .inl q
  ·exact .inr ⟨q,PySem.W.cellsFrom_some _ _ _ (.inl q)⟩
 refine codeAny_call_function hr.depth (KX _ _ lk) rfl S.co S.gen rfl (PySem.W.codeRec_of KX hcd) (hb _ _ _ _ ?_)
 refine wpAny_newFunctionEnv_cells S.kind hkind λ env he s1 x=>?_
 subst he
 refine ⟨lim.keeps x.toInCall.keep,codeAny_func ?_⟩
 obtain ⟨t,ht,hq⟩:=hbody A outer s H vs Q E (hr.deeper _) hsp
 have I:Inv (cxOf CX P w K mg base N qual scope f cdv A outer s H E) [] (a9C N vs) H s1:=b4P S hr.hd e0 hl r x
 refine wpAny_mono (ht [] s1 (a9C N vs) H _ I hq) (λ fl s' hs=>?_) λ e s' hs=>hs
 have fin:∀ {σ':St} {H':Hp} {v:V} {u:Value},Inv (cxOf CX P w K mg base N qual scope f cdv A outer s H E) [] σ' H' s'->RelV v u->Q v H'->CE outer P w H s Q u s' :=
  λ {σ' H' v u} J rv q=>⟨v,H',J.os,J.bare,J.base,J.hok,rv,q⟩
 cases fl with
 | ret u =>
  obtain ⟨v,σ',H',J,rv,q⟩:=hs
  exact fin J rv q
 | next =>
  obtain ⟨σ',H',J,q⟩:=hs
  exact fin (v:=V.non) (u:=Value.none) J rfl q
 | brk =>
  obtain ⟨_,_,_,q⟩:=hs
  exact False.elim q
 | cont =>
  obtain ⟨_,_,_,q⟩:=hs
  exact False.elim q
end L2
namespace L2
open PySem PySem.Spec PyProof.Rows
section
variable {X:Cx} {x:Str} {p pos:Pos} {e:Expr} {es:List Expr} {t:TA} {id T:String} {r:List V->Hp->VK->Prop}
def tCB (r:List V->Hp->VK->Prop) (t:TA):TE:=λ σ H Q=>t σ H λ vs H1=>r vs H1 Q
theorem a0K (hc:CallR X (.builtin id) r) (hg:Gl X x) (hm:X.mg x = none) (hv:bootBuiltins x = some (.builtin id)) (ha:PA X (e :: es) t) (hn:x ≠ "__name__" := by decide) (hdb:(x == ("__debug__" : Str)) = false:=by decide)
  (he:starEach (e :: es) X.env = (false,eval e X.env) :: starEach es X.env:=by rfl) (hpl:(backTo pos (starEach es X.env)).any (·.1) = false:=by rfl):PE X (.Call (.Name x p) (e :: es) [] pos) (tCB r t):=by
 intro pins s σ H Q I h
 refine wpAny_Call_Name_kw (a5G I hg hm hv ?_ hn hdb)
 exact PyProof.Rows.callWith_builtin1 (thn (ha pos pins s σ H _ I h) λ us s1 ⟨vs,H1,I1,r1,q1⟩=>hc pins s1 σ H1 vs us Q I1 r1 q1) he hpl
theorem a2I (hc:CallR X (.type T) r) (hg:Gl X x) (hm:X.mg x = none) (hv:bootBuiltins x = some (.type T)) (ha:PA X (e :: es) t) (hn:x ≠ "__name__" := by decide) (hdb:(x == ("__debug__" : Str)) = false:=by decide)
  (he:starEach (e :: es) X.env = (false,eval e X.env) :: starEach es X.env:=by rfl) (hpl:(backTo pos (starEach es X.env)).any (·.1) = false:=by rfl):PE X (.Call (.Name x p) (e :: es) [] pos) (tCB r t):=by
 intro pins s σ H Q I h
 refine wpAny_Call_Name_kw (a5G I hg hm hv ?_ hn hdb)
 exact PyProof.Rows.callWith_type1 (thn (ha pos pins s σ H _ I h) λ us s1 ⟨vs,H1,I1,r1,q1⟩=>hc pins s1 σ H1 vs us Q I1 r1 q1) he hpl
end
end L2
namespace HT
open PySem PyProof.Rows
section
open PySem.SeqAt
open PySem.AutoSeq1 (wpAny_loadPart')
open PySem.MeetsSeq PySem.MeetsSeq2 PySem.MeetsSeq3
end
section
variable {prog:Program} {w:World} {A:Around} {E:Value->Shared->Prop} {s:Shared}
def sIx (n d:Nat):Option Int->Nat
 | none=>d
 | some v=>if v < 0 then (v + (n:Int)).toNat else min v.toNat n
theorem sIx_nat (n d k:Nat):sIx n d (some (k:Int)) = min k n:=by
 show (if (k:Int) < 0 then ((k:Int) + (n:Int)).toNat else min (k:Int).toNat n) = min k n
 rw [if_neg (by omega),Int.toNat_natCast]
end
end HT
namespace L2
open PySem PySem.Spec PyProof.Rows
abbrev TO:=St->Hp->(Option Int->Hp->Prop)->Prop
def PO (X:Cx) (e:Option Expr) (t:TO):Prop :=
 ∀ (pins:List (Addr × Obj)) (s:Shared) (σ:St) (H:Hp) (Q:Option Int->Hp->Prop),Inv X pins σ H s->t σ H Q ->
  wpAny (model X.prog X.w) X.A (evalPart e X.env) (λ u s'=>∃ o H',Inv X pins σ H' s'/\IsPart u o/\Q o H') X.xe s
def c1Q:TO:=λ _ H Q=>Q none H
def c6W (t:TE):TO:=λ σ H Q=>t σ H λ x H1=>∃ i,x = .int i/\Q (some i) H1
section
variable {X:Cx} {e:Expr} {te:TE} {lo hi:Option Expr} {tl th:TO} {pos p2:Pos}
theorem a7W:PO X none c1Q:=by
 intro pins s σ H Q I h
 rw [evalPart_none]
 exact wpAny_pure ⟨none,H,I,.none,h⟩
theorem a4X (h:PE X e te):PO X (some e) (c6W te):=by
 intro pins s σ H Q I hw
 rw [evalPart_some]
 refine thn (h pins s σ H _ I hw) λ u s1 ⟨x,H1,I1,r1,q1⟩=>?_
 obtain ⟨i,rfl,q⟩:=q1
 obtain ⟨t,rfl⟩:=r1
 exact ⟨some i,H1,I1,.int i t,q⟩
def SlR (X:Cx) (r:V->Option Int->Option Int->Hp->VK->Prop):Prop :=
 ∀ (pins:List (Addr × Obj)) (s:Shared) (σ:St) (H:Hp) (x:V) (v vl vu:Value) (lo hi:Option Int) (sl:Addr) (Q:VK),Inv X pins σ H s->RelV x v->s.heap.IsSliceOf sl vl vu .none->IsPart vl lo->IsPart vu hi->r x lo hi H Q ->
  ∃ T id,typeLookup (.type T) "__getitem__" = pure (some (.builtin id))/\s.TypeIs v T/\wpAny (model X.prog X.w) X.A (getItem v (.ref sl)) (EP X pins σ Q) X.xe s
def tSl (r:V->Option Int->Option Int->Hp->VK->Prop) (te:TE) (tl th:TO):TE:=λ σ H Q=>te σ H λ x H1=>tl σ H1 λ l H2=>th σ H2 λ u H3=>r x l u H3 Q
theorem a4G {r:V->Option Int->Option Int->Hp->VK->Prop} (hr:SlR X r) (he:PE X e te) (hl:PO X lo tl) (hu:PO X hi th):PE X (.Subscript e (.Slice lo hi none p2) pos) (tSl r te tl th):=by
 intro pins s σ H Q I h
 refine Subscript_ (thn (he pins s σ H _ I h) λ v s1 ⟨x,H1,I1,r1,q1⟩=>?_)
 refine wpAny_Slice (thn (hl pins s1 σ H1 _ I1 q1) λ vl s2 ⟨l,H2,I2,pl,q2⟩=>thn (hu pins s2 σ H2 _ I2 q2) λ vu s3 ⟨u,H3,I3,pu,q3⟩=>?_)
 rw [evalPart_none]
 refine wpAny_pure ?_
 have I4:Inv X pins σ H3 { s3 with heap:=s3.heap.push { cls:=.type "slice", data:=.fields #[vl,vu,.none] } }:=I3.kept (t':=s3.toks) λ b ob q=>Heap.get?_push_of_some _ q
 obtain ⟨T,id,hT,ht,hg⟩:=hr pins { s3 with heap:=s3.heap.push { cls:=.type "slice", data:=.fields #[vl,vu,.none] } } σ H3 x v vl vu l u s3.heap.objs.size Q I4 r1 (Heap.IsSliceOf.new ..) pl pu q3
 show wpAny (model X.prog X.w) X.A (subscriptTail e (.Slice lo hi none p2) v (.ref s3.heap.objs.size)) (EP X pins σ Q) X.xe { s3 with heap:=s3.heap.push { cls:=.type "slice", data:=.fields #[vl,vu,.none] } }
 exact tail_any (ops:=[.ref s3.heap.objs.size,v]) ht hT hg (by with_unfolding_all rfl)
def cutV (xs:List V) (lo hi:Option Int):List V:=(xs.drop (HT.sIx xs.length 0 lo)).take (HT.sIx xs.length xs.length hi - HT.sIx xs.length 0 lo)
theorem b0P (xs:List V) (lo hi:Option Int):(cutV xs lo hi).length <= xs.length:=by
 unfold cutV
 rw [List.length_take,List.length_drop]
 omega
end
end L2
namespace L2
open PySem PySem.Spec PyProof.Rows
def ixN (n:Nat) (i:Int):Option Nat:=if 0 <= i then (if i < n then some i.toNat else none) else if -(n:Int) <= i then some (i + n).toNat else none
def atI {α:Type} (xs:List α) (i:Int):Option α:=(ixN xs.length i).bind λ j=>xs[j]?
theorem b4Q {n:Nat} {i:Int} {j:Nat} (h:ixN n i = some j):seqIndex? i n = some j/\j < n /\ -(n:Int) <= i/\i < n:=by
 unfold ixN at h
 by_cases h0:0 <= i
 ·rw [if_pos h0] at h
  by_cases h1:i < n
  ·rw [if_pos h1] at h
   have e:i.toNat = j:=Option.some.inj h
   exact ⟨by rw [seqIndex_of h0 h1,e],by omega,by omega,h1⟩
  ·rw [if_neg h1] at h; cases h
 ·rw [if_neg h0] at h
  by_cases h1 : -(n:Int) <= i
  ·rw [if_pos h1] at h
   have e:(i + n).toNat = j:=Option.some.inj h
   exact ⟨by rw [seqIndex_neg (by omega) h1,e],by omega,h1,by omega⟩
  ·rw [if_neg h1] at h; cases h
theorem b4R {α:Type} {xs:List α} {i:Int} {v:α} (h:atI xs i = some v):∃ j,seqIndex? i xs.length = some j/\xs[j]? = some v/\j < xs.length /\ -(xs.length:Int) <= i/\i < xs.length:=by
 unfold atI at h
 cases e:ixN xs.length i with
 | none=>rw [e] at h; cases h
 | some j =>
  rw [e] at h
  obtain ⟨h1,h2,h3,h4⟩:=b4Q e
  exact ⟨j,h1,h,h2,h3,h4⟩
theorem a1F {α:Type} {xs:List α} {j:Nat} {v:α} (h:xs[j]? = some v):atI xs (j:Int) = some v:=by
 have hj:j < xs.length:=(List.getElem?_eq_some_iff.mp h).1
 have e:ixN xs.length (j:Int) = some j:=by
  unfold ixN
  rw [if_pos (by omega),if_pos (by omega)]; simp
 unfold atI; rw [e]; exact h
theorem b8H {α:Type} (xs:List α) (v:α):atI (xs ++ [v]) (-1) = some v:=by
 have hl:(xs ++ [v]).length = xs.length + 1:=by simp
 have e:ixN (xs ++ [v]).length (-1) = some xs.length:=by
  unfold ixN
  rw [hl,if_neg (by decide),if_pos (by omega)]
  congr 1
  omega
 unfold atI
 rw [e]
 show (xs ++ [v])[xs.length]? = some v
 simp
def c1R (b:Expr):Prop:=∀ o i,subscripted b false o i = operate [o,i] (getItem o i)
def IxR (X:Cx) (r:R2):Prop :=
 ∀ (value slice:Expr) (pins:List (Addr × Obj)) (s:Shared) (σ:St) (H:Hp) (x y:V) (v u:Value) (Q:VK),Inv X pins σ H s->RelV x v->RelV y u->r x y H Q ->
  subscripted slice false v u = operate [v,u] (getItem v u)->wpAny (model X.prog X.w) X.A (subscriptTail value slice v u) (EP X pins σ Q) X.xe s
def MtR (X:Cx) (id:String) (r:V->List V->Hp->VK->Prop):Prop :=
 ∀ (pins:List (Addr × Obj)) (s:Shared) (σ:St) (H:Hp) (x:V) (xs:List V) (v:Value) (us:List Value) (Q:VK),Inv X pins σ H s->RelV x v->Vals xs us->r x xs H Q ->
  wpAny (model X.prog X.w) X.A (call (.builtin id) (v :: us)) (EP X pins σ Q) X.xe s
section
variable {X:Cx} {a b:Expr} {ta tb:TE} {pos:Pos}
theorem a0S {r:R2} (hr:IxR X r) (ha:PE X a ta) (hb:PE X b tb) (hs:c1R b):PE X (.Subscript a b pos) (tOp r ta tb):=by
 intro pins s σ H Q I h
 exact Subscript_ (binT ha hb I h λ v u s2 x y H2 I2 rx ry q=>hr a b pins s2 σ H2 x y v u Q I2 rx ry q (hs _ _))
def rIxL (K:Φρ):R2:=λ x y H Q=>∃ p xs i v,x = .ref p/\y = .int i/\SqL K H p xs/\atI xs i = some v/\Q v H
def rIxT (K:Φρ):R2:=λ x y H Q=>∃ p xs i v,x = .ref p/\y = .int i/\SqT K H p xs/\atI xs i = some v/\Q v H
theorem c1S:IxR X (rIxL X.K):=by
 intro value slice pins s σ H x y v u Q I rx ry h hs
 obtain ⟨p,xs,i,z,rfl,rfl,hq,he,q⟩:=h
 cases rx
 obtain ⟨t,rfl⟩:=ry
 obtain ⟨its,r,pl,hz⟩:=I.list hq
 obtain ⟨j,h1,h2,h3,h4,h5⟩:=b4R he
 obtain ⟨w,ew,rw'⟩:=r.get h2
 have hl:=r.length
 have hn:=a7F
 have fin:EP X pins σ Q w s:=⟨z,H,I,rw',q⟩
 by_cases h0:0 <= i
 ·have hj:i.toNat = j:=by
   rw [seqIndex_of h0 h5] at h1
   exact Option.some.inj h1
  exact item_listR pl.isList h0 (by omega) (by rw [hj]; simpa using ew) fin hs
 ·have hj:(i + (its.toArray.size:Int)).toNat = j:=by
   rw [seqIndex_neg (by omega) h4] at h1
   rw [List.size_toArray,<- hl]
   exact Option.some.inj h1
  exact subscriptTail_builtinR (x:=w) pl.isList.typeIs slot_list_getitem.lookup
   (wpAny_getItem_list_neg (Q:=λ r s'=>r = w/\EP X pins σ Q r s') pl.isList (by omega) (by rw [List.size_toArray] <;> omega) (by omega) (by rw [hj]; simpa using ew) ⟨rfl,fin⟩) hs
theorem c4W:IxR X (rIxT X.K):=by
 intro value slice pins s σ H x y v u Q I rx ry h hs
 obtain ⟨p,xs,i,z,rfl,rfl,hq,he,q⟩:=h
 cases rx
 obtain ⟨t,rfl⟩:=ry
 obtain ⟨its,r,pl,hz⟩:=I.tuple hq
 obtain ⟨j,h1,h2,h3,h4,h5⟩:=b4R he
 obtain ⟨w,ew,rw'⟩:=r.get h2
 have hl:=r.length
 have hn:=a7F
 have fin:EP X pins σ Q w s:=⟨z,H,I,rw',q⟩
 exact subscriptTail_builtinR (x:=w) pl.typeIs slot_tuple_getitem.lookup
  (getItem_tuple (j:=j) (Q:=λ r s'=>r = w/\EP X pins σ Q r s') pl (by omega) (by omega) (by rw [List.size_toArray,<- hl]; exact h1) (by simpa using ew) ⟨rfl,fin⟩) hs
theorem b3H (its:List Value) (n j:Nat) (u:Value):Obj.mapSeq (·.setIfInBounds j u) { cls:=.type "list", data:=.seq its.toArray n } = { cls:=.type "list", data:=.seq (its.set j u).toArray n }:=by
 simp [Obj.mapSeq]
theorem Inv.lst {pins:List (Addr × Obj)} {σ:St} {H:Hp} {s:Shared} {p:Addr} {xs:List V} (I:Inv X pins σ H s) (h:H p = some (.lst xs)) :
  ∃ (its:List Value) (n:Nat),Vals xs its/\s.heap.get? p = some { cls:=.type "list", data:=.seq its.toArray n }/\xs.length <= sizeLine:=by
 obtain ⟨z,its,n,r,e⟩:=I.hok p _ h
 exact ⟨its,n,r,e,z⟩
theorem Inv.lstUpd {pins:List (Addr × Obj)} {σ:St} {H:Hp} {s:Shared} {p:Addr} {xs ys:List V} {its its':List Value} {n n':Nat} {f:Obj->Obj} (I:Inv X pins σ H s) (h:H p = some (.lst xs))
  (ho:s.heap.get? p = some { cls:=.type "list", data:=.seq its.toArray n }) (hf:f { cls:=.type "list", data:=.seq its.toArray n } = { cls:=.type "list", data:=.seq its'.toArray n' }) (r:Vals ys its') (hz:ys.length <= sizeLine) (t:Nat) :
  Inv X pins σ (upd H p (.lst ys)) { s with heap:=s.heap.update p f,toks:=t }:=by
 have e:(s.heap.update p f).get? p = some { cls:=.type "list", data:=.seq its'.toArray n' }:=by
  rw [Heap.get?_update_self f ho (by rw [hf] <;> rfl),hf]
 refine I.write (x:=p) (e:=p) (by rw [h]; trivial) (.inl rfl) (λ b u hb q=>(Heap.get?_update_other _ _ (Ne.symm hb)).trans q) ⟨_,e⟩ ?_
 exact ⟨hz,its',n',r,e⟩
def c6X:V->V->V->Hp->(Hp->Prop)->Prop:=λ o i v H Q=>∃ p xs k j,o = .ref p/\i = .int k/\H p = some (.lst xs)/\ixN xs.length k = some j/\Q (upd H p (.lst (xs.set j v)))
theorem b8I:PSet X c6X:=by
 intro pins s σ H o i v ov iv u Q I ro ri rv h
 obtain ⟨p,xs,k,j,rfl,rfl,hp,hj,q⟩:=h
 cases ro
 obtain ⟨t,rfl⟩:=ri
 obtain ⟨its,n,r,ho,hz⟩:=I.lst hp
 obtain ⟨h1,h2,h3,h4⟩:=b4Q hj
 have hl:=r.length
 have hn:=a7F
 have I':Inv X pins σ (upd H p (.lst (xs.set j v))) { s with heap:=s.heap.update p (Obj.mapSeq (·.setIfInBounds j u)) } :=
  I.lstUpd hp ho (b3H its n j u) (r.set rv j) (by rw [List.length_set]; exact hz) s.toks
 by_cases h0:0 <= k
 ·have hk:k.toNat = j:=by
   rw [seqIndex_of h0 h4] at h1
   exact Option.some.inj h1
  exact PySem.W.ki_setAt ho h0 (by omega) (by rw [List.size_toArray,<- hl]; exact h4) (by rw [hk]; exact ⟨_,I',q⟩)
 ·have hk:(k + (its.toArray.size:Int)).toNat = j:=by
   rw [seqIndex_neg (by omega) h3] at h1
   rw [List.size_toArray,<- hl]
   exact Option.some.inj h1
  exact PySem.W.ki_setBack ho (by omega) (by rw [List.size_toArray,<- hl]; exact h3) (by omega) (by rw [hk]; exact ⟨_,I',q⟩)
theorem a9D (lo hi:Option Int) (n:Nat):(sliceBounds lo hi none n).1 = ((HT.sIx n 0 lo:Nat):Int)/\(sliceBounds lo hi none n).2.1 = ((HT.sIx n n hi:Nat):Int)/\(sliceBounds lo hi none n).2.2 = 1:=by
 refine ⟨?_,?_,rfl⟩
 ·cases lo with
  | none=>simp [sliceBounds,HT.sIx]
  | some i =>
   simp only [sliceBounds,HT.sIx,Option.getD_none,show (1:Int) > 0 by decide,if_true]
   by_cases h:i < 0
   ·simp only [h,if_true] <;> omega
   ·simp only [h,if_false] <;> omega
 ·cases hi with
  | none=>simp [sliceBounds,HT.sIx]
  | some i =>
   simp only [sliceBounds,HT.sIx,Option.getD_none,show (1:Int) > 0 by decide,if_true]
   by_cases h:i < 0
   ·simp only [h,if_true] <;> omega
   ·simp only [h,if_false] <;> omega
theorem a7X (its:List Value) (lo hi:Option Int):slicePick its.toArray lo hi none = ((its.drop (HT.sIx its.length 0 lo)).take (HT.sIx its.length its.length hi - HT.sIx its.length 0 lo)).toArray:=by
 obtain ⟨h1,h2,h3⟩:=a9D lo hi its.toArray.size
 unfold slicePick
 rw [h1,h2,h3]
 simp only [sliceRange_one,pick_run,List.size_toArray] <;> rfl
def rSlL (K:Φρ):V->Option Int->Option Int->Hp->VK->Prop:=λ x lo hi H Q=>∃ a xs,x = .ref a/\SqL K H a xs/\∀ p,H p = none->Q (.ref p) (upd H p (.lst (cutV xs lo hi)))
theorem c1T:SlR X (rSlL X.K):=by
 intro pins s σ H x v vl vu lo hi sl Q I rx hs pl pu h
 obtain ⟨a,xs,rfl,hx,q⟩:=h
 cases rx
 obtain ⟨its,r,ht,hz⟩:=I.list hx
 have hlen:=r.length
 refine ⟨"list", _,slot_list_getitem.lookup,ht.isList.typeIs,?_⟩
 refine wpAny_getItem_list_slice ht.isList hs pl pu .none (by simp) ?_ (by rw [List.size_toArray] <;> omega)
 rw [a7X,<- hlen]
 refine ⟨.ref s.heap.objs.size,_,I.laid (t':=s.toks) (o:=.lst (cutV xs lo hi)) (λ b ob q=>Heap.get?_push_of_some _ q) (Nat.le_refl _) ?_,rfl,q _ (I.hok.fresh (Nat.le_refl _))⟩
 exact ⟨Nat.le_trans (b0P xs lo hi) hz,_,0,(r.drop (HT.sIx xs.length 0 lo)).take (HT.sIx xs.length xs.length hi - HT.sIx xs.length 0 lo),Heap.get?_push_size _ rfl⟩
theorem a9E:CallR X (.builtin "len") (λ xs H Q=>∃ p ys,xs = [.ref p]/\(SqL X.K H p ys\/SqT X.K H p ys)/\Q (.int ys.length) H):=by
 intro pins s σ H xs us Q I r h
 obtain ⟨p,ys,rfl,hq,q⟩:=h
 obtain ⟨u,rfl,rx⟩:=a8X r
 cases rx
 have hn:=a7F
 rcases hq with hq | hq
 ·obtain ⟨its,r',pl,hz⟩:=I.list hq
  have hlen:=r'.length
  exact Calls.call_len_list pl.isList (by simp only [List.size_toArray] <;> omega) ⟨.int ys.length,H,I.tok _,⟨s.toks + 1,by rw [List.size_toArray,hlen]⟩,q⟩
 ·obtain ⟨its,r',pl,hz⟩:=I.tuple hq
  have hlen:=r'.length
  exact len_tuple pl (by simp only [List.size_toArray] <;> omega) ⟨.int ys.length,H,I.tok _,⟨s.toks + 1,by rw [List.size_toArray,hlen]⟩,q⟩
theorem a9F:CallR X (.type "list") (λ xs H Q=>∃ p ys,xs = [.ref p]/\(SqL X.K H p ys\/SqT X.K H p ys)/\∀ l,H l = none->Q (.ref l) (upd H l (.lst ys))):=by
 intro pins s σ H xs us Q I r h
 obtain ⟨p,ys,rfl,hq,q⟩:=h
 obtain ⟨u,rfl,rx⟩:=a8X r
 cases rx
 have fin:∀ (its:List Value),Vals ys its->ys.length <= sizeLine->∀ (h':Heap) (c':Nat),(∀ b o',s.heap.get? b = some o'->h'.get? b = some o') ->
   h'.get? s.heap.objs.size = some { cls:=.type "list", dict:=none,data:=.seq its.toArray c',slots:=#[] }->EP X pins σ Q (.ref s.heap.objs.size) { s with heap:=h' }:=λ its r' hz h' c' kp e =>
  ⟨.ref s.heap.objs.size,_,I.laid (t':=s.toks) kp (Nat.le_refl _) (show ObjOk X.prog X.w _ h' _ (.lst ys) from ⟨hz,its,c',r',e⟩),rfl,q _ (I.hok.fresh (Nat.le_refl _))⟩
 rcases hq with hq | hq
 ·obtain ⟨its,r',pl,hz⟩:=I.list hq
  have hlen:=r'.length
  obtain ⟨o,ho,hc,n,hd⟩:=pl.isList
  exact call_list_seq p (.inl rfl) ho hc hd (λ h' c' kp e=>fin its r' hz h' c' kp e) (by simp only [List.size_toArray] <;> omega)
 ·obtain ⟨its,r',pl,hz⟩:=I.tuple hq
  have hlen:=r'.length
  obtain ⟨o,ho,hc,n,hd⟩:=pl
  exact call_list_seq p (.inr rfl) ho hc hd (λ h' c' kp e=>fin its r' hz h' c' kp e) (by simp only [List.size_toArray] <;> omega)
def tyV (K:Φρ) (T:String) (x:V) (H:Hp):Prop:=match x with
 | .str _=>T = "str"
 | .int _=>T = "int"
 | .ref p=>(T = "list" /\ ∃ xs,SqL K H p xs)\/(T = "tuple" /\ ∃ o,K.lookup p = some o/\o.cls = .type "tuple" /\ o.dict = none) \/
   (T = "dict" /\ ((∃ kvs,H p = some (.dK kvs))\/∃ kvs,H p = some (.dT kvs)))\/(T = "set" /\ ∃ S n,H p = some (.set S n))
 | _=>False
theorem c0Q {pins:List (Addr × Obj)} {σ:St} {H:Hp} {s:Shared} {T:String} {x:V} {v:Value} (I:Inv X pins σ H s) (r:RelV x v) (ty:tyV X.K T x H) :
  s.TypeIs v T/\∀ a,v = .ref a->∃ ob,s.heap.get? a = some ob/\ob.dict = none:=by
 cases x with
 | str z =>
  obtain ⟨t,rfl⟩:=r
  cases (show T = "str" from ty)
  exact ⟨typeIs_str s z t,λ _ e=>nomatch e⟩
 | int i =>
  obtain ⟨t,rfl⟩:=r
  cases (show T = "int" from ty)
  exact ⟨typeIs_int s i t,λ _ e=>nomatch e⟩
 | ref p =>
  cases r
  rcases ty with ⟨rfl,xs,hq⟩ | ⟨rfl,o,hk,hc,hd⟩ | ⟨rfl,hk⟩ | ⟨rfl,S,n,hk⟩
  ·obtain ⟨its,_,pl,_⟩:=I.list hq
   refine ⟨pl.isList.typeIs,λ a e=>?_⟩
   cases e
   obtain ⟨o,n,e,c,hd,_⟩:=pl
   exact ⟨o,e,hd⟩
  ·refine ⟨⟨o,I.kIn p o hk,hc⟩,λ a e=>?_⟩
   cases e
   exact ⟨o,I.kIn _ o hk,hd⟩
  ·have z:∃ o,s.heap.get? p = some o/\o.ExactDict:=by
    rcases hk with ⟨kvs,hk⟩ | ⟨kvs,hk⟩
    ·obtain ⟨_,_,_,_,o,_,_,e,ex,_⟩:=I.hok p _ hk
     exact ⟨o,e,ex⟩
    ·obtain ⟨_,_,_,_,o,_,_,e,ex,_⟩:=I.hok p _ hk
     exact ⟨o,e,ex⟩
   obtain ⟨o,e,ex⟩:=z
   refine ⟨⟨o,e,ex.1⟩,λ a e2=>?_⟩
   cases e2
   exact ⟨o,e,ex.2.1⟩
  ·obtain ⟨o,_,_,_,e,ex,_⟩:=I.hok p _ hk
   refine ⟨⟨o,e,ex.1⟩,λ a e2=>?_⟩
   cases e2
   exact ⟨o,e,ex.2.1⟩
 | _=>exact False.elim ty
def tBM0 (K:Φρ) (T:String) (r:V->List V->Hp->VK->Prop) (to:TE):TE:=λ σ H Q=>to σ H λ x H1=>tyV K T x H1/\r x [] H1 Q
def tBM (K:Φρ) (T:String) (r:V->List V->Hp->VK->Prop) (to:TE) (t:TA):TE:=λ σ H Q=>to σ H λ x H1=>tyV K T x H1/\t σ H1 λ xs H2=>r x xs H2 Q
variable {o e:Expr} {es:List Expr} {to:TE} {t:TA} {name:Str} {apos cpos:Pos} {T id:String} {r:V->List V->Hp->VK->Prop}
theorem c4X (pa:PlainAttrs T) (slot:Slot T name id) (hty:typeOf (.builtin id) = pure (.type "method_descriptor")) (hm:MtR X id r) (ho:PE X o to)
  (hbase:attributeBase o name X.env (eval o X.env) = eval o X.env:=by rfl) (hline:(apos.endLine == cpos.line) = true:=by rfl):PE X (.Call (.Attribute o name apos) [] [] cpos) (tBM0 X.K T r to):=by
 intro pins s σ H Q I h
 refine wpAny_Call_method0_late hbase hline (thn (ho pins s σ H _ I h) λ v s1 ⟨x,H1,I1,r1,ty,q1⟩=>?_)
 obtain ⟨h1,h2⟩:=c0Q I1 r1 ty
 exact ⟨T,id,pa,slot,hty,h1,h2,Calls.callWith_builtin rfl (PySem.evalArgs_none (hm pins s1 σ H1 x [] v [] Q I1 r1 .nil q1))⟩
theorem c6Y (pa:PlainAttrs T) (slot:Slot T name id) (hty:typeOf (.builtin id) = pure (.type "method_descriptor")) (hm:MtR X id r) (ho:PE X o to) (ha:PA X (e :: es) t)
  (hbase:attributeBase o name X.env (eval o X.env) = eval o X.env:=by rfl)
  (hfew:((backTo cpos (starEach (e :: es) X.env)).all (λ x=>!x.1) && (backToKw cpos (keywordEach [] X.env)).all (λ x=>x.1.isSome)
   && decide ((e :: es).length + ([]:List Keyword).length + (if ([]:List Keyword).isEmpty then 0 else 1) < 30)) = true:=by rfl)
  (hline:(apos.endLine == cpos.line) = true:=by rfl) (hs:starEach (e :: es) X.env = (false,eval e X.env) :: starEach es X.env:=by rfl) (hplain:(backTo cpos (starEach es X.env)).any (·.1) = false:=by rfl) :
  PE X (.Call (.Attribute o name apos) (e :: es) [] cpos) (tBM X.K T r to t):=by
 intro pins s σ H Q I h
 refine wpAny_Call_method_late hbase hfew hline rfl (thn (ho pins s σ H _ I h) λ v s1 ⟨x,H1,I1,r1,ty,q1⟩=>?_)
 obtain ⟨h1,h2⟩:=c0Q I1 r1 ty
 refine ⟨T,id,pa,slot,hty,h1,h2,?_⟩
 have hA:=ha cpos pins s1 σ H1 _ I1 q1
 rw [hs] at hA ⊢
 refine Calls.callWith_builtin (by show (false || (backTo cpos (starEach es X.env)).any (·.1)) = false; rw [hplain] <;> rfl) (Calls.evalArgs_plain ?_)
 exact thn hA λ us s2 ⟨vs,H2,I2,r2,q2⟩=>hm pins s2 σ H2 x vs v us Q I2 r1 r2 q2
end
end L2
namespace L2
open PySem PySem.Spec PyProof.Rows
def MtM (X:Cx) (id:String) (r:V->List V->Hp->VK->Prop):Prop :=
 ∀ (pins:List (Addr × Obj)) (s:Shared) (σ:St) (H:Hp) (x:V) (xs:List V) (v:Value) (us:List Value) (Q:VK),Inv X pins σ H s->RelV x v->Vals xs us->r x xs H Q ->
  wpAny (model X.prog X.w) X.A (call (.builtin id) (v :: us)) (EP X pins σ Q) X.xe s
theorem Vals.one:∀ {x:V} {us:List Value},Vals [x] us->∃ u,us = [u]/\RelV x u
 | _,_,.cons r .nil=>⟨_,rfl,r⟩
theorem Vals.two:∀ {x y:V} {us:List Value},Vals [x,y] us->∃ u v,us = [u,v]/\RelV x u/\RelV y v
 | _,_,_,.cons r (.cons q .nil)=>⟨_,_,rfl,r,q⟩
theorem Vals.rep {xs:List V} {us:List Value} (h:Vals xs us):∀ k:Nat,Vals (List.replicate k xs).flatten (List.replicate k us).flatten
 | 0=>.nil
 | k + 1=>by
  rw [List.replicate_succ,List.replicate_succ,List.flatten_cons,List.flatten_cons]
  exact Vals.append h (Vals.rep h k)
theorem a9G (its:List Value):∀ (k:Nat) (acc:List Value),
  List.foldl (λ x1 x2=>x1 ++ x2) acc.toArray (List.replicate k its.toArray) = (acc ++ (List.replicate k its).flatten).toArray
 | 0,acc=>by simp
 | k + 1,acc=>by
  have e:acc.toArray ++ its.toArray = (acc ++ its).toArray:=by simp
  have e2:(acc ++ its) ++ (List.replicate k its).flatten = acc ++ (List.replicate (k + 1) its).flatten:=by
   rw [List.replicate_succ,List.flatten_cons,List.append_assoc]
  rw [<- e2,<- a9G its k (acc ++ its),<- e,List.replicate_succ,List.foldl_cons]
section
variable {X:Cx} {pins:List (Addr × Obj)} {σ:St} {H:Hp} {s:Shared} {l b:Addr} {xs ys zs:List V}
theorem Inv.lset {its its':List Value} {n:Nat} {f:Array Value->Array Value} {t':Nat} (I:Inv X pins σ H s) (hH:H l = some (.lst xs))
  (e:s.heap.get? l = some { cls:=.type "list", data:=.seq its.toArray n }) (hf:f its.toArray = its'.toArray) (hv:Vals ys its') (hz:ys.length <= sizeLine) :
  Inv X pins σ (upd H l (.lst ys)) { s with heap:=s.heap.update l (Obj.mapSeq f),toks:=t' }:=by
 have q:=PySem.IsL.update e f
 rw [hf] at q
 refine I.write (x:=l) (e:=l) (by rw [hH]; exact trivial) (.inl rfl) (λ b' u hb hu=>(Heap.get?_update_other s.heap (Obj.mapSeq f) (Ne.symm hb)).trans hu) ⟨_,q⟩ ?_
 exact ⟨hz,its',_,hv,q⟩
theorem Inv.lnew {its:List Value} {t':Nat} (I:Inv X pins σ H s) (hv:Vals ys its) (hz:ys.length <= sizeLine) :
  Inv X pins σ (upd H s.heap.objs.size (.lst ys)) { s with heap:=s.heap.push { cls:=.type "list", data:=.seq its.toArray },toks:=t' } :=
 I.laid (λ _ _ q=>Heap.get?_push_of_some _ q) (Nat.le_refl _) ⟨hz,its,0,hv,Heap.get?_push_size _ rfl⟩
theorem Inv.fresh (I:Inv X pins σ H s):H s.heap.objs.size = none:=I.hok.fresh (Nat.le_refl _)
theorem Inv.lstM (I:Inv X pins σ H s) (hH:H l = some (.lst xs)):xs.length <= sizeLine/\∃ (its:List Value) (n:Nat),Vals xs its/\xs.length = its.length/\s.heap.get? l = some { cls:=.type "list", data:=.seq its.toArray n }:=by
 obtain ⟨z,its,n,r,e⟩:=I.hok l _ hH
 exact ⟨z,its,n,r,r.length,e⟩
theorem b2A {n:Nat} (h:n <= sizeLine):Builtin.List.listTooLong n = false:=by
 unfold Builtin.List.listTooLong
 exact decide_eq_false (by omega)
end
section
variable {X:Cx}
def c1U:V->List V->Hp->VK->Prop:=λ x vs H Q=>∃ l xs y,x = .ref l/\vs = [y]/\H l = some (.lst xs)/\xs.length < sizeLine/\Q .non (upd H l (.lst (xs ++ [y])))
theorem mt_append:MtM X "list.append" c1U:=by
 intro pins s σ H x vs v us Q I rx rv h
 obtain ⟨l,xs,y,rfl,rfl,hH,hz,q⟩:=h
 cases rx
 obtain ⟨u,rfl,ru⟩:=rv.one
 obtain ⟨z,its,n,r,hl,e⟩:=I.lstM hH
 refine call_meets F.slot_list_append ⟨_,e,rfl⟩ F.entry_list_append (F.args_list_append_2 _ _) (PySem.list_append l its.toArray n u (by rw [List.size_toArray]; omega)) ⟨e,?_⟩
 refine ⟨.non,_,I.lset (its':=its ++ [u]) hH e (by simp) (r.append (.cons ru .nil)) ?_,rfl,q⟩
 rw [List.length_append,List.length_singleton]
 omega
def c1V:V->List V->Hp->VK->Prop:=λ x vs H Q=>∃ l b xs zs,x = .ref l/\vs = [.ref b]/\H l = some (.lst xs)/\H b = some (.lst zs)/\xs.length + zs.length <= sizeLine/\Q .non (upd H l (.lst (xs ++ zs)))
theorem mt_extend:MtM X "list.extend" c1V:=by
 intro pins s σ H x vs v us Q I rx rv h
 obtain ⟨l,b,xs,zs,rfl,rfl,hH,hB,hz,q⟩:=h
 cases rx
 obtain ⟨u,rfl,ru⟩:=rv.one
 cases ru
 obtain ⟨z,its,n,r,hl,e⟩:=I.lstM hH
 obtain ⟨z2,its2,n2,r2,hl2,e2⟩:=I.lstM hB
 have hsz:its.toArray.size + its2.toArray.size <= sizeLine:=by rw [List.size_toArray,List.size_toArray]; omega
 have hlong:¬ (!its.toArray.isEmpty && Builtin.List.listTooLong (its.toArray.size + its2.toArray.size)) = true:=by
  rw [b2A hsz,Bool.and_false]
  exact Bool.false_ne_true
 refine call_meets F.slot_list_extend ⟨_,e,rfl⟩ F.entry_list_extend (F.args_list_extend_2 _ _)
  (AutoSeq1.list_extend_list_list_0 l its.toArray n b its2.toArray n2 hlong (by rw [List.size_toArray]; omega) (by omega)) ⟨e,e2,?_⟩
 refine ⟨.non,_,I.lset (its':=its ++ its2) hH e (by simp) (r.append r2) ?_,rfl,q⟩
 rw [List.length_append]
 omega
def rCat:R2:=λ x y H Q=>∃ l b xs zs,x = .ref l/\y = .ref b/\H l = some (.lst xs)/\H b = some (.lst zs)/\xs.length + zs.length <= sizeLine/\∀ p,H p = none->Q (.ref p) (upd H p (.lst (xs ++ zs)))
theorem op_cat:OpR X (binaryOp .Add) rCat:=by
 intro pins s σ H x y v u Q I rx ry h
 obtain ⟨l,b,xs,zs,rfl,rfl,hH,hB,hz,q⟩:=h
 cases rx
 cases ry
 obtain ⟨z,its,n,r,hl,e⟩:=I.lstM hH
 obtain ⟨z2,its2,n2,r2,hl2,e2⟩:=I.lstM hB
 refine PySem.P.add_list e e2 ?_ (by rw [List.size_toArray,List.size_toArray]; omega)
 have ea:its.toArray ++ its2.toArray = (its ++ its2).toArray:=by simp
 rw [ea]
 exact ⟨.ref _,_,I.lnew (t':=s.toks) (r.append r2) (by rw [List.length_append]; omega),rfl,q _ I.fresh⟩
def rRep:R2:=λ x y H Q=>∃ l k xs,x = .ref l/\y = .int k/\H l = some (.lst xs) /\ -(2 ^ 63) <= k/\k < 2 ^ 63/\xs.length * k.toNat <= sizeLine /\
 ∀ p,H p = none->Q (.ref p) (upd H p (.lst (List.replicate k.toNat xs).flatten))
theorem c1W {α:Type} (xs:List α) (k:Nat):(List.replicate k xs).flatten.length = k * xs.length:=by
 induction k with
 | zero=>simp
 | succ k ih=>rw [List.replicate_succ,List.flatten_cons,List.length_append,ih,Nat.succ_mul,Nat.add_comm]
theorem op_rep:OpR X (binaryOp .Mult) rRep:=by
 intro pins s σ H x y v u Q I rx ry h
 obtain ⟨l,k,xs,rfl,rfl,hH,h1,h2,hz,q⟩:=h
 cases rx
 obtain ⟨t,rfl⟩:=ry
 obtain ⟨z,its,n,r,hl,e⟩:=I.lstM hH
 have hlen:its.toArray.size * k.toNat <= sizeLine:=by rw [List.size_toArray,<- hl]; exact hz
 have hcap:¬ its.toArray.size * k.toNat > (2 ^ 63 - 1) / 8:=by
  have:(sizeLine:Nat) <= (2 ^ 63 - 1) / 8:=by decide
  omega
 have hfit:¬ (!Builtin.List.listFitsIndex k) = true:=by
  rw [fitsIndex_both h1 h2]
  exact Bool.false_ne_true
 have hlong:¬ Builtin.List.listTooLong (its.toArray.size * k.toNat) = true:=by
  rw [b2A hlen]
  exact Bool.false_ne_true
 have hnew:List.foldl (λ x1 x2=>x1 ++ x2) #[] (List.replicate (if its.toArray.isEmpty = true then 0 else k.toNat) its.toArray) = (List.replicate k.toNat its).flatten.toArray:=by
  have f0:∀ m:Nat,List.foldl (λ x1 x2=>x1 ++ x2) #[] (List.replicate m its.toArray) = (List.replicate m its).flatten.toArray:=λ m=>by
   have:=a9G its m []
   rw [List.nil_append] at this
   exact this
  rw [f0]
  cases its with
  | nil=>simp
  | cons a r'=>rw [if_neg (by simp)]
 refine wpAny_binaryOp_repeat_ref (T:="list") (U:="int") (by decide) ⟨_,e,rfl⟩ (λ s'=>typeIs_int s' k t) noFill_list_mul F.fills_int_mul F.slot_int_rmul repeat_list F.slot_int_index.lookup
  (call_meets F.slot_int_rmul (typeIs_int s k t) F.entry_int_rmul (F.args_int_rmul_2 _ _) (int___rmul___int_list k t l its.toArray n)
   ⟨e,rfl,⟨_,e,rfl⟩,call_meets F.slot_list_mul ⟨_,e,rfl⟩ F.entry_list_mul (F.args_list_mul_2 _ _) (AutoListH.list___mul___list_int_3 l its.toArray n k t hfit hcap hlong) ⟨e,?_⟩⟩)
 rw [hnew]
 exact ⟨.ref _,_,I.lnew (t':=s.toks) (r.rep k.toNat) (by rw [c1W,Nat.mul_comm]; exact hz),rfl,q _ I.fresh⟩
end
section
variable {prog:Program} {w:World} {A:Around} {E:Value->Shared->Prop} {s:Shared}
end
section
variable {X:Cx}
end
end L2
namespace Att
open PySem PySem.W PySem.Calls PyProof.Rows
theorem a6D {P:Params} {h:Heap}:∀ (ns:List Int) (vs:List Value),WellAll P h vs (ns.map WData.int)->IntsAre vs ns:=by
 intro ns
 induction ns with
 | nil =>
  intro vs w
  rw [List.map_nil] at w
  cases w
  exact .nil
 | cons n ns ih =>
  intro vs w
  rw [List.map_cons] at w
  cases w with
  | cons a b =>
   cases a
   exact .cons _ _ (ih _ b)
theorem b4S {l : OpenLaw} {n : Nat} (hn : l.most = some n) {P : Params} {h : Heap} {args : List WData} {vals : List Value}
    (hpre : l.row.toRowW.claim.pre args = true) (hwl : WellAll P h vals args) :
    ∃ a vs ns, vals = [Value.ref a] /\ args = [WData.list (ns.map WData.int)] /\ h.get? a = some { cls := .type "list", data := .seq vs.toArray } /\ IntsAre vs ns /\ ns.length <= n := by
  have hsh : WShape.hasAll [] args [.list .int] = true := (pre_splitW hpre).1
  have hc : l.pre.holds [] { args := args } = true := (pre_splitW hpre).2
  obtain ⟨d, r, rfl, h1, h2⟩ := hasAllW_cons hsh
  obtain rfl := hasAllW_nil h2
  obtain ⟨xs, rfl, h3⟩ := hasW_list h1
  obtain ⟨ns, rfl⟩ := items_int h3
  have hlen : ns.length <= n := by
    unfold OpenLaw.pre at hc
    have h4 : (WTm.not (.lt (.lit (.int (n : Int))) (.len (.arg 0)))).holds [] { args := [.list (ns.map .int)] } = true := by
      have h4 := (holds_andW hc).1
      rw [hn] at h4
      exact h4
    have h5 := condW_of h4 (w_not (w_lt w_lit (w_len_list (w_arg rfl))))
    rw [List.length_map] at h5
    refine Nat.le_of_not_lt fun q => ?_
    have q' : (n : Int) < ((ns.length : Nat) : Int) := by omega
    first
      | (rw [decide_eq_true q'] at h5; exact absurd h5 (by decide))
      | (simp at h5; omega)
  cases hwl with
  | cons w1 w2 =>
    cases w2
    cases w1 with
    | list ho hall => exact ⟨_, _, ns, rfl, rfl, ho, a6D ns _ hall, hlen⟩
theorem b4T (l : OpenLaw) (args : List WData) : l.row.toRowW.claim.post args (.bool true) args = true :=
  postW_of (r := l.row.toRowW) (X := (true == true))
    (show WShape.has [] (.bool true) .bool = true by first | rfl | decide | simp [WShape.has, WShape.arms, WShape.armsAll])
    (show (WTm.eq .res (.lit (.bool true))).value [] { args := args, res := some (.bool true), after := args } = some (.bool (true == true)) from w_eq_bool (w_res rfl) w_lit) rfl
theorem attach_call {l:OpenLaw} {n:Nat} {q:Program} {loose:List Str} {XP:(Str->Option Value)->Heap->Prop} {YP:World->Heap->Prop} {d:DefRec}
  (hn:l.most = some n) (hdf:d.params.defaults = [])
  (call:∀ (w:World) (s₀ s₁:Shared) (mg mb:Str->Option Value) (fa:Addr) (o:Obj) (pm cd doc:Value) (a:Addr) (vs:List Value) (ns:List Int),
   Ground q loose [] XP w s₀ mg mb s₁.heap->YP w s₁.heap ->
   s₁.heap.get? fa = some o->o.data = .func (docDef d.name d.params d.body d.scope pm cd doc)->s₁.heap.CodeRec cd d.name->mg d.name = some (.ref fa) ->
   s₁.heap.get? a = some { cls:=.type "list", data:=.seq vs.toArray }->IntsAre vs ns->ns.length <= n->s₁.gens = #[] ->
   codeAny (model l.prog w) callerA (.call (.ref fa) ⟨[.ref a],[]⟩) (λ r s'=>r = .ok (.ret (.bool true))/\OldK s₁.heap s'.heap/\s'.os = s₁.os/\AllBare s'.gens) s₁) :
  WalkO q loose XP YP l.row.toRowW d [] (λ f vs=>PySem.call f vs):=by
 intro w s₀ s₁ mg mb G Y fa o pm cd doc dV kV ho hd hcd hD hmg hg args vals as hpre hlay hrd hwl hlo
 obtain rfl:dV = .none:=Dflts.none hD hdf
 obtain rfl:kV = .none:=Dflts.noKw hD
 obtain ⟨a,vs,ns,rfl,rfl,hobj,hints,hlen⟩:=b4S hn hpre hwl
 refine enter_call (codeAny_mono (call w s₀ s₁ mg mb fa o pm cd doc a vs ns G Y ho (fd_plain hd) hcd hmg hobj hints hlen hg) λ r s' hq=>?_)
 obtain ⟨rfl,h2,h3,h4⟩:=hq
 exact ⟨.inl ⟨.bool true,.bool true,[],rfl,λ _=>rfl,.bool true,b4T l _,λ _=>⟨List.Pairwise.nil,λ _ hm=>(nomatch hm)⟩⟩,h2,h3,h4⟩
section
variable {prog:Program} {w:World} {A:Around} {E:Value->Shared->Prop} {s:Shared} {K:Frag}
end
end Att
namespace L2
open PySem PySem.Spec PyProof.Rows
theorem a9H:∀ {vs:List Value} {ns:List Int},IntsAre vs ns->Vals (ns.map V.int) vs
 | _,_,.nil=>.nil
 | _,_,.cons n t h=>.cons ⟨t,rfl⟩ (a9H h)
def Only (H:Hp):Prop:=∀ b,H b = none\/∃ o xs,H b = some (.frz o (.lst xs))
theorem b8J {P:Program} {w:World} {K:Φρ} {mg mb:Str->Option Value} {CX:CXT} {k:Nat} {fa a:Addr} {fd:FuncData} {x:Str} {sp:Sp} {s₁:Shared} {vs:List Value} {ns:List Int}
  (KX:K.In s₁.heap) (hns:s₁.heap.Ns mainGlobals mg) (hb:s₁.heap.Ns builtinsNs mb) (hbb:∀ x:Str,x ≠ "__name__" -> mb x = bootBuiltins x) (hlim:s₁.heap.NoLimit) (hg:s₁.gens = #[])
  (ha:s₁.heap.get? a = some { cls:=.type "list", data:=.seq vs.toArray }) (hi:IntsAre vs ns) (hl:ns.length <= sizeLine) (hr:Room k callerA)
  (F:∀ base:Heap,K.In base->base.Ns mainGlobals mg->FnOk P w K mg base CX k fa fd [x] sp) (hbind:∀ (s:Shared) (u:Value),BindsTo s fd ⟨[u],[]⟩ [(x,u)])
  (hsp:∀ H:Hp,Only H->SqL K H a (ns.map V.int)->sp [.ref a] H (λ v _=>v = .bl true) λ _ _ _=>False)
  (hCX:∀ H e s',CX [] H s₁ (λ _ _ _=>False) e s'->False) :
  codeAny (model P w) callerA (.call (.ref fa) ⟨[.ref a],[]⟩) (λ r s'=>r = .ok (.ret (.bool true))/\OldK s₁.heap s'.heap/\s'.os = s₁.os/\AllBare s'.gens) s₁:=by
 have rv:=a9H hi
 have lenV:=hi.length
 have core:∀ H:Hp,Only H->SqL K H a (ns.map V.int)->HOk P w H s₁.heap->(∀ b,H b ≠ none->b = a)->(H a ≠ none->K.lookup a = none) ->
   codeAny (model P w) callerA (.call (.ref fa) ⟨[.ref a],[]⟩) (λ r s'=>r = .ok (.ret (.bool true))/\OldK s₁.heap s'.heap/\s'.os = s₁.os/\AllBare s'.gens) s₁:=by
  intro H hO hS hok hA hK
  have base_of:∀ {b:Addr} {o:Obj},s₁.heap.get? b = some o->H b = none->(hidT s₁.heap H).get? b = some o:=λ e n=>b7Z e n
  have noA:∀ {b:Addr} {o:Obj} {es:Array DictEntry} {ep:Nat},s₁.heap.get? b = some o->o.data = .dict es ep->H b = none:=λ {b o es ep} e d=>by
   cases q:H b with
   | none=>rfl
   | some u =>
    have e':b = a:=hA b (by rw [q]; simp)
    subst e'
    rw [ha] at e; cases e
    have d':Data.seq vs.toArray _ = Data.dict es ep:=d
    cases d'
  have nsK:∀ {b:Addr} {m:Str->Option Value},s₁.heap.Ns b m->(hidT s₁.heap H).Ns b m:=λ {b m} ⟨o,es,ep,e,d,r⟩=>⟨o,es,ep,base_of e (noA e d),d,r⟩
  have hKb:K.In (hidT s₁.heap H):=λ b o e=>base_of (KX b o e) (by
   cases q:H b with
   | none=>rfl
   | some u =>
    have e':b = a:=hA b (by rw [q]; simp)
    subst e'
    rw [hK (by rw [q]; simp)] at e; cases e)
  have hM:Mod K mg (hidT s₁.heap H):=⟨hKb,nsK hns,⟨mb,nsK hb,hbb⟩,let ⟨mc,h1,h2⟩:=hlim; ⟨mc,nsK h1,h2⟩⟩
  have e0:Env0 P w K mg (hidT s₁.heap H) callerA [] s₁ H:=⟨rfl,hM,λ b o e=>c1J e,Nat.le_of_eq (b4F _ _),trivial,λ b hb=>absurd (show b ∈ ([]:List Addr) from hb) (by simp),hok,.of_eq hg⟩
  refine codeAny_mono ((F _ hKb (nsK hns)).run callerA [] s₁ H ⟨[.ref a],[]⟩ [.ref a] [.ref a] _ _ hr e0 (hbind s₁ (.ref a)) (.cons rfl .nil) (hsp H hO hS)) λ r s' h=>?_
  cases r with
  | error e=>exact (hCX H e s' h).elim
  | ok fl =>
   cases fl with
   | next=>exact False.elim h
   | brk=>exact False.elim h
   | cont=>exact False.elim h
   | ret u =>
    obtain ⟨v,H',os,bare,un,hok',r',q⟩:=h
    have q':v = .bl true:=q
    subst q'
    obtain rfl:u = Value.bool true:=r'
    refine ⟨rfl,OldK.of_keep λ b o e=>?_,os,bare⟩
    cases q:H b with
    | none=>exact un.keep b o e q (by intro z; exact absurd (show b ∈ ([]:List Addr) from z) (by simp)) (by simp)
    | some u =>
     rcases hO b with z | ⟨ob,xs,z⟩
     ·rw [q] at z; cases z
     ·have z2:=un.frzs b ob _ z
      obtain ⟨e1,_⟩:=hok b _ z
      obtain ⟨e2,_⟩:=hok' b _ z2
      rw [e] at e1; cases e1
      exact e2
 cases hk:K.lookup a with
 | some o =>
  have e:=KX a o hk
  rw [ha] at e
  cases e
  refine core (λ _=>none) (λ _=>.inl rfl) (.inr ⟨_,vs.toArray,_,hk,rfl,rfl,rfl,by rw [List.size_toArray,lenV]; exact hl,by simpa using rv⟩) (λ b u z=>by have z':(none:Option HO) = some u:=z; cases z') (λ b z=>absurd rfl z) λ z=>absurd rfl z
 | none =>
  refine core (λ b=>if b = a then some (.frz { cls:=.type "list", data:=.seq vs.toArray } (.lst (ns.map V.int))) else none) (λ b=>?_) (.inl (.inr ⟨{ cls:=.type "list", data:=.seq vs.toArray },if_pos rfl⟩)) (λ b u z=>?_) (λ b z=>?_) λ _=>hk
  ·by_cases hb:b = a
   ·exact .inr ⟨_,_,if_pos hb⟩
   ·exact .inl (if_neg hb)
  ·by_cases hb:b = a
   ·have z':=(if_pos hb).symm.trans z
    cases z'
    subst hb
    exact ⟨ha,by rw [List.length_map]; exact hl,vs,_,rv,ha⟩
   ·have z':=(if_neg hb).symm.trans z
    cases z'
  ·by_cases hb:b = a
   ·exact hb
   ·exact absurd (if_neg hb) z
end L2
namespace L2
open PySem PySem.Spec PyProof.Rows
abbrev KOf {K:Φρ} {h:Heap} (_:K.In h):Φρ:=K
theorem c1X {l:PySem.W.OpenLaw} {n k:Nat} {q:Program} {loose:List Str} {XP:(Str->Option Value)->Heap->Prop} {YP:World->Heap->Prop} {d:DefRec} {K:Params->Φρ} {CX:World->CXT} {sp:World->Sp} {x:Str}
  (hn:l.most = some n) (hn2:n <= sizeLine) (hdf:d.params.defaults = []) (hr:Room k callerA)
  (hY:∀ (w:World) (h:Heap),YP w h->(K w.params).In h)
  (F:∀ (w:World) (mg:Str->Option Value) (fa:Addr) (h:Heap),(K w.params).In h->h.Ns mainGlobals mg->mg d.name = some (.ref fa) ->
   ∃ fd:FuncData,(∀ (s:Shared) (u:Value),BindsTo s fd ⟨[u],[]⟩ [(x,u)]) /\
    ∀ base:Heap,(K w.params).In base->base.Ns mainGlobals mg->FnOk l.prog w (K w.params) mg base (CX w) k fa fd [x] (sp w))
  (hsp:∀ (w:World) (H:Hp) (a:Addr) (ns:List Int),ns.length <= n->Only H->SqL (K w.params) H a (ns.map V.int)->sp w [.ref a] H (λ v _=>v = .bl true) λ _ _ _=>False)
  (hCX:∀ (w:World) (H:Hp) (s:Shared) (e:Value) (s':Shared),CX w [] H s (λ _ _ _=>False) e s'->False) :
  PySem.W.WalkO q loose XP YP l.row.toRowW d [] (λ f vs=>PySem.call f vs):=by
 refine Att.attach_call hn hdf λ w s₀ s₁ mg mb fa o pm cd doc a vs ns G Y ho hd hcd hmg hobj hints hlen hg=>?_
 have KX:=hY w _ Y
 obtain ⟨fd,hb,hF⟩:=F w mg fa _ KX G.T.g hmg
 exact b8J KX G.T.g G.T.b G.T.builtins G.T.nolimit hg hobj hints (Nat.le_trans hlen hn2) hr hF hb (λ H hO hS=>hsp w H a ns hlen hO hS) λ H e s'=>hCX w H s₁ e s'
theorem walk_ofK {l:PySem.W.OpenLaw} {n k:Nat} {q:Program} {loose:List Str} {XP:(Str->Option Value)->Heap->Prop} {YP:World->Heap->Prop} {d:DefRec} {K:Params->Φρ} {CX:CXT} {sp:Φρ->Sp} {x:Str}
  (hn:l.most = some n) (hn2:n <= sizeLine) (hdf:d.params.defaults = []) (hr:Room k callerA)
  (hY:∀ (w:World) (h:Heap),YP w h->(K w.params).In h)
  (F:∀ (w:World) (mg:Str->Option Value) (fa:Addr) (h:Heap),(K w.params).In h->h.Ns mainGlobals mg->mg d.name = some (.ref fa) ->
   ∃ fd:FuncData,(∀ (s:Shared) (u:Value),BindsTo s fd ⟨[u],[]⟩ [(x,u)]) /\
    ∀ base:Heap,(K w.params).In base->base.Ns mainGlobals mg->FnOk l.prog w (K w.params) mg base CX k fa fd [x] (sp (K w.params)))
  (hsp:∀ (K:Φρ) (H:Hp) (a:Addr) (ns:List Int),ns.length <= n->Only H->SqL K H a (ns.map V.int)->sp K [.ref a] H (λ v _=>v = .bl true) λ _ _ _=>False)
  (hCX:∀ (H:Hp) (s:Shared) (e:Value) (s':Shared),CX [] H s (λ _ _ _=>False) e s'->False) :
  PySem.W.WalkO q loose XP YP l.row.toRowW d [] (λ f vs=>PySem.call f vs) :=
 c1X (K:=K) (CX:=λ _=>CX) (sp:=λ w=>sp (K w.params)) hn hn2 hdf hr hY F (λ w H a ns h1 h2 h3=>hsp (K w.params) H a ns h1 h2 h3) λ _ H s e s'=>hCX H s e s'
end L2
namespace L2
open PySem PySem.Spec PyProof.Rows
def a1W (s:Stmt):Arguments:=match s with
 | .FunctionDef _ a _ _ _ _ _ _ _ _=>a
 | _=>{ posonlyargs:=[],args:=[],vararg:=none,kwonlyargs:=[],kw_defaults:=[],kwarg:=none,defaults:=[] }
def a1T (s:Stmt):List Stmt:=match s with
 | .FunctionDef _ _ b _ _ _ _ _ _ _=>b
 | _=>[]
def a0E (s:Stmt):Scope:=match s with
 | .FunctionDef _ _ _ _ _ _ sc _ _ _=>sc
 | _=>{ kind:=.function,names:=[],isGenerator:=false,isCoroutine:=false }
abbrev CX0:CXT:=λ _ _ _ _ _ _=>False
abbrev E0:XK:=λ _ _ _=>False
theorem a0L {X:Cx}:b4O CX0 X E0:=λ _ _ _ _ _ _ _ h=>h.elim
structure Fun (K:Φρ) (x qual:Str) (st:Stmt) (f:Addr) (fd:FuncData):Prop where
 ex:∃ (oc:Value) (od:Option Addr) (kV doc pm:Value) (an:Option Addr) (cdv ct:Value) (osl:Array (Option Value)),
  fd = PySem.W.fnOf x qual (a1W st) (a1T st) (a0E st) .none kV doc pm an cdv ct/\K.lookup f = some ⟨oc,od,.func fd,osl⟩/\PySem.W.codeIn K cdv qual = true
 kp:PySem.W.keepIn K (.ref f) = true
section
variable {P:Program} {w:World} {K:Φρ} {mg:Str->Option Value} {base:Heap}
theorem Fun.ok {x qual:Str} {st:Stmt} {f:Addr} {fd:FuncData} {N ps:List Str} {k:Nat} {sp:Sp} (F:Fun K x qual st f fd) (S:FnScope N ps (a0E st)) (len:∀ vs H Q E,sp vs H Q E->vs.length = ps.length)
  (hbody:∀ (cdv:Value) (A:Around) (outer:List Env) (s:Shared) (H:Hp) (vs:List V) (Q:VK) (E:XK),Room k (A.deeper (envOfC qual (a0E st) s.heap.objs.size f cdv))->sp vs H Q E ->
   ∃ t,PSs (cxOf CX0 P w K mg base N qual (a0E st) f cdv A outer s H E).nox (a1T st) t/\t { nx:=λ _ H'=>Q .non H',rt:=Q } (a9C N vs) H):FnOk P w K mg base CX0 (k + 1) f fd ps sp:=by
 obtain ⟨oc,od,kV,doc,pm,an,cdv,ct,osl,rfl,lk,hcd⟩:=F.ex
 refine c6V lk hcd S len λ A outer s H vs Q E hr hsp=>?_
 obtain ⟨t,h,q⟩:=hbody cdv A outer s H vs Q E hr hsp
 exact ⟨t,h.nox,q⟩
theorem Fun.binds {x qual:Str} {st:Stmt} {f:Addr} {fd:FuncData} {ps:List Str} (F:Fun K x qual st f fd)
  (h:∀ (kV doc pm:Value) (an:Option Addr) (cdv ct:Value) (us:List Value),us.length = ps.length->bindArgs (PySem.W.fnOf x qual (a1W st) (a1T st) (a0E st) .none kV doc pm an cdv ct) ⟨us,[]⟩ = pure (ps.zip us)):Binds K fd ps []:=by
 obtain ⟨oc,od,kV,doc,pm,an,cdv,ct,osl,rfl,lk,hcd⟩:=F.ex
 exact .all (h kV doc pm an cdv ct)
theorem c4Y {x qual:Str} {st:Stmt} {f:Addr} {oc:Value} {od an:Option Addr} {osl:Array (Option Value)} {kV doc pm cdv ct:Value} (l:K.lookup f = some ⟨oc,od,.func (PySem.W.fnOf x qual (a1W st) (a1T st) (a0E st) .none kV doc pm an cdv ct),osl⟩)
  (c:PySem.W.codeIn K cdv qual = true) (k:PySem.W.keepIn K (.ref f) = true):Fun K x qual st f (PySem.W.fnOf x qual (a1W st) (a1T st) (a0E st) .none kV doc pm an cdv ct):=⟨⟨oc,od,kV,doc,pm,an,cdv,ct,osl,rfl,l,c⟩,k⟩
end
theorem a0W {n:Nat} (h:n <= 1000):n < sizeLine:=Nat.lt_of_le_of_lt h (by decide)
section
variable {X:Cx}
theorem pv (i:Nat) {x:Str} {pos:Pos} (hN:X.N[i]? = some x:=by rfl) (hv:Vis X.env.scope x:=by first | exact Or.inl rfl | exact Or.inr (Or.inl rfl) | exact Or.inr (Or.inr rfl)) (hd:(x == ("__debug__" : Str)) = false:=by decide)
  (hcd:(x == ("__classdict__" : Str)) = false:=by decide):PE X (.Name x pos) (tVar i):=c4L hN hv hd hcd
end
theorem iteF {A B:Prop} (h:B):if false = true then A else B:=by
 rw [if_neg Bool.false_ne_true]
 exact h
theorem iteT {A B:Prop} (h:A):if true = true then A else B:=by
 rw [if_pos rfl]
 exact h
theorem ite2 {c A B:Prop} [Decidable c] (h1:c->A) (h2:¬ c->B):if c then A else B:=by
 by_cases h:c
 ·rw [if_pos h]
  exact h1 h
 ·rw [if_neg h]
  exact h2 h
def Same (H H':Hp):Prop:=∀ b o,H b = some o->H' b = some o
theorem Same.refl (H:Hp):Same H H:=λ _ _ h=>h
theorem Same.trans {H H1 H2:Hp} (a:Same H H1) (b:Same H1 H2):Same H H2:=λ c o h=>b c o (a c o h)
theorem Same.free {H H':Hp} (e:Same H H') {l:Addr} (h:H' l = Option.none):H l = Option.none:=by
 cases q:H l with
 | none=>rfl
 | some o =>
  rw [e l o q] at h
  cases h
theorem Same.seq {K:Φρ} {H H':Hp} {a:Addr} {xs:List V} (e:Same H H') (h:SqL K H a xs):SqL K H' a xs:=by
 rcases h with (h | ⟨o,h⟩) | h
 ·exact .inl (.inl (e _ _ h))
 ·exact .inl (.inr ⟨o,e _ _ h⟩)
 ·exact .inr h
end L2
namespace L2
open PySem PySem.Spec PyProof.Rows
def clOf (cells:List (Str × Addr)):List (Str × NameKind)->List (Str × Addr)->List (Str × Addr)
 | [],acc=>acc
 | (n,k) :: r,acc=>clOf cells r (if k == .free then (match cells.lookup n with | some c=>(n,c) :: acc | none=>acc) else acc)
theorem c0R {env:Env}:∀ (ns:List (Str × NameKind)) (acc:List (Str × Addr)),(∀ x ∈ ns,x.2 = .free->∃ c,env.cells.lookup x.1 = some c) ->
  (forIn ns acc λ (x:Str × NameKind) (cs:List (Str × Addr))=>(if x.2 == NameKind.free then do let a <- cellOf env x.1; pure (ForInStep.yield ((x.1,a) :: cs)) else pure (ForInStep.yield cs):Sem (ForInStep (List (Str × Addr))))) = pure (clOf env.cells ns acc)
 | [],acc,_=>by simp [clOf]
 | (n,k) :: r,acc,h=>by
  rw [List.forIn_cons]
  have ih:=λ a=>c0R (env:=env) r a λ x hx=>h x (List.mem_cons_of_mem _ hx)
  unfold clOf
  by_cases hk:(k == NameKind.free) = true
  ·obtain ⟨c,hc⟩:=h (n,k) List.mem_cons_self (by simpa using hk)
   have hc':env.cells.lookup n = some c:=hc
   have hce:cellOf env n = pure c:=by simp only [cellOf,hc']
   simp only [hk,if_true,hce,pure_bind,hc']
   exact ih _
  ·simp only [hk,if_false,pure_bind,ih]
   simp
theorem a7G {scope:Scope} {env:Env} (h:∀ x ∈ scope.names,x.2 = .free->∃ c,env.cells.lookup x.1 = some c):closureFor scope env = pure (clOf env.cells scope.names []):=by
 have q:=c0R (env:=env) scope.names [] h
 unfold closureFor
 rw [<- q]
 first
  | rfl
  | simp
theorem a5U {cells:List (Str × Addr)}:∀ (ns:List (Str × NameKind)) (acc:List (Str × Addr)) {x:Str} {c:Addr},(∀ y d,acc.lookup y = some d->cells.lookup y = some d)->(clOf cells ns acc).lookup x = some c->cells.lookup x = some c
 | [],acc,x,c,ha,h=>ha x c h
 | (n,k) :: r,acc,x,c,ha,h=>by
  unfold clOf at h
  refine a5U r _ (λ y d hy=>?_) h
  split at hy
  ·split at hy
   ·rename_i c' hc'
    rw [List.lookup_cons] at hy
    split at hy
    ·rename_i e
     have e':y = n:=by simpa using e
     subst e'
     rw [hc']; exact hy
    ·exact ha y d hy
   ·exact ha y d hy
  ·exact ha y d hy
theorem a9I {cells:List (Str × Addr)}:∀ (ns:List (Str × NameKind)) (acc:List (Str × Addr)) {x:Str},(∃ c,acc.lookup x = some c)->∃ c,(clOf cells ns acc).lookup x = some c
 | [],acc,x,h=>h
 | (n,k) :: r,acc,x,h=>by
  unfold clOf
  refine a9I r _ ?_
  split
  ·split
   ·rw [List.lookup_cons]
    split
    ·exact ⟨_,rfl⟩
    ·exact h
   ·exact h
  ·exact h
theorem a7Y {cells:List (Str × Addr)}:∀ (ns:List (Str × NameKind)) (acc:List (Str × Addr)) {x:Str},(x,NameKind.free) ∈ ns->(∃ c,cells.lookup x = some c)->∃ c,(clOf cells ns acc).lookup x = some c
 | [],acc,x,h,_=>nomatch h
 | (n,k) :: r,acc,x,h,hc=>by
  unfold clOf
  rcases List.mem_cons.mp h with e | h
  ·cases e
   obtain ⟨c,hc⟩:=hc
   refine a9I r _ ?_
   simp [hc]
  ·exact a7Y r _ h hc
end L2
namespace L2
open PySem PySem.Spec PyProof.Rows
theorem Inv.track {X:Cx} {pins:List (Addr × Obj)} {σ:St} {H:Hp} {s:Shared} {a:Addr} {o:HO} (I:Inv X pins σ H s) (hn:H a = none) (h0:X.s₀.heap.objs.size <= a) (hL:a ≠ X.env.locals)
  (hc:∀ x c,X.env.cells.lookup x = some c->c ≠ a) (hp:∀ p ∈ X.pn ++ pins,p.1 ≠ a) (new:ObjOk X.prog X.w (upd H a o) s.heap a o):Inv X pins σ (upd H a o) s:=by
 have ne:∀ b u,H b = some u->b ≠ a:=λ b u e=>a0Z e hn
 have q:=I.step (g':=s.gens) (d':=s.drawn) (t':=s.toks) (h':=s.heap) (H':=upd H a o) (ch:=[a]) (λ b hb=>?_) (λ b ob _ _ _ e _=>e) (λ b ob _ _ _ e _=>⟨ob.slots,e⟩) (λ b ob hb _ n=>?_)
  (λ b ob _ e=>⟨ob,e⟩) (λ b xs e=>by rw [a1I (ne b _ e)]; exact e) (λ b ob u e=>by rw [a1I (ne b _ e)]; exact e) (λ b ps e=>⟨#[],by rw [a1I (ne b _ e),e]; simp⟩) (λ m hm=>hm) (λ b u e=>?_) I.bare
 ·exact q
 ·have e:b = a:=by simpa using hb
  subst e
  exact ⟨.inr h0,hL,hc,hp⟩
 ·rw [a1I (λ z=>hb (by simp [z]))]; exact n
 ·by_cases hb:b = a
  ·subst hb; rw [a4A] at e; cases e; exact new
  ·rw [a1I hb] at e
   exact (I.hok b u e).stay (λ c v _ q=>q) (λ c q=>by rw [a1I (a0Z q hn)]; exact q) λ c xs q=>by rw [a1I (a0Z q hn)]; exact q
def a3F (X:Cx) (N':List Str) (scope:Scope) (C:Addr) (s:Shared) (H:Hp) (fp:List Addr) (xe:Value->Shared->Prop):Cx :=
 { X with N:=N',s₀:=s,H₀:=H,env:=compEnvC scope (clOf X.env.cells scope.names []) C X.env,outer:=X.stack,ex:=fp,fn:=λ _=>false,xe:=xe }
structure BlkOk (X:Cx) (N':List Str) (ix:List (Option Nat)) (scope:Scope):Prop where
 kind:scope.kind = .function
 nocell:∀ y ∈ scope.names,y.2 ≠ .cell
 locs:∀ y ∈ scope.names,y.2 = .local->scope.names.lookup y.1 = some .local
 free:∀ y ∈ scope.names,y.2 = .free->X.env.kindOf y.1 = some .cell\/X.env.kindOf y.1 = some .free
 len:ix.length = N'.length
 cap:∀ (i j:Nat),ix[i]? = some (some j)->∃ x,N'[i]? = some x/\X.N[j]? = some x/\scope.names.lookup x = some .free
def capt (ix:List (Option Nat)) (σ:St):St:=ix.map λ o=>o.bind λ j=>(σ[j]?).join
theorem a5H {env:Env} {x:Str}:∀ {names:List (Str × NameKind)},names.lookup x = some .free->(names.map λ (n,k)=>if (k == NameKind.free && env.scope.kind == .function && env.kindOf n == some .cell) then (n,NameKind.cell) else (n,k)).lookup x = some .cell\/(names.map λ (n,k)=>if (k == NameKind.free && env.scope.kind == .function && env.kindOf n == some .cell) then (n,NameKind.cell) else (n,k)).lookup x = some .free
 | [],h=>by simp at h
 | (n,k) :: r,h=>by
  have ih:=@a5H env x r
  simp only [List.map_cons]
  cases hx:x == n with
  | true =>
   simp only [List.lookup_cons,hx] at h
   cases h
   by_cases hc:(NameKind.free == NameKind.free && env.scope.kind == .function && env.kindOf n == some .cell) = true
   ·rw [if_pos hc]; left; simp [List.lookup_cons,hx]
   ·rw [if_neg hc]; right; simp [List.lookup_cons,hx]
  | false =>
   simp only [List.lookup_cons,hx] at h
   by_cases hc:(k == NameKind.free && env.scope.kind == .function && env.kindOf n == some .cell) = true
   ·rw [if_pos hc]; simp only [List.lookup_cons,hx]; exact ih h
   ·rw [if_neg hc]; simp only [List.lookup_cons,hx]; exact ih h
theorem a5I {env:Env} {x:Str}:∀ {names:List (Str × NameKind)},(∀ y ∈ names,y.2 ≠ .cell)->((names.map λ (n,k)=>if (k == NameKind.free && env.scope.kind == .function && env.kindOf n == some .cell) then (n,NameKind.cell) else (n,k)).lookup x = some .cell\/(names.map λ (n,k)=>if (k == NameKind.free && env.scope.kind == .function && env.kindOf n == some .cell) then (n,NameKind.cell) else (n,k)).lookup x = some .free)->(x,NameKind.free) ∈ names
 | [],_,h=>by simp at h
 | (n,k) :: r,hn,h=>by
  have ih:=@a5I env x r λ y hy=>hn y (List.mem_cons_of_mem _ hy)
  simp only [List.map_cons] at h
  cases hx:x == n with
  | true =>
   have e:x = n:=by simpa using hx
   subst e
   have hk:=hn (x,k) List.mem_cons_self
   by_cases hc:(k == NameKind.free && env.scope.kind == .function && env.kindOf x == some .cell) = true
   ·have hf:k = .free:=by
     simp only [Bool.and_eq_true,beq_iff_eq] at hc
     exact hc.1.1
    subst hf
    exact List.mem_cons_self
   ·rw [if_neg hc] at h
    simp only [List.lookup_cons,hx] at h
    rcases h with h | h
    ·exact absurd (Option.some.inj h) hk
    ·have hf:k = .free:=Option.some.inj h
     subst hf
     exact List.mem_cons_self
  | false =>
   refine List.mem_cons_of_mem _ (ih ?_)
   by_cases hc:(k == NameKind.free && env.scope.kind == .function && env.kindOf n == some .cell) = true
   ·rw [if_pos hc] at h; simpa only [List.lookup_cons,hx] using h
   ·rw [if_neg hc] at h; simpa only [List.lookup_cons,hx] using h
theorem a9J {X:Cx} {pins:List (Addr × Obj)} {σ:St} {H:Hp} {s:Shared} {N':List Str} {ix:List (Option Nat)} {scope:Scope} {i:Nat} {x:Str} {v:V} (B:BlkOk X N' ix scope) (I:Inv X pins σ H s)
  (h1:N'[i]? = some x) (h2:(capt ix σ)[i]? = some (some v)):∃ u c,RelV v u/\(clOf X.env.cells scope.names []).lookup x = some c/\X.env.cells.lookup x = some c/\s.heap.IsCell c (some u) /\
   ((relabel scope X.env).names.lookup x = some .cell\/(relabel scope X.env).names.lookup x = some .free):=by
 have clB:∀ x c,(clOf X.env.cells scope.names []).lookup x = some c->X.env.cells.lookup x = some c:=λ x c h=>a5U scope.names [] (λ _ _ z=>by simp at z) h
 obtain ⟨j,hj,hv⟩:∃ j,ix[i]? = some (some j)/\σ[j]? = some (some v):=by
  unfold capt at h2
  rw [List.getElem?_map] at h2
  cases e:ix[i]? with
  | none=>rw [e] at h2; cases h2
  | some o =>
   rw [e] at h2
   cases o with
   | none=>cases h2
   | some j =>
    refine ⟨j,rfl,?_⟩
    have h2':(σ[j]?).join = some v:=Option.some.inj h2
    cases e2:σ[j]? with
    | none=>rw [e2] at h2'; cases h2'
    | some o2=>rw [e2] at h2'; have:o2 = some v:=h2'; rw [this]
 obtain ⟨x',hx1,hx2,hx3⟩:=B.cap i j hj
 have exx:x' = x:=by
  have h1':N'[i]? = some x:=h1
  rw [hx1] at h1'; exact Option.some.inj h1'
 subst exx
 have hmem:=PySem.mem_of_lookup hx3
 have hout:=B.free _ hmem rfl
 obtain ⟨m0,_,hl⟩:=I.loc
 obtain ⟨u,r,l⟩:=hl j x' v hx2 hv (by
  rcases hout with e | e
  ·exact .inr (.inl e)
  ·exact .inr (.inr e))
 rcases l with ⟨k,_⟩ | ⟨k,c,e,z⟩
 ·rcases hout with e | e
  ·rw [e] at k; cases k
  ·rw [e] at k; cases k
 ·obtain ⟨c',hc'⟩:=a7Y scope.names [] hmem (I.ok.has x' hout)
  have:=clB x' c' hc'
  rw [e] at this; cases this
  exact ⟨u,c,r,hc',e,z,a5H hx3⟩
theorem b4U {X:Cx} {pins:List (Addr × Obj)} {σ:St} {H:Hp} {s s4:Shared} {N':List Str} {ix:List (Option Nat)} {scope:Scope} {C:Addr} {fp:List Addr} {xe:Value->Shared->Prop} {m:Str->Option Value}
  (B:BlkOk X N' ix scope) (I:Inv X pins σ H s) (hf:∀ b ∈ fp,FpOk X pins H b) (hC:s.heap.objs.size <= C) (hfs:∀ b ∈ fp,b < s.heap.objs.size)
  (ho:s4.os = s.os) (hg:s4.gens = s.gens) (hk:∀ b o,s.heap.get? b = some o->s4.heap.get? b = some o) (hns:s4.heap.Ns C m) :
  Inv (a3F X N' scope C s H fp xe) pins (capt ix σ) H s4:=by
 have clB:∀ x c,(clOf X.env.cells scope.names []).lookup x = some c->X.env.cells.lookup x = some c:=λ x c h=>a5U scope.names [] (λ _ _ z=>by simp at z) h
 have hfree:H C = none:=I.hok.fresh hC
 have neC:∀ b o,s.heap.get? b = some o->b ≠ C:=λ b o e=>Nat.ne_of_lt (Nat.lt_of_lt_of_le (Heap.lt_size e) hC)
 refine ⟨⟨I.ok.mod,B.kind,I.ok.glob,I.ok.blt,hC,λ x y c h1 h2=>I.ok.inj x y c (clB x c h1) (clB y c h2),λ x hx=>?_,λ x c h=>absurd (show false = true from h) Bool.false_ne_true,I.ok.hd,I.ok.frames,.inl rfl,λ b hb=>⟨?_,λ x c e=>?_⟩,I.bs,?_,λ b o e hb=>?_,λ b hb z=>?_,I.stack,I.stkFree⟩,
  ho,?_,Un.kept hk,⟨m,hns,λ i x v h1 h2 h3=>?_⟩,λ x c e=>?_,hfree,λ x c e=>I.freeC x c (clB x c e),λ p hp=>?_,I.hok.kept hk,?_⟩
 ·have hx':=a5I (env:=X.env) (x:=x) B.nocell hx
  exact a7Y scope.names [] hx' (I.ok.has x (B.free _ hx' rfl))
 ·exact Nat.ne_of_lt (Nat.lt_of_lt_of_le (hfs b hb) hC)
 ·exact (hf b hb).2.2.2.2.1 x c (clB x c e)
 ·exact Nat.le_trans I.ok.bsz I.sz
 ·obtain ⟨_,_,_,q,_⟩:=hf b hb
  rcases q with q | q
  ·exact I.ok.noex b o e q
  ·exact absurd (Nat.lt_of_lt_of_le (Heap.lt_size (I.ok.bs b o e).1) q) (Nat.lt_irrefl _)
 ·obtain ⟨_,q1,q2,_⟩:=hf b hb
  rcases List.mem_cons.mp (I.stkSub b z) with e | e
  ·exact q1 e
  ·exact q2 e
 ·rw [hg]; exact I.bare
 ·obtain ⟨u,c,r,hc1,_,⟨oc,z1,z2⟩,hk'⟩:=a9J B I h1 h2
  exact ⟨u,r,.inr ⟨hk',c,hc1,oc,hk _ _ z1,z2⟩⟩
 ·obtain ⟨v,oc,h1,h2⟩:=I.cell x c (clB x c e)
  exact ⟨v,oc,hk _ _ h1,h2⟩
 ·obtain ⟨e,n,ne,nf,d⟩:=I.pin p hp
  refine ⟨hk _ _ e,n,neC _ _ e,λ z=>?_,d⟩
  rcases List.mem_cons.mp (I.stkSub p.1 z) with e' | e'
  ·exact ne e'
  ·exact nf e'
 ·show (ix.map _).length = N'.length
  rw [List.length_map]; exact B.len
end L2
namespace L2
open PySem PySem.Spec PyProof.Rows
theorem b0Q {prog:Program} {w:World} {A:Around} {R:Result->Shared->Prop} {s:Shared} {elt target iter:Expr} {ifs:List Expr} {scope:Scope} {pos:Pos} {it acc:Value} {env:Env} (Iv:Nat->Shared->Prop)
  (turn:∀ n s,Iv n s->wpAny (model prog w) A (pyNext it) (λ r s₁=>match r with
   | none=>R (.ok .next) s₁
   | some v=>wpAny (model prog w) A (letOwnedTupleGo target it v) (λ _ s₁'=>wpAny (model prog w) A (assign target env v) (λ _ s₂ =>
     wpAny (model prog w) A (forIn ifs true λ c r=>if r = true then do let ok <- isTrue c env (eval c env); pure (ForInStep.yield ok) else pure (ForInStep.yield r)) (λ ok s₃ =>
      if ok = true then wpAny (model prog w) A (eval elt env) (λ x s₄ =>
       wpAny (model prog w) A (call (.builtin "list.append") [acc,x]) (λ _ s₅=>∃ m,m < n/\Iv m s₅) (notedBy (model prog w) A env λ e s'=>R (.error e) s') s₄) (notedBy (model prog w) A env λ e s'=>R (.error e) s') s₃
      else ∃ m,m < n/\Iv m s₃) (notedBy (model prog w) A env λ e s'=>R (.error e) s') s₂) (notedBy (model prog w) A env λ e s'=>R (.error e) s') s₁') (notedBy (model prog w) A env λ e s'=>R (.error e) s') s₁) (notedBy (model prog w) A env λ e s'=>R (.error e) s') s)
  (n:Nat) (h:Iv n s) :
  codeAny (model prog w) A (.compLoop (.ListComp elt [⟨target,iter,ifs,0⟩] scope pos) 0 it acc env) R s:=by
 refine codeAny_loop rfl Iv (λ n s hI=>?_) n h
 show wpAny _ A ((compTurn (.ListComp elt [⟨target,iter,ifs,0⟩] scope pos) 0 it acc env).onRaise (λ x=>do noteFrame x env; theTreesLotGoes x)) _ _ s
 refine wpAny_noted ?_
 rw [compTurn_list]
 refine wpAny_bind (wpAny_standAt (wpAny_bind (wpAny_mono (turn n s hI) (λ r s₁ h₁=>?_) λ _ _ h'=>h')))
 cases r with
 | none=>exact wpAny_pure h₁
 | some v =>
  refine wpAny_bind (wpAny_mono h₁ (λ _ s₁' h₁'=>?_) λ _ _ h'=>h')
  refine wpAny_bind (wpAny_mono h₁' (λ _ s₂ h₂=>wpAny_bind (wpAny_mono h₂ (λ ok s₃ h₃=>?_) λ _ _ h'=>h')) λ _ _ h'=>h')
  cases ok with
  | false=>exact wpAny_pure ⟨rfl,h₃⟩
  | true =>
   exact wpAny_bind (wpAny_bind (wpAny_mono h₃ (λ x s₄ h₄=>wpAny_bind (wpAny_mono h₄ (λ _ s₅ h₅=>wpAny_pure (wpAny_pure ⟨rfl,h₅⟩)) λ _ _ h'=>h')) λ _ _ h'=>h'))
def PTs (X:Cx) (ifs:List Expr) (t:TT):Prop :=
 ∀ (pins:List (Addr × Obj)) (s:Shared) (σ:St) (H:Hp) (Q:Bool->Hp->Prop),Inv X pins σ H s->t σ H Q ->
  wpAny (model X.prog X.w) X.A (forIn ifs true λ c r=>if r = true then do let ok <- isTrue c X.env (eval c X.env); pure (ForInStep.yield ok) else pure (ForInStep.yield r)) (TP X pins σ Q) X.xe s
def c6Z:TT:=λ _ H Q=>Q true H
theorem a3V {X:Cx}:PTs X [] c6Z:=λ _ _ _ H _ I h=>wpAny_tests_nil ⟨H,I,h⟩
theorem a2P {X:Cx} {c:Expr} {t:TT} (h:PT X c t):PTs X [c] t:=λ pins s σ H Q I hw=>wpAny_tests_one (h pins s σ H Q I hw)
def a4H (ix:List (Option Nat)) (g:TG) (tt:TT) (te:TE) (σ:St) (H1:Hp) (Q:VK) (J:It):Prop:=∃ W:Nat->Nat->List V->Hp->Prop,(∃ m,W 0 m [] H1)/\∀ i m ys H,W i m ys H ->
 (J.stop i H/\ys.length <= sizeLine/\∀ p,H p = none->Q (.ref p) (upd H p (.lst ys))) \/
 (J.go i H/\ys.length <= sizeLine/\∃ N:List V->Hp->Prop,(∀ ys' H',N ys' H'->∃ m',m' < m/\W (i + 1) m' ys' H')/\∀ x H',J.yld i H x H'->g x (capt ix σ) H' λ σ2 H2=>tt σ2 H2 λ b H3=>if b = true then te σ2 H3 λ v H4=>N (ys ++ [v]) H4 else N ys H3)
def tLC (ix:List (Option Nat)) (wi:TI) (g:TG) (tt:TT) (te:TE):TE:=λ σ H Q=>wi σ H λ J H1=>a4H ix g tt te σ H1 Q J
section
variable {X:Cx} {elt tg iter:Expr} {ifs:List Expr} {scope:Scope} {pos:Pos} {N':List Str} {ix:List (Option Nat)} {wi:TI} {g:TG} {tt:TT} {te:TE}
theorem c0S (B:BlkOk X N' ix scope) (hc:X.calm = true)
  (hg:∀ C s H fp xe,PG (a3F X N' scope C s H fp xe) tg g) (ht:∀ C s H fp xe,PTs (a3F X N' scope C s H fp xe) ifs tt) (he:∀ C s H fp xe,PE (a3F X N' scope C s H fp xe) elt te)
  {pins:List (Addr × Obj)} {s2:Shared} {σ:St} {H2:Hp} {Q:VK} {it:Addr} {fp:List Addr} {tn:Nat->Heap->Prop} {J:It} {RR:Value->Addr->Result->Shared->Prop} {E:Value->Shared->Prop}
  (I2:Inv X pins σ H2 s2) (T:Turn X.prog X.w X.K tg J fp it tn) (st2:tn 0 s2.heap) (f2:∀ b ∈ fp,FpOk X pins H2 b)
  (q:∃ W:Nat->Nat->List V->Hp->Prop,(∃ m,W 0 m [] H2)/\∀ i m ys H,W i m ys H ->
   (J.stop i H/\ys.length <= sizeLine/\∀ p,H p = none->Q (.ref p) (upd H p (.lst ys))) \/
   (J.go i H/\ys.length <= sizeLine/\∃ N:List V->Hp->Prop,(∀ ys' H',N ys' H'->∃ m',m' < m/\W (i + 1) m' ys' H')/\∀ x H',J.yld i H x H'->g x (capt ix σ) H' λ σ2 H2=>tt σ2 H2 λ b H3=>if b = true then te σ2 H3 λ v H4=>N (ys ++ [v]) H4 else N ys H3))
  (hRR:∀ D C s' H' ys,Inv X pins σ (upd H' D (.lst ys)) s'->H' D = none->Q (.ref D) (upd H' D (.lst ys))->(∃ m,s'.heap.Ns C m)->upd H' D (.lst ys) C = none->C ≠ X.env.locals->X.s₀.heap.objs.size <= C->(∀ x c,X.env.cells.lookup x = some c->c ≠ C)->(∀ p ∈ X.pn ++ pins,p.1 ≠ C)->RR (.ref D) C (.ok .next) s') :
  wpAny (model X.prog X.w) X.A (newList []) (λ acc s₃=>wpAny (model X.prog X.w) X.A (newFunctionEnv scope X.env.globals (clOf X.env.cells scope.names []) [] X.env.qual none .none (some X.env)) (λ cenv s₄ =>
   codeAny (model X.prog X.w) X.A (.compStart (.ListComp elt [⟨tg,iter,ifs,0⟩] scope pos) 0 (.ref it) acc { cenv with scope:=relabel scope X.env }) (RR acc cenv.locals) s₄) E s₃) E s2:=by
 have hfs:∀ b ∈ fp,b < s2.heap.objs.size:=λ b hb=>by
  obtain ⟨o,e,_⟩:=T.obj _ _ st2 b hb
  exact Heap.lt_size e
 refine wpAny_newObj_type (wpAny_newFunctionEnv B.nocell (by intro y hy; simp at hy) (λ h₁ hns₁ hsb₁=>?_) B.kind)
 dsimp only at hns₁ hsb₁ ⊢
 generalize hH3:s2.heap.push { cls:=.type "list", dict:=none,data:=.seq ([]:List Value).toArray } = H3 at hns₁ hsb₁ ⊢
 have hC:H3.objs.size = s2.heap.objs.size + 1:=by rw [<- hH3,Heap.size_push]
 have hDC:s2.heap.objs.size ≠ H3.objs.size:=by rw [hC]; exact Nat.ne_of_lt (Nat.lt_succ_self _)
 have below:∀ b,b < s2.heap.objs.size->b ≠ H3.objs.size/\b ≠ s2.heap.objs.size:=λ b hb=>⟨by rw [hC]; exact Nat.ne_of_lt (Nat.lt_succ_of_lt hb),Nat.ne_of_lt hb⟩
 have old:∀ b o,s2.heap.get? b = some o->h₁.get? b = some o:=λ b o e=>hsb₁.extBut b o (below b (Heap.lt_size e)).1 (Heap.get?_push_of_some _ (hH3 ▸ Heap.get?_push_of_some _ e))
 have hacc:h₁.get? s2.heap.objs.size = some { cls:=.type "list", data:=.seq ([]:List Value).toArray 0 }:=hsb₁.extBut _ _ hDC (Heap.get?_push_of_some _ (hH3 ▸ Heap.get?_push_size _ rfl))
 have hCle:s2.heap.objs.size <= H3.objs.size:=by rw [hC]; exact Nat.le_succ _
 generalize hD:s2.heap.objs.size = D at *
 generalize hCC:H3.objs.size = C at *
 obtain ⟨W,⟨m0,w0⟩,turn⟩:=q
 let xe:Value->Shared->Prop:=notedBy (model X.prog X.w) X.A (compEnvC scope (clOf X.env.cells scope.names []) C X.env) λ e s'=>RR (.ref D) C (.error e) s'
 let X':Cx:=a3F X N' scope C s2 H2 fp xe
 have DL:D ∉ frs X.stack:=λ z=>by
  rcases List.mem_cons.mp (I2.stkSub D z) with e | e
  ·exact absurd I2.lt (by rw [<- e,hD]; exact Nat.lt_irrefl _)
  ·exact I2.nofs (by rw [hD]; exact Nat.le_refl _) e
 have cellLt:∀ x c,X.env.cells.lookup x = some c->c < D:=λ x c e=>by
  obtain ⟨v,oc,h,_⟩:=I2.cell x c e
  rw [<- hD]; exact Heap.lt_size h
 have clB:∀ x c,(clOf X.env.cells scope.names []).lookup x = some c->X.env.cells.lookup x = some c:=λ x c h=>a5U scope.names [] (λ _ _ z=>by simp at z) h
 have pinLt:∀ p ∈ X.pn ++ pins,p.1 < D:=λ p hp=>by rw [<- hD]; exact Heap.lt_size (I2.pin p hp).1
 have fpX:∀ {pl:List (Addr × Obj)} {H':Hp},(∀ b ∈ fp,H' b = none)->(∀ p ∈ pl,p ∈ pins\/p.1 = D)->∀ b ∈ fp,FpOk X' pl H' b:=λ {pl H'} hn hpl b hb=>by
  obtain ⟨_,q1,q2,q3,q4,q5⟩:=f2 b hb
  refine ⟨hn b hb,(below b (hfs b hb)).1,λ z=>?_,.inl hb,λ x c e=>q4 x c (clB x c e),λ p hp=>?_⟩
  ·rcases List.mem_cons.mp (I2.stkSub b z) with e | e
   ·exact q1 e
   ·exact q2 e
  ·rcases List.mem_append.mp hp with hp | hp
   ·exact q5 p (List.mem_append_left _ hp)
   ·rcases hpl p hp with z | z
    ·exact q5 p (List.mem_append_right _ z)
    ·rw [z]; exact Ne.symm (below b (hfs b hb)).2
 have loop:∀ s₃:Shared,s₃ = { s2 with heap:=h₁,toks:=s2.toks + ([]:List (Str × Value)).length } ->
   codeAny (model X.prog X.w) X.A (.compLoop (.ListComp elt [⟨tg,iter,ifs,0⟩] scope pos) 0 (.ref it) (.ref D) (compEnvC scope (clOf X.env.cells scope.names []) C X.env)) (RR (.ref D) C) s₃:=by
  rintro s₃ rfl
  refine b0Q (λ n s'=>∃ i H' ys its k,Inv X' pins (capt ix σ) H' s'/\tn i s'.heap/\(∀ b ∈ fp,H' b = none)/\H' D = none/\s'.heap.get? D = some { cls:=.type "list", data:=.seq (List.toArray its) k }/\Vals ys its/\W i n ys H') ?_ m0
   ⟨0,H2,[],[],0,b4U B I2 f2 (by rw [hD]; exact hCle) (λ b hb=>by rw [hD]; exact hfs b hb) rfl rfl old hns₁,T.keep _ _ _ st2 λ b _ o e=>old b o e,λ b hb=>(f2 b hb).1,I2.hok.fresh (by rw [hD]; exact Nat.le_refl _),hacc,.nil,w0⟩
  rintro n s' ⟨i,H',ys,its,k,I',st',fr',hDn,hDo,rv,w'⟩
  have hDX:∀ v,({ cls:=.type "list", data:=.seq (List.toArray its) k }:Obj).data ≠ .cell v:=λ v z=>by
   have z':Data.seq (List.toArray its) k = Data.cell v:=z
   cases z'
  have pinD:∀ {σ':St} {H'':Hp} {s'':Shared} {its':List Value} {k':Nat},Inv X' pins σ' H'' s''->H'' D = none->s''.heap.get? D = some { cls:=.type "list", data:=.seq (List.toArray its') k' }->Inv X' (pins ++ [(D,{ cls:=.type "list", data:=.seq (List.toArray its') k' })]) σ' H'' s'':=λ {σ' H'' s'' its' k'} J hn ho =>
   J.pins_of λ p hp=>(List.mem_append.mp hp).elim (λ z=>J.pin p (List.mem_append_right _ z)) λ z=>by
    have e:p = (D,{ cls:=.type "list", data:=.seq (List.toArray its') k' }):=by simpa using z
    subst e
    exact ⟨ho,hn,hDC,DL,λ v z=>by
     have z':Data.seq (List.toArray its') k' = Data.cell v:=z
     cases z'⟩
  have plD:∀ {its':List Value} {k':Nat},∀ p ∈ pins ++ [(D,({ cls:=.type "list", data:=.seq (List.toArray its') k' }:Obj))],p ∈ pins\/p.1 = D:=λ {its' k'} p hp=>(List.mem_append.mp hp).elim .inl λ z=>by
   have e:p = (D,{ cls:=.type "list", data:=.seq (List.toArray its') k' }):=by simpa using z
   subst e
   exact .inr rfl
  have unD:∀ {pl:List (Addr × Obj)} {σ':St} {H'':Hp} {s'':Shared},Inv X' (pins ++ pl) σ' H'' s''->Inv X' pins σ' H'' s'':=λ J=>J.pins_of λ p hp=>J.pin p (List.mem_append_right _ (List.mem_append_left _ hp))
  have I'p:=pinD I' hDn hDo
  rcases turn i n ys H' w' with ⟨stop,hsz,fin⟩ | ⟨go,hsz,N,hN,step⟩
  ·refine wpAny_mono (T.done X' rfl rfl rfl hc i _ s' (capt ix σ) H' X'.xe I'p (fpX fr' plD) st' stop) (λ r s5 ⟨hr,I5⟩=>?_) λ _ _ z=>z
   subst hr
   have hDo5:s5.heap.get? D = some { cls:=.type "list", data:=.seq (List.toArray its) k }:=(I5.pin (D,_) (List.mem_append_right _ (List.mem_append_right _ (List.mem_singleton.mpr rfl)))).1
   have sz0:X.s₀.heap.objs.size <= D:=by rw [<- hD]; exact I2.sz
   have J:Inv X pins σ H' s5:=I2.call' (ch:=fp) I5.os I5.base I5.hok I5.bare λ b hb=>by
    obtain ⟨_,q1,_,q3,q4,q5⟩:=f2 b hb
    exact ⟨q3,q1,q4,q5⟩
   have nL:X.env.locals < D:=by rw [<- hD]; exact I2.lt
   have J2:Inv X pins σ (upd H' D (.lst ys)) s5:=Inv.track J hDn sz0 (Nat.ne_of_gt nL) (λ x c e=>Nat.ne_of_lt (cellLt x c e)) (λ p hp=>Nat.ne_of_lt (pinLt p hp)) ⟨hsz,its,k,rv,hDo5⟩
   obtain ⟨mC,hnC,_⟩:=I5.loc
   have DltC:D < C:=Nat.lt_of_le_of_ne hCle hDC
   refine hRR D C s5 H' ys J2 hDn (fin D hDn) ⟨mC,hnC⟩ ?_ (Nat.ne_of_gt (Nat.lt_trans nL DltC)) (Nat.le_trans sz0 hCle) (λ x c e=>Nat.ne_of_lt (Nat.lt_trans (cellLt x c e) DltC)) λ p hp=>Nat.ne_of_lt (Nat.lt_trans (pinLt p hp) DltC)
   rw [a1I (Ne.symm hDC)]
   exact I5.free
  ·refine wpAny_mono (T.item X' rfl rfl rfl hc i _ s' (capt ix σ) H' X'.xe I'p (fpX fr' plD) st' go) (λ r s5 ⟨u,hr,h5⟩=>?_) λ _ _ z=>z
   subst hr
   refine wpAny_mono h5 (λ _ s6 ⟨x,H6,I6,r6,y6,st6,fr6⟩=>?_) λ _ _ z=>z
   have I6':=I6.pinned (fpX fr6 plD) (T.obj _ _ st6)
   refine wpAny_mono (hg C s2 H2 fp xe _ s6 (capt ix σ) H6 x u _ I6' r6 (step x H6 y6)) (λ _ s7 ⟨σ7,H7,I7,q7⟩=>?_) λ _ _ z=>z
   have after:∀ {σ8:St} {H8:Hp} {s8:Shared},Inv X' ((pins ++ [(D,{ cls:=.type "list", data:=.seq (List.toArray its) k })]) ++ a8W fp s6.heap) σ8 H8 s8 ->
     Inv X' pins (capt ix σ) H8 s8/\tn (i + 1) s8.heap/\(∀ b ∈ fp,H8 b = none)/\H8 D = none/\s8.heap.get? D = some { cls:=.type "list", data:=.seq (List.toArray its) k }:=λ {σ8 H8 s8} I8=>by
    have pD:=I8.pin (D,{ cls:=.type "list", data:=.seq (List.toArray its) k }) (List.mem_append_right _ (List.mem_append_left _ (List.mem_append_right _ (List.mem_singleton.mpr rfl))))
    have fpP:∀ b ∈ fp,∀ o,s6.heap.get? b = some o->s8.heap.get? b = some o/\H8 b = none:=λ b hb o e=>by
     have z:=I8.pin (b,o) (List.mem_append_right _ (List.mem_append_right _ (a4V hb e)))
     exact ⟨z.1,z.2.1⟩
    refine ⟨⟨I8.ok,I8.os,I8.bare,I8.base,?_,I8.cell,I8.free,I8.freeC,λ p hp=>?_,I8.hok,?_⟩,T.keep _ _ _ st6 λ b hb o e=>(fpP b hb o e).1,λ b hb=>?_,pD.2.1,pD.1⟩
    ·obtain ⟨m8,hn8,_⟩:=I8.loc
     refine ⟨m8,hn8,λ i x v h1 h2 h3=>?_⟩
     obtain ⟨u,c,r,hc1,hc2,⟨oc,z1,z2⟩,hk'⟩:=a9J B I2 h1 h2
     obtain ⟨sl,e8⟩:=I8.base.any z1 (I2.freeC x c hc2) λ z=>(f2 c z).2.2.2.2.1 x c hc2 rfl
     exact ⟨u,r,.inr ⟨hk',c,hc1,_,e8,z2⟩⟩
    ·rcases List.mem_append.mp hp with hp | hp
     ·exact I8.pin p (List.mem_append_left _ hp)
     ·exact I8.pin p (List.mem_append_right _ (List.mem_append_left _ (List.mem_append_left _ hp)))
    ·show (capt ix σ).length = N'.length
     unfold capt
     rw [List.length_map]; exact B.len
    ·obtain ⟨o,e,_⟩:=T.obj _ _ st6 b hb
     exact (fpP b hb o e).2
   refine wpAny_mono (ht C s2 H2 fp xe _ s7 σ7 H7 _ I7 q7) (λ b s8 ⟨H8,I8,q8⟩=>?_) λ _ _ z=>z
   cases b with
   | false =>
    rw [if_neg Bool.false_ne_true] at q8 ⊢
    obtain ⟨m',hm,w8⟩:=hN _ _ q8
    obtain ⟨J,tn8,f8,d8,o8⟩:=after I8
    exact ⟨m',hm,i + 1,H8,ys,its,k,J,tn8,f8,d8,o8,rv,w8⟩
   | true =>
    rw [if_pos rfl] at q8 ⊢
    refine wpAny_mono (he C s2 H2 fp xe _ s8 σ7 H8 _ I8 q8) (λ v s9 ⟨y,H9,I9,r9,q9⟩=>?_) λ _ _ z=>z
    obtain ⟨J,tn9,f9,d9,o9⟩:=after I9
    obtain ⟨m',hm,w9⟩:=hN _ _ q9
    refine append_at (hsz:=by rw [List.size_toArray,<- rv.length]; exact hsz) o9 λ h10 hs10 hD10=>?_
    refine ⟨m',hm,i + 1,H9,ys ++ [y],its ++ [v],k + 1,?_,T.keep _ _ _ tn9 λ b hb o e=>hs10.extBut b o (λ z=>?_) e,f9,d9,by rw [List.push_toArray] at hD10; exact hD10,rv.append (.cons r9 .nil),w9⟩
    ·refine J.turned (t':=s9.toks) (it:=D) (λ b o hb e=>hs10.extBut b o hb e) d9 hDC (.inr (by show s2.heap.objs.size <= D; rw [hD]; exact Nat.le_refl _)) (λ x c e=>Nat.ne_of_lt (cellLt x c (clB x c e))) λ p hp=>Nat.ne_of_lt (pinLt p hp)
    ·exact (below b (hfs b hb)).2 z
 exact codeAny_compStart_list (loop _ rfl) (T.self X.A 0 _ _ _ (T.keep _ _ _ st2 λ b _ o e=>old b o e) (loop _ rfl))
end
end L2
namespace L2
open PySem PySem.Spec PyProof.Rows
def a5V (outer:Scope) (N N':List Str) (ix:List (Option Nat)) (scope:Scope):Bool :=
 (scope.kind == .function) && (scope.names.all λ y=>y.2 != .cell) && (scope.names.all λ y=>y.2 != .local || scope.names.lookup y.1 == some .local) &&
 (scope.names.all λ y=>y.2 != .free || outer.names.lookup y.1 == some .cell || outer.names.lookup y.1 == some .free) && (ix.length == N'.length) &&
 (List.range ix.length).all λ i=>match ix[i]? with
  | some (some j)=>(match N'[i]? with | some x=>N[j]? == some x && scope.names.lookup x == some .free | none=>false)
  | _=>true
theorem c0T {X:Cx} {N':List Str} {ix:List (Option Nat)} {scope:Scope} (h:a5V X.env.scope X.N N' ix scope = true):BlkOk X N' ix scope:=by
 unfold a5V at h
 simp only [Bool.and_eq_true] at h
 obtain ⟨⟨⟨⟨⟨h1,h2⟩,h3⟩,h4⟩,h5⟩,h6⟩:=h
 refine ⟨?_,λ y hy=>?_,λ y hy hl=>?_,λ y hy hl=>?_,by simpa using h5,λ i j e=>?_⟩
 ·simpa using h1
 ·have:=List.all_eq_true.mp h2 y hy
  simpa using this
 ·have:=List.all_eq_true.mp h3 y hy
  rw [hl] at this
  simpa using this
 ·have:=List.all_eq_true.mp h4 y hy
  rw [hl] at this
  simp at this
  exact this
 ·have hi:i < ix.length:=(List.getElem?_eq_some_iff.mp e).1
  have:=List.all_eq_true.mp h6 i (List.mem_range.mpr hi)
  rw [e] at this
  simp only at this
  cases q:N'[i]? with
  | none=>rw [q] at this; simp at this
  | some x =>
   rw [q] at this
   simp at this
   exact ⟨x,rfl,this.1,this.2⟩
section
variable {X:Cx} {elt tg iter:Expr} {ifs:List Expr} {scope:Scope} {pos:Pos} {N':List Str} {ix:List (Option Nat)} {wi:TI} {g:TG} {tt:TT} {te:TE}
theorem a9K (N':List Str) (ix:List (Option Nat)) (hB:a5V X.env.scope X.N N' ix scope = true) (hc:X.calm = true) (hi:PI X tg iter wi)
  (hg:∀ C s H fp xe,PG (a3F X N' scope C s H fp xe) tg g) (ht:∀ C s H fp xe,PTs (a3F X N' scope C s H fp xe) ifs tt) (he:∀ C s H fp xe,PE (a3F X N' scope C s H fp xe) elt te)
  (hs:∀ x,foldedSetIterable iter X.env x = pure x:=by intro _; rfl):PE X (.ListComp elt [⟨tg,iter,ifs,0⟩] scope pos) (tLC ix wi g tt te):=by
 intro pins s σ H Q I h
 have B:=c0T hB
 rw [eval_ListComp]
 refine wpAny_comprehension_free (use:=none) rfl hs (a7G λ y hy hf=>I.ok.has y.1 (B.free y hy hf)) B.kind B.locs (thn (hi pins s σ H _ I h) λ v s1 h1=>thn h1 λ itv s2 h2=>?_)
 obtain ⟨it,fp,tn,J,H2,e,I2,T,st2,f2,q⟩:=h2
 subst e
 refine c0S B hc hg ht he I2 T st2 f2 q ?_
 intro D C s' H' ys J2 hDn hq ⟨m,hn⟩ hC1 hC2 hC3 hC4 hC5
 refine ⟨m,hn,λ h' hs'=>?_⟩
 exact ⟨.ref D,_,J2.turned (t':=s'.toks) (it:=C) (λ b o hb e=>hs'.extBut b o hb e) hC1 hC2 (.inr hC3) hC4 hC5,rfl,hq⟩
theorem a2E {i:Nat} {x:Str} {pos' spos:Pos} (N':List Str) (ix:List (Option Nat)) (hN:X.N.Nodup) (hi':X.N[i]? = some x) (hx:X.env.scope.names.lookup x = some .local)
  (hB:a5V X.env.scope X.N N' ix scope = true) (hc:X.calm = true) (hi:PI X tg iter wi)
  (hg:∀ C s H fp xe,PG (a3F X N' scope C s H fp xe) tg g) (ht:∀ C s H fp xe,PTs (a3F X N' scope C s H fp xe) ifs tt) (he:∀ C s H fp xe,PE (a3F X N' scope C s H fp xe) elt te)
  (hsw:swapsWith (.ListComp elt [⟨tg,iter,ifs,0⟩] scope pos) (some (.Name x pos')) spos.line X.env = pure true)
  (hs:∀ x,foldedSetIterable iter X.env x = pure x:=by intro _; rfl):PS X (.Assign [.Name x pos'] (.ListComp elt [⟨tg,iter,ifs,0⟩] scope pos) spos) (tAsg (tLC ix wi g tt te) (b8B i)):=by
 intro pins s σ H D0 I h
 have B:=c0T hB
 rw [exec_Assign_Name_used _ _ _ _ hsw]
 refine wpAny_bind (wpAny_standAt (wpAny_bind ?_))
 show wpAny _ X.A (do let _ <- comprehension (.ListComp elt [⟨tg,iter,ifs,0⟩] scope pos) scope X.env _ (newList []) false (eval iter X.env) (some (assign (.Name x pos') X.env))) _ _ s
 refine wpAny_bind (wpAny_mono (wpAny_comprehension_free (use:=some (assign (.Name x pos') X.env)) (Q:=λ _ s'=>SP X pins D0 .next s') rfl hs (a7G λ y hy hf=>I.ok.has y.1 (B.free y hy hf)) B.kind B.locs
  (thn (hi pins s σ H _ I h) λ v s1 h1=>thn h1 λ itv s2 h2=>?_)) (λ _ s' hq=>wpAny_pure (wpAny_pure hq)) λ _ _ e=>e)
 obtain ⟨it,fp,tn,J,H2,e,I2,T,st2,f2,q⟩:=h2
 subst e
 refine c0S (Q:=λ x H1=>b8B i x σ H1 D0.nx) B hc hg ht he I2 T st2 f2 q ?_
 intro D C s' H' ys J2 hDn hq ⟨m,hn⟩ hC1 hC2 hC3 hC4 hC5
 show wpAny _ X.A (assign (.Name x pos') X.env (.ref D)) _ _ _
 refine wpAny_assign_Name (a8S (v:=.ref D) J2 hN hi' (.inl hx) rfl (λ s'' I'' hsb=>?_) (.inr hx))
 obtain ⟨a,hsb,ha⟩:=hsb
 have aC:C ≠ a:=by
  rcases ha with rfl | ha
  ·exact hC2
  ·exact λ z=>hC4 x a ha z.symm
 refine ⟨m,hn.sameBut hsb aC,λ h'' hs''=>?_⟩
 exact ⟨_,_,I''.turned (t':=s''.toks) (it:=C) (λ b o hb e=>hs''.extBut b o hb e) hC1 hC2 (.inr hC3) hC4 hC5,hq⟩
end
section
variable {K:Φρ} {a:Addr} {xs:List V} {ix:List (Option Nat)} {g:TG} {tt:TT} {te:TE} {σ:St} {H1:Hp} {Q:VK}
theorem a7Z (Pv:Nat->List V->Hp->Prop) (h0:Pv 0 [] H1) (hl:∀ i ys H,i <= xs.length->Pv i ys H->SqL K H a xs/\ys.length <= sizeLine)
  (hs:∀ i x ys H,xs[i]? = some x->Pv i ys H->g x (capt ix σ) H λ σ2 H2=>tt σ2 H2 λ b H3=>if b = true then te σ2 H3 λ v H4=>Pv (i + 1) (ys ++ [v]) H4 else Pv (i + 1) ys H3)
  (hd:∀ ys H,Pv xs.length ys H->∀ p,H p = none->Q (.ref p) (upd H p (.lst ys))):a4H ix g tt te σ H1 Q (Itl K a):=by
 refine ⟨λ i m ys H=>m = xs.length - i/\i <= xs.length/\Pv i ys H,⟨xs.length,by simp,Nat.zero_le _,h0⟩,?_⟩
 rintro i m ys H ⟨rfl,hi,p⟩
 obtain ⟨q,z⟩:=hl i ys H hi p
 by_cases hlt:i < xs.length
 ·refine .inr ⟨⟨xs,xs[i],q,by simp [hlt]⟩,z,Pv (i + 1),λ ys' H' p'=>⟨xs.length - (i + 1),by omega,rfl,hlt,p'⟩,λ x H' y=>?_⟩
  obtain ⟨e,y⟩:=y
  subst e
  exact hs i x ys _ (y xs q) p
 ·have e:i = xs.length:=by omega
  subst e
  exact .inl ⟨⟨xs,q,Nat.le_refl _⟩,z,hd ys H p⟩
theorem a5W {lo:Int} {n:Nat} (Pv:Nat->List V->Hp->Prop) (h0:Pv 0 [] H1) (hl:∀ i ys H,i <= n->Pv i ys H->ys.length <= sizeLine)
  (hs:∀ i ys H,i < n->Pv i ys H->g (.int (lo + i)) (capt ix σ) H λ σ2 H2=>tt σ2 H2 λ b H3=>if b = true then te σ2 H3 λ v H4=>Pv (i + 1) (ys ++ [v]) H4 else Pv (i + 1) ys H3)
  (hd:∀ ys H,Pv n ys H->∀ p,H p = none->Q (.ref p) (upd H p (.lst ys))):a4H ix g tt te σ H1 Q (Itr lo n):=by
 refine ⟨λ i m ys H=>m = n - i/\i <= n/\Pv i ys H,⟨n,by simp,Nat.zero_le _,h0⟩,?_⟩
 rintro i m ys H ⟨rfl,hi,p⟩
 have z:=hl i ys H hi p
 by_cases hlt:i < n
 ·refine .inr ⟨hlt,z,Pv (i + 1),λ ys' H' p'=>⟨n - (i + 1),by omega,rfl,hlt,p'⟩,λ x H' y=>?_⟩
  obtain ⟨e,y⟩:=y
  subst e y
  exact hs i ys _ hlt p
 ·have e:i = n:=by omega
  subst e
  exact .inl ⟨Nat.le_refl _,z,hd ys H p⟩
end
theorem c7A {K:Φρ} {a:Addr} {xs:List V} {ix:List (Option Nat)} {g:TG} {tt:TT} {te:TE} {σ:St} {H1:Hp} {Q:VK} (f:V->Option V) (hx:SqL K H1 a xs) (hz:xs.length <= sizeLine)
  (hs:∀ x H (N:Option V->Hp->Prop),x ∈ xs->Same H1 H->(∀ H',Same H1 H'->N (f x) H')->g x (capt ix σ) H λ σ2 H2=>tt σ2 H2 λ b H3=>if b = true then te σ2 H3 λ v H4=>N (some v) H4 else N none H3)
  (hd:∀ H p,Same H1 H->H p = none->Q (.ref p) (upd H p (.lst (xs.filterMap f)))):a4H ix g tt te σ H1 Q (Itl K a):=by
 refine a7Z (K:=K) (a:=a) (xs:=xs) (λ i ys H=>ys = (xs.take i).filterMap f/\Same H1 H) ⟨rfl,Same.refl _⟩ (λ i ys H hi ⟨e,s⟩=>⟨s.seq hx,?_⟩) (λ i x ys H hi ⟨e,s⟩=>?_) λ ys H ⟨e,s⟩ p hp=>?_
 ·subst e
  refine Nat.le_trans (List.length_filterMap_le _ _) (Nat.le_trans ?_ hz)
  rw [List.length_take]; exact Nat.min_le_right _ _
 ·have hm:x ∈ xs:=List.mem_of_getElem? hi
  obtain ⟨hil,hix⟩:=List.getElem?_eq_some_iff.mp hi
  have et:xs.take (i + 1) = xs.take i ++ [x]:=by rw [List.take_succ_eq_append_getElem hil,hix]
  refine hs x H (λ o H'=>match o with | some v=>(ys ++ [v] = (xs.take (i + 1)).filterMap f/\Same H1 H') | none=>(ys = (xs.take (i + 1)).filterMap f/\Same H1 H')) hm s λ H' s'=>?_
  cases ef:f x with
  | some v =>
   refine ⟨?_,s'⟩
   rw [e,et,List.filterMap_append]
   simp [ef]
  | none =>
   refine ⟨?_,s'⟩
   rw [e,et,List.filterMap_append]
   simp [ef]
 ·subst e
  rw [List.take_length]
  exact hd H p s hp
theorem c0U {lo:Int} {n:Nat} {ix:List (Option Nat)} {g:TG} {tt:TT} {te:TE} {σ:St} {H1:Hp} {Q:VK} (f:Nat->Option V) (hz:n <= sizeLine)
  (hs:∀ i H (N:Option V->Hp->Prop),i < n->Same H1 H->(∀ H',Same H1 H'->N (f i) H')->g (.int (lo + i)) (capt ix σ) H λ σ2 H2=>tt σ2 H2 λ b H3=>if b = true then te σ2 H3 λ v H4=>N (some v) H4 else N none H3)
  (hd:∀ H p,Same H1 H->H p = none->Q (.ref p) (upd H p (.lst ((List.range n).filterMap f)))):a4H ix g tt te σ H1 Q (Itr lo n):=by
 refine a5W (λ i ys H=>ys = (List.range i).filterMap f/\Same H1 H) ⟨rfl,Same.refl _⟩ (λ i ys H hi ⟨e,s⟩=>?_) (λ i ys H hi ⟨e,s⟩=>?_) λ ys H ⟨e,s⟩ p hp=>?_
 ·subst e
  refine Nat.le_trans (List.length_filterMap_le _ _) (Nat.le_trans ?_ hz)
  rw [List.length_range]; exact hi
 ·refine hs i H (λ o H'=>match o with | some v=>(ys ++ [v] = (List.range (i + 1)).filterMap f/\Same H1 H') | none=>(ys = (List.range (i + 1)).filterMap f/\Same H1 H')) hi s λ H' s'=>?_
  cases ef:f i with
  | some v =>
   refine ⟨?_,s'⟩
   rw [e,List.range_succ,List.filterMap_append]
   simp [ef]
  | none =>
   refine ⟨?_,s'⟩
   rw [e,List.range_succ,List.filterMap_append]
   simp [ef]
 ·subst e
  exact hd H p s hp
end L2
namespace L2
open PySem PySem.Spec PyProof.Rows
mutual
inductive IsD (K:Φρ) (H:Hp):V->PyData->Prop
 | non:IsD K H .non .none
 | bl (b:Bool):IsD K H (.bl b) (.bool b)
 | int (i:Int):IsD K H (.int i) (.int i)
 | str (x:Str):IsD K H (.str x) (.str x)
 | lst {a:Addr} {xs:List V} {ds:List PyData}:SqL K H a xs->IsDs K H xs ds->IsD K H (.ref a) (.list ds)
 | tup {a:Addr} {xs:List V} {ds:List PyData}:SqT K H a xs->IsDs K H xs ds->IsD K H (.ref a) (.tuple ds)
inductive IsDs (K:Φρ) (H:Hp):List V->List PyData->Prop
 | nil:IsDs K H [] []
 | cons {x:V} {xs:List V} {d:PyData} {ds:List PyData}:IsD K H x d->IsDs K H xs ds->IsDs K H (x :: xs) (d :: ds)
end
theorem Same.tupq {K:Φρ} {H H':Hp} {a:Addr} {xs:List V} (e:Same H H') (h:SqT K H a xs):SqT K H' a xs:=by
 rcases h with (h | ⟨o,h⟩) | h
 ·exact .inl (.inl (e _ _ h))
 ·exact .inl (.inr ⟨o,e _ _ h⟩)
 ·exact .inr h
mutual
theorem IsD.reads {X:Cx} {pins:List (Addr × Obj)} {σ:St} {H:Hp} {s:Shared} (I:Inv X pins σ H s):∀ {v:V} {d:PyData} {u:Value},IsD X.K H v d->RelV v u->∃ as,Reads s.heap u d as
 | _,_,_,.non,r=>by cases r; exact ⟨_,.none⟩
 | _,_,_,.bl b,r=>by cases r; exact ⟨_,.bool b⟩
 | _,_,_,.int i,r=>by obtain ⟨t,rfl⟩:=r; exact ⟨_,.int i t⟩
 | _,_,_,.str x,r=>by obtain ⟨t,rfl⟩:=r; exact ⟨_,.str x t⟩
 | _,_,_,.lst h q,r=>by
  cases r
  obtain ⟨its,rv,⟨o,n,e,c,_,d⟩,_⟩:=I.list h
  obtain ⟨as,ra⟩:=IsDs.reads I q rv
  exact ⟨_,.list e c d (by simpa using ra)⟩
 | _,_,_,.tup h q,r=>by
  cases r
  obtain ⟨its,rv,⟨o,e,c,n,d⟩,_⟩:=I.tuple h
  obtain ⟨as,ra⟩:=IsDs.reads I q rv
  exact ⟨_,.tuple e c d (by simpa using ra)⟩
theorem IsDs.reads {X:Cx} {pins:List (Addr × Obj)} {σ:St} {H:Hp} {s:Shared} (I:Inv X pins σ H s):∀ {xs:List V} {ds:List PyData} {us:List Value},IsDs X.K H xs ds->Vals xs us->∃ as,ReadsAll s.heap us ds as
 | _,_,_,.nil,.nil=>⟨_,.nil⟩
 | _,_,_,.cons h q,.cons r t=>by
  obtain ⟨as,ra⟩:=IsD.reads I h r
  obtain ⟨bs,rb⟩:=IsDs.reads I q t
  exact ⟨_,.cons ra rb⟩
end
theorem IsDs.ints {K:Φρ} {H:Hp}:∀ ns:List Int,IsDs K H (ns.map V.int) (ns.map PyData.int)
 | []=>.nil
 | n :: ns=>.cons (.int n) (IsDs.ints ns)
section
variable {X:Cx}
def rEqD (K:Φρ) (neg:Bool):R2:=λ x y H Q=>∃ d d',IsD K H x d/\IsD K H y d'/\SeqAt.shaped d = true/\SeqAt.shaped d' = true/\Q (.bl (if neg then !PyData.eqv d d' else PyData.eqv d d')) H
theorem c4Z (hu:X.A.units + 64 < cLine):OpR X (compareOp .Eq) (rEqD X.K false):=by
 intro pins s σ H x y v u Q I rx ry h
 obtain ⟨d,d',h1,h2,s1,s2,q⟩:=h
 obtain ⟨as,ra⟩:=h1.reads I rx
 obtain ⟨bs,rb⟩:=h2.reads I ry
 exact eq_dataH ra rb s1 s2 hu ⟨.bl _,H,I,rfl,q⟩
theorem c5A (hu:X.A.units + 64 < cLine):OpR X (compareOp .NotEq) (rEqD X.K true):=by
 intro pins s σ H x y v u Q I rx ry h
 obtain ⟨d,d',h1,h2,s1,s2,q⟩:=h
 obtain ⟨as,ra⟩:=h1.reads I rx
 obtain ⟨bs,rb⟩:=h2.reads I ry
 exact ne_dataH ra rb s1 s2 hu ⟨.bl _,H,I,rfl,q⟩
def rInD (K:Φρ) (neg:Bool):R2:=λ x y H Q=>∃ d ds,IsD K H x d/\IsD K H y (.list ds)/\SeqAt.shaped d = true/\SeqAt.shaped (.list ds) = true/\Q (.bl (if neg then !ds.any (λ e=>PyData.eqv e d) else ds.any (λ e=>PyData.eqv e d))) H
theorem c5B (hu:X.A.units + 65 < cLine):OpR X (compareOp .In) (rInD X.K false):=by
 intro pins s σ H x y v u Q I rx ry h
 obtain ⟨d,ds,h1,h2,s1,s2,q⟩:=h
 obtain ⟨as,ra⟩:=h1.reads I rx
 obtain ⟨bs,rb⟩:=h2.reads I ry
 exact SeqAt.in_list_reads rb ra (SeqAt.canLay_of_shaped s2) (SeqAt.canLay_of_shaped s1) (room_in_shaped s1 hu) ⟨.bl _,H,I,rfl,q⟩
theorem b4V (hu:X.A.units + 65 < cLine):OpR X (compareOp .NotIn) (rInD X.K true):=by
 intro pins s σ H x y v u Q I rx ry h
 obtain ⟨d,ds,h1,h2,s1,s2,q⟩:=h
 obtain ⟨as,ra⟩:=h1.reads I rx
 obtain ⟨bs,rb⟩:=h2.reads I ry
 exact SeqAt.notIn_list_reads rb ra (SeqAt.canLay_of_shaped s2) (SeqAt.canLay_of_shaped s1) (room_in_shaped s1 hu) ⟨.bl _,H,I,rfl,q⟩
def clsV:V->Option Value
 | .ty n=>some (.type n)
 | .ref a=>some (.ref a)
 | _=>none
theorem b8K {c:V} {cv u:Value} (h:clsV c = some cv) (r:RelV c u):u = cv:=by
 cases c with
 | ty n=>cases h; exact r
 | ref a=>cases h; exact r
 | _=>cases h
theorem b0R:CallR X (.builtin "isinstance") (λ xs H Q=>∃ x c cv t b,xs = [x,c]/\clsV c = some cv/\TyOf X.K H x t/\PySem.W.kitOne X.K t cv = some b/\Q (.bl b) H):=by
 intro pins s σ H xs us Q I r h
 obtain ⟨x,c,cv,t,b,rfl,hc,ty,hk,q⟩:=h
 obtain ⟨u1,u2,rfl,r1,r2⟩:=c1O r
 obtain rfl:=b8K hc r2
 exact b4N I r1 ty hk λ tk=>⟨.bl b,H,I.tok tk,rfl,q⟩
end
end L2
namespace L2
open PySem PySem.Spec PyProof.Rows
structure Dn (K:Φρ) (mg:Str->Option Value) (x:Str) (st:Stmt) (ps:List Str) where
 f:Addr
 fd:FuncData
 F:Fun K x x st f fd
 b:Binds K fd ps []
 m:mg x = some (.ref f)
 bd:∀ (s:Shared) (us:List Value),us.length = ps.length->BindsTo s fd ⟨us,[]⟩ (ps.zip us)
structure Bl (mg:Str->Option Value):Prop where
 get:∀ x:Str,x ∈ (["len", "range", "list", "isinstance", "int", "bool", "str", "all", "any", "sorted", "set", "min", "max", "tuple", "enumerate", "dict", "ValueError"]:List Str)->mg x = none
theorem Bl.len {mg:Str->Option Value} (B:Bl mg):mg "len" = none:=B.get _ (by decide +kernel)
theorem Bl.range {mg:Str->Option Value} (B:Bl mg):mg "range" = none:=B.get _ (by decide +kernel)
theorem Bl.list {mg:Str->Option Value} (B:Bl mg):mg "list" = none:=B.get _ (by decide +kernel)
theorem Bl.isinstance {mg:Str->Option Value} (B:Bl mg):mg "isinstance" = none:=B.get _ (by decide +kernel)
theorem Bl.int {mg:Str->Option Value} (B:Bl mg):mg "int" = none:=B.get _ (by decide +kernel)
theorem Bl.bool {mg:Str->Option Value} (B:Bl mg):mg "bool" = none:=B.get _ (by decide +kernel)
theorem Bl.sorted {mg:Str->Option Value} (B:Bl mg):mg "sorted" = none:=B.get _ (by decide +kernel)
theorem Bl.set {mg:Str->Option Value} (B:Bl mg):mg "set" = none:=B.get _ (by decide +kernel)
theorem Bl.min {mg:Str->Option Value} (B:Bl mg):mg "min" = none:=B.get _ (by decide +kernel)
theorem Bl.max {mg:Str->Option Value} (B:Bl mg):mg "max" = none:=B.get _ (by decide +kernel)
theorem Bl.enumerate {mg:Str->Option Value} (B:Bl mg):mg "enumerate" = none:=B.get _ (by decide +kernel)
theorem b0S {K:Φρ}:PySem.W.kitOne K (.type "int") (.type "int") = some true:=by rfl
theorem a9L {K:Φρ}:PySem.W.kitOne K (.type "int") (.type "bool") = some false:=by rfl
theorem b0T {K:Φρ}:PySem.W.kitOne K (.type "NoneType") (.type "int") = some false:=by rfl
theorem a9M {K:Φρ}:PySem.W.kitOne K (.type "NoneType") (.type "bool") = some false:=by rfl
end L2
namespace L2
open PySem PySem.Spec PyProof.Rows
section
variable {X:Cx} {K:Φρ}
theorem a0I (e:X.K = K):IxR X (rIxL K):=by subst e; exact c1S
theorem a1K (e:X.K = K):IxR X (rIxT K):=by subst e; exact c4W
theorem c1Y (e:X.K = K) (hu:X.A.units + 64 < cLine):OpR X (compareOp .Eq) (rEqD K false):=by subst e; exact c4Z hu
theorem c1Z (e:X.K = K) (hu:X.A.units + 64 < cLine):OpR X (compareOp .NotEq) (rEqD K true):=by subst e; exact c5A hu
theorem b0U (e:X.K = K) (hu:X.A.units + 65 < cLine):OpR X (compareOp .In) (rInD K false):=by subst e; exact c5B hu
theorem a3R (e:X.K = K) (hu:X.A.units + 65 < cLine):OpR X (compareOp .NotIn) (rInD K true):=by subst e; exact b4V hu
def rLen (K:Φρ):List V->Hp->VK->Prop:=λ xs H Q=>∃ p ys,xs = [.ref p]/\(SqL K H p ys\/SqT K H p ys)/\Q (.int ys.length) H
theorem a1E (e:X.K = K):CallR X (.builtin "len") (rLen K):=by subst e; exact a9E
def c2A (K:Φρ):List V->Hp->VK->Prop:=λ xs H Q=>∃ p ys,xs = [.ref p]/\(SqL K H p ys\/SqT K H p ys)/\∀ l,H l = none->Q (.ref l) (upd H l (.lst ys))
theorem b3I (e:X.K = K):CallR X (.type "list") (c2A K):=by subst e; exact a9F
def c7B (K:Φρ):List V->Hp->VK->Prop:=λ xs H Q=>∃ x c cv t b,xs = [x,c]/\clsV c = some cv/\TyOf K H x t/\PySem.W.kitOne K t cv = some b/\Q (.bl b) H
theorem a2C (e:X.K = K):CallR X (.builtin "isinstance") (c7B K):=by subst e; exact b0R
theorem a1G {tg l:Expr} {tl:TE} (e:X.K = K) (hl:PE X l tl):PI X tg l (c4R K tl):=by subst e; exact c1L hl
def tTru (K:Φρ) (ta:TE):TT:=λ σ H Q=>ta σ H λ x H'=>∃ k,TruV K x H' k/\Q k H'
theorem a0P {a:Expr} {ta:TE} (e:X.K = K) (ha:PE X a ta) (he:∀ whole,isTrue a X.env whole = (do let v <- whole; standAt a.pos; holding [v] (truthy v))):PT X a (tTru K ta):=by subst e; exact b8G ha he
theorem a2X {es:List Expr} {k:Nat} {t:TGs} {n:Nat} {pos:Pos} (e:X.K = K) (hc:X.calm = true) (h:PGs X es t)
  (hn:(assignEach es X.env).length = n:=by rfl) (hst:(assignEach es X.env).findIdx? (·.1) = none:=by rfl):PG X (.Tuple es k pos) (gTup K n t):=by subst e; exact c4O hc h hn hst
theorem b4W {o:Expr} {to:TE} {name:Str} {apos cpos:Pos} {T id:String} {r:V->List V->Hp->VK->Prop} (e:X.K = K) (pa:PlainAttrs T) (slot:Slot T name id) (hty:typeOf (.builtin id) = pure (.type "method_descriptor")) (hm:MtR X id r) (ho:PE X o to)
  (hbase:attributeBase o name X.env (eval o X.env) = eval o X.env:=by rfl) (hline:(apos.endLine == cpos.line) = true:=by rfl):PE X (.Call (.Attribute o name apos) [] [] cpos) (tBM0 K T r to):=by subst e; exact c4X pa slot hty hm ho hbase hline
theorem a4I {o e:Expr} {es:List Expr} {to:TE} {t:TA} {name:Str} {apos cpos:Pos} {T id:String} {r:V->List V->Hp->VK->Prop} (e0:X.K = K) (pa:PlainAttrs T) (slot:Slot T name id) (hty:typeOf (.builtin id) = pure (.type "method_descriptor")) (hm:MtR X id r) (ho:PE X o to) (ha:PA X (e :: es) t)
  (hbase:attributeBase o name X.env (eval o X.env) = eval o X.env:=by rfl)
  (hfew:((backTo cpos (starEach (e :: es) X.env)).all (λ x=>!x.1) && (backToKw cpos (keywordEach [] X.env)).all (λ x=>x.1.isSome)
   && decide ((e :: es).length + ([]:List Keyword).length + (if ([]:List Keyword).isEmpty then 0 else 1) < 30)) = true:=by rfl)
  (hline:(apos.endLine == cpos.line) = true:=by rfl) (hs:starEach (e :: es) X.env = (false,eval e X.env) :: starEach es X.env:=by rfl) (hplain:(backTo cpos (starEach es X.env)).any (·.1) = false:=by rfl) :
  PE X (.Call (.Attribute o name apos) (e :: es) [] cpos) (tBM K T r to t):=by subst e0; exact c6Y pa slot hty hm ho ha hbase hfew hline hs hplain
def c2B:V->List V->Hp->VK->Prop:=λ x vs H Q=>∃ l xs i y,x = .ref l/\vs = [.int i,y]/\H l = some (.lst xs)/\xs.length < 1000/\0 <= i/\i <= (xs.length:Int)/\Q .non (upd H l (.lst (xs.take i.toNat ++ y :: xs.drop i.toNat)))
theorem mt_insert:MtM X "list.insert" c2B:=by
 intro pins s σ H x vs v us Q I rx rv h
 obtain ⟨l,xs,i,y,rfl,rfl,hH,hz,h0,h1,q⟩:=h
 cases rx
 obtain ⟨u1,u2,rfl,ru1,ru2⟩:=rv.two
 obtain ⟨t,rfl⟩:=ru1
 obtain ⟨z,its,n,r,hl,e⟩:=I.lstM hH
 have hlen:=r.length
 have hs:sizeLine = 16777216:=sizeLine_eq
 have hfit:¬(!Builtin.List.listFitsIndex i) = true:=by
  unfold Builtin.List.listFitsIndex
  simp
  omega
 refine call_meets F.slot_list_insert ⟨_,e,rfl⟩ F.entry_list_insert (F.args_list_insert_3 _ _ _) (AutoSeq1.list_insert_list_int_val_1 l its.toArray n i t u2 hfit (by rw [List.size_toArray]; omega)) ⟨e,?_⟩
 refine ⟨.non,_,I.lset (its':=its.take i.toNat ++ u2 :: its.drop i.toNat) hH e ?_ ((r.take i.toNat).append (.cons ru2 (r.drop i.toNat))) ?_,rfl,q⟩
 ·have hk:min i.toNat its.length = i.toNat:=by omega
  simp [show ¬ i < 0 by omega,hk]
  exact List.take_of_length_le (by simp)
 ·rw [List.length_append,List.length_cons,List.length_take,List.length_drop]
  omega
end
end L2
namespace L2
open PySem PySem.Spec PyProof.Rows
def tCut (t u:TS):TS:=λ D σ H=>∃ J:St->Hp->Prop,t { D with nx:=J } σ H/\∀ σ' H',J σ' H'->u D σ' H'
theorem c2C {X:Cx} {st:Stmt} {rest:List Stmt} {t u:TS} (h1:PS X st t) (h2:PSs X rest u):PSs X (st :: rest) (tCut t u):=by
 intro pins s σ H D I h
 obtain ⟨J,q1,q2⟩:=h
 refine wpAny_execs_cons (thn (h1 pins s σ H { D with nx:=J } I q1) λ f s1 q=>?_)
 cases f with
 | next =>
  obtain ⟨σ',H',I',q⟩:=q
  exact h2 pins s1 σ' H' D I' (q2 σ' H' q)
 | ret v=>exact q
 | brk=>exact q
 | cont=>exact q
end L2
namespace L2
open PySem PySem.Spec PyProof.Rows
structure New (H:Hp) (p:Addr) (o:HO) (H':Hp):Prop where
 fresh:H p = none
 here:H' p = some o
 rest:∀ b,b ≠ p->H' b = H b
theorem New.mk0 {H:Hp} {p:Addr} {o:HO} (h:H p = none):New H p o (upd H p o):=⟨h,a4A,λ _ hb=>a1I hb⟩
theorem New.same {H H':Hp} {p:Addr} {o:HO} (n:New H p o H'):Same H H':=λ b u e=>(n.rest b (a0Z e n.fresh)).trans e
theorem New.ne {H H':Hp} {p b:Addr} {o u:HO} (n:New H p o H') (h:H b = some u):b ≠ p:=a0Z h n.fresh
structure Chg (H:Hp) (l:Addr) (o:HO) (H':Hp):Prop where
 here:H' l = some o
 rest:∀ b,b ≠ l->H' b = H b
theorem Chg.mk0 {H:Hp} {l:Addr} {o:HO}:Chg H l o (upd H l o):=⟨a4A,λ _ hb=>a1I hb⟩
section
variable {X:Cx} {K:Φρ} {es:List Expr} {t:TA} {pos:Pos}
def c7C (t:TA):TE:=λ σ H Q=>t σ H λ xs H1=>xs.length <= 1000/\∀ p H',New H1 p (.tup xs) H'->Q (.ref p) H'
def c7D (t:TA):TE:=λ σ H Q=>t σ H λ xs H1=>xs.length <= 1000/\∀ p H',New H1 p (.lst xs) H'->Q (.ref p) H'
theorem a2A {x1} (h:PA X es t):PE X (.Tuple es x1 pos) (c7C t):=by
 intro pins s σ H Q I hq
 refine wpAny_Tuple_spliced (thn (h pos pins s σ H _ I hq) λ us s1 ⟨xs,H1,I1,r,z,q⟩=>?_)
 have z':xs.length <= sizeLine:=Nat.le_of_lt (a0W z)
 refine ⟨by rw [<- r.length]; exact z',?_⟩
 have hf:H1 s1.heap.objs.size = none:=I1.hok.fresh (Nat.le_refl _)
 refine ⟨.ref s1.heap.objs.size,upd H1 s1.heap.objs.size (.tup xs),I1.laid (t':=s1.toks) (λ b u e=>Heap.get?_push_of_some _ e) (Nat.le_refl _) ?_,rfl,q _ _ (New.mk0 hf)⟩
 exact ⟨z',us,r,⟨_,Heap.get?_push_size _ rfl,rfl,_,rfl⟩⟩
theorem a1M (h:PA X es t):PE X (.List es pos) (c7D t):=by
 intro pins s σ H Q I hq
 refine wpAny_List_spliced (thn (h pos pins s σ H _ I hq) λ us s1 ⟨xs,H1,I1,r,z,q⟩=>?_)
 have z':xs.length <= sizeLine:=Nat.le_of_lt (a0W z)
 refine ⟨by rw [<- r.length]; exact z',?_⟩
 have hf:H1 s1.heap.objs.size = none:=I1.hok.fresh (Nat.le_refl _)
 refine ⟨.ref s1.heap.objs.size,upd H1 s1.heap.objs.size (.lst xs),I1.laid (t':=s1.toks) (λ b u e=>Heap.get?_push_of_some _ e) (Nat.le_refl _) ?_,rfl,q _ _ (New.mk0 hf)⟩
 exact ⟨z',us,0,r,Heap.get?_push_size _ rfl⟩
theorem OpR.weak {f:Value->Value->Sem Value} {r r':R2} (h:OpR X f r) (m:∀ x y H Q,r' x y H Q->r x y H Q):OpR X f r':=λ pins s σ H x y v u Q I rx ry q=>h pins s σ H x y v u Q I rx ry (m x y H Q q)
theorem CallR.weak {f:Value} {r r':List V->Hp->VK->Prop} (h:CallR X f r) (m:∀ xs H Q,r' xs H Q->r xs H Q):CallR X f r':=λ pins s σ H xs us Q I rs q=>h pins s σ H xs us Q I rs (m xs H Q q)
def c7E:R2:=λ x y H Q=>∃ l b xs zs,x = .ref l/\y = .ref b/\H l = some (.lst xs)/\H b = some (.lst zs)/\xs.length + zs.length <= 1000/\∀ p H',New H p (.lst (xs ++ zs)) H'->Q (.ref p) H'
theorem b4X:OpR X (binaryOp .Add) c7E:=op_cat.weak λ x y H Q ⟨l,b,xs,zs,e1,e2,h1,h2,z,q⟩=>⟨l,b,xs,zs,e1,e2,h1,h2,Nat.le_of_lt (a0W z),λ p hp=>q p _ (New.mk0 hp)⟩
def rSlN (K:Φρ):V->Option Int->Option Int->Hp->VK->Prop:=λ x lo hi H Q=>∃ a xs,x = .ref a/\SqL K H a xs/\∀ p H',New H p (.lst (cutV xs lo hi)) H'->Q (.ref p) H'
theorem a4J (e:X.K = K):SlR X (rSlN K):=by
 subst e
 exact λ pins s σ H x v vl vu lo hi sl Q I rx hs pl pu ⟨a,xs,e,h,q⟩=>c1T pins s σ H x v vl vu lo hi sl Q I rx hs pl pu ⟨a,xs,e,h,λ p hp=>q p _ (New.mk0 hp)⟩
def c5C (K:Φρ):List V->Hp->VK->Prop:=λ xs H Q=>∃ p ys,xs = [.ref p]/\(SqL K H p ys\/SqT K H p ys)/\∀ l H',New H l (.lst ys) H'->Q (.ref l) H'
theorem b3J (e:X.K = K):CallR X (.type "list") (c5C K):=(b3I e).weak λ xs H Q ⟨p,ys,e,h,q⟩=>⟨p,ys,e,h,λ l hl=>q l _ (New.mk0 hl)⟩
theorem MtM.weak {id:String} {r r':V->List V->Hp->VK->Prop} (h:MtM X id r) (m:∀ x xs H Q,r' x xs H Q->r x xs H Q):MtM X id r':=λ pins s σ H x xs v us Q I rx rs q=>h pins s σ H x xs v us Q I rx rs (m x xs H Q q)
def c7F:V->List V->Hp->VK->Prop:=λ x vs H Q=>∃ l xs y,x = .ref l/\vs = [y]/\H l = some (.lst xs)/\xs.length < 1000/\∀ H',Chg H l (.lst (xs ++ [y])) H'->Q .non H'
theorem a3S:MtM X "list.append" c7F:=mt_append.weak λ x vs H Q ⟨l,xs,y,e1,e2,h,z,q⟩=>⟨l,xs,y,e1,e2,h,a0W (Nat.le_of_lt z),q _ Chg.mk0⟩
def c7G:V->List V->Hp->VK->Prop:=λ x vs H Q=>∃ l xs i y,x = .ref l/\vs = [.int i,y]/\H l = some (.lst xs)/\xs.length < 1000/\0 <= i/\i <= (xs.length:Int)/\∀ H',Chg H l (.lst (xs.take i.toNat ++ y :: xs.drop i.toNat)) H'->Q .non H'
theorem b3K:MtM X "list.insert" c7G:=mt_insert.weak λ x vs H Q ⟨l,xs,i,y,e1,e2,h,z,h0,h1,q⟩=>⟨l,xs,i,y,e1,e2,h,z,h0,h1,q _ Chg.mk0⟩
def c7H:V->List V->Hp->VK->Prop:=λ x vs H Q=>∃ l b xs zs,x = .ref l/\vs = [.ref b]/\H l = some (.lst xs)/\H b = some (.lst zs)/\xs.length + zs.length <= 1000/\∀ H',Chg H l (.lst (xs ++ zs)) H'->Q .non H'
theorem b3L:MtM X "list.extend" c7H:=mt_extend.weak λ x vs H Q ⟨l,b,xs,zs,e1,e2,h,h',z,q⟩=>⟨l,b,xs,zs,e1,e2,h,h',Nat.le_of_lt (a0W z),q _ Chg.mk0⟩
end
theorem b2B {K:Φρ} {a:Addr} {xs:List V} {ix:List (Option Nat)} {g:TG} {tt:TT} {te:TE} {σ:St} {H1:Hp} {Q:VK} (f:V->Option V) (hx:SqL K H1 a xs) (hz:xs.length <= 1000)
  (hs:∀ x H (N:Option V->Hp->Prop),x ∈ xs->Same H1 H->(∀ H',Same H1 H'->N (f x) H')->g x (capt ix σ) H λ σ2 H2=>tt σ2 H2 λ b H3=>if b = true then te σ2 H3 λ v H4=>N (some v) H4 else N none H3)
  (hd:∀ H p H',Same H1 H->New H p (.lst (xs.filterMap f)) H'->Q (.ref p) H'):a4H ix g tt te σ H1 Q (Itl K a) :=
 c7A f hx (Nat.le_of_lt (a0W hz)) hs λ H p s hp=>hd H p _ s (New.mk0 hp)
theorem b0V {lo:Int} {n:Nat} {ix:List (Option Nat)} {g:TG} {tt:TT} {te:TE} {σ:St} {H1:Hp} {Q:VK} (f:Nat->Option V) (hz:n <= 1000)
  (hs:∀ i H (N:Option V->Hp->Prop),i < n->Same H1 H->(∀ H',Same H1 H'->N (f i) H')->g (.int (lo + i)) (capt ix σ) H λ σ2 H2=>tt σ2 H2 λ b H3=>if b = true then te σ2 H3 λ v H4=>N (some v) H4 else N none H3)
  (hd:∀ H p H',Same H1 H->New H p (.lst ((List.range n).filterMap f)) H'->Q (.ref p) H'):a4H ix g tt te σ H1 Q (Itr lo n) :=
 c0U f (Nat.le_of_lt (a0W hz)) hs λ H p s hp=>hd H p _ s (New.mk0 hp)
end L2
namespace Lw
open PySem L2
theorem b0W {α β:Type} {f:α->Option β} {g:α->β}:∀ {l:List α},(∀ x ∈ l,f x = some (g x))->l.filterMap f = l.map g
 | [],_=>rfl
 | x :: r,h=>by
  rw [List.filterMap_cons_some (h x List.mem_cons_self),List.map_cons,b0W λ y hy=>h y (List.mem_cons_of_mem _ hy)]
theorem b4Y {ns:List Int} {k:Int} (h0:0 <= k) (h:k < (ns.length:Int)):atI (ns.map V.int) k = some (.int (ns.getD k.toNat 0)):=by
 have hk:k.toNat < ns.length:=by omega
 have ek:k = ((k.toNat:Nat):Int):=by omega
 have q:atI (ns.map V.int) ((k.toNat:Nat):Int) = some (.int (ns.getD k.toNat 0)):=a1F (by
  rw [List.getElem?_map,List.getElem?_eq_getElem hk,τα,List.getElem?_eq_getElem hk]; rfl)
 rw [<- ek] at q
 exact q
def Scr (K:Φρ) (H:Hp) (a:Addr) (ns:List Int):Prop:=(∃ o,H a = some (.frz o (.lst (ns.map V.int)))) \/
 ∃ (o:Obj) (its:Array Value) (n:Nat),K.lookup a = some o/\o.cls = .type "list" /\ o.dict = none/\o.data = .seq its n/\its.size <= sizeLine/\Vals (ns.map V.int) its.toList
theorem Scr.seq {K:Φρ} {H:Hp} {a:Addr} {ns:List Int} (h:Scr K H a ns):SqL K H a (ns.map V.int):=by
 rcases h with ⟨o,h⟩ | h
 ·exact .inl (.inr ⟨o,h⟩)
 ·exact .inr h
theorem Scr.of {K:Φρ} {H:Hp} {a:Addr} {ns:List Int} (hO:Only H) (h:SqL K H a (ns.map V.int)):Scr K H a ns:=by
 rcases h with (h | ⟨o,h⟩) | h
 ·rcases hO a with z | ⟨ob,xs,z⟩
  ·rw [z] at h; cases h
  ·rw [z] at h; cases h
 ·exact .inl ⟨o,h⟩
 ·exact .inr h
theorem Scr.same {K:Φρ} {H H':Hp} {a:Addr} {ns:List Int} (e:Same H H') (h:Scr K H a ns):Scr K H' a ns:=by
 rcases h with ⟨o,h⟩ | h
 ·exact .inl ⟨o,e _ _ h⟩
 ·exact .inr h
def spLaw (K:Φρ):Sp:=λ vs H Q _=>∃ (a:Addr) (ns:List Int),vs = [.ref a]/\Scr K H a ns/\ns.length <= 63/\∀ H',Q (.bl true) H'
end Lw
namespace L2
open PySem PySem.Spec PyProof.Rows
theorem c2D {K:Φρ} {h:Heap} {mg:Str->Option Value} {x:Str} {st:Stmt} {ps:List Str} {f:Addr} {oc:Value} {od an:Option Addr} {osl:Array (Option Value)} {kV doc pm cdv ct:Value} (X:K.In h) (G:h.Ns mainGlobals mg)
  (a:PySem.W.nsIn K mainGlobals x = some (some (.ref f))) (l:K.lookup f = some ⟨oc,od,.func (PySem.W.fnOf x x (a1W st) (a1T st) (a0E st) .none kV doc pm an cdv ct),osl⟩) (c:PySem.W.codeIn K cdv x = true) (k:PySem.W.keepIn K (.ref f) = true)
  (hb:∀ (kV doc pm:Value) (an:Option Addr) (cdv ct:Value) (us:List Value),us.length = ps.length->bindArgs (PySem.W.fnOf x x (a1W st) (a1T st) (a0E st) .none kV doc pm an cdv ct) ⟨us,[]⟩ = pure (ps.zip us)) :
  Nonempty (Dn K mg x st ps) :=
 have F:=c4Y (st:=st) l c k
 ⟨⟨f,_,F,F.binds hb,PySem.W.mg_of X G a,λ s us hl=>.of_eq (hb _ _ _ _ _ _ us hl)⟩⟩
theorem bl_mk {K:Φρ} {h:Heap} {mg:Str->Option Value} (X:K.In h) (G:h.Ns mainGlobals mg)
  (z1:PySem.W.nsIn K mainGlobals "len" = some none) (z2:PySem.W.nsIn K mainGlobals "range" = some none) (z3:PySem.W.nsIn K mainGlobals "list" = some none) (z4:PySem.W.nsIn K mainGlobals "isinstance" = some none) (z5:PySem.W.nsIn K mainGlobals "int" = some none)
  (z6:PySem.W.nsIn K mainGlobals "bool" = some none) (z7:PySem.W.nsIn K mainGlobals "str" = some none) (z8:PySem.W.nsIn K mainGlobals "all" = some none) (z9:PySem.W.nsIn K mainGlobals "any" = some none) (z10:PySem.W.nsIn K mainGlobals "sorted" = some none)
  (z11:PySem.W.nsIn K mainGlobals "set" = some none) (z12:PySem.W.nsIn K mainGlobals "min" = some none) (z13:PySem.W.nsIn K mainGlobals "max" = some none) (z14:PySem.W.nsIn K mainGlobals "tuple" = some none) (z15:PySem.W.nsIn K mainGlobals "enumerate" = some none)
  (z16:PySem.W.nsIn K mainGlobals "dict" = some none) (z17:PySem.W.nsIn K mainGlobals "ValueError" = some none):Bl mg:=by
 refine ⟨λ x hx=>?_⟩
 simp only [List.mem_cons,List.not_mem_nil,or_false] at hx
 rcases hx with rfl | rfl | rfl | rfl | rfl | rfl | rfl | rfl | rfl | rfl | rfl | rfl | rfl | rfl | rfl | rfl | rfl
 ·exact PySem.W.mg_none_of X G z1
 ·exact PySem.W.mg_none_of X G z2
 ·exact PySem.W.mg_none_of X G z3
 ·exact PySem.W.mg_none_of X G z4
 ·exact PySem.W.mg_none_of X G z5
 ·exact PySem.W.mg_none_of X G z6
 ·exact PySem.W.mg_none_of X G z7
 ·exact PySem.W.mg_none_of X G z8
 ·exact PySem.W.mg_none_of X G z9
 ·exact PySem.W.mg_none_of X G z10
 ·exact PySem.W.mg_none_of X G z11
 ·exact PySem.W.mg_none_of X G z12
 ·exact PySem.W.mg_none_of X G z13
 ·exact PySem.W.mg_none_of X G z14
 ·exact PySem.W.mg_none_of X G z15
 ·exact PySem.W.mg_none_of X G z16
 ·exact PySem.W.mg_none_of X G z17
theorem law_at {P:Program} {w:World} {K:Φρ} {mg:Str->Option Value} {fa:Addr} {st:Stmt} {k:Nat} {sp:Sp} {x:Str} (hfa:mg "law" = some (.ref fa)) (d:Dn K mg "law" st [x]) (F:∀ base:Heap,FnOk P w K mg base CX0 k d.f d.fd [x] sp) :
  ∃ fd:FuncData,(∀ (s:Shared) (u:Value),BindsTo s fd ⟨[u],[]⟩ [(x,u)])/\∀ base:Heap,K.In base->base.Ns mainGlobals mg->FnOk P w K mg base CX0 k fa fd [x] sp:=by
 have e:fa = d.f:=by
  have:=hfa.symm.trans d.m
  have:=Option.some.inj this
  cases this
  rfl
 subst e
 exact ⟨d.fd,λ s u=>d.bd s [u] rfl,λ base _ _=>F base⟩
end L2
namespace L2
open PySem PySem.Spec PyProof.Rows
def Ite (K:Φρ) (a:Addr):It :=
 ⟨λ i H=>∃ xs x,SqL K H a xs/\xs[i]? = some x,λ i H x H'=>∃ p y,x = .ref p/\New H p (.tup [.int i,y]) H'/\∀ xs,SqL K H a xs->xs[i]? = some y,λ i H=>∃ xs,SqL K H a xs/\xs.length <= i⟩
theorem b4Z {P:Program} {w:World} {K:Φρ} {elts:List Expr} {k:Nat} {pos:Pos} (a it e:Addr) (hei:e ≠ it):Turn P w K (.Tuple elts k pos) (Ite K a) [e,it] e (λ i h=>(∃ old,IsEnum h e it i old)/\h.IsListIter it a i) where
 mem:=by simp
 obj:=λ i h st b hb=>by
  obtain ⟨⟨old,he⟩,hit⟩:=st
  rcases List.mem_cons.mp hb with rfl | hb
  ·exact ⟨_,he,λ v z=>by
    have z':Data.fields _ = Data.cell v:=z
    cases z'⟩
  ·rw [List.mem_singleton.mp hb]
   obtain ⟨o,e1,c,d⟩:=hit
   exact ⟨o,e1,λ v z=>by rw [d] at z; cases z⟩
 keep:=λ i h h' st kk=>by
  obtain ⟨⟨old,he⟩,hit⟩:=st
  exact ⟨⟨old,kk e (by simp) _ he⟩,hit.at λ o q=>kk it (by simp) o q⟩
 item:=by
  intro X hP hw hK hc i pins s σ H E I hf st hg
  subst hP hw hK
  obtain ⟨xs,x,hq,hx⟩:=hg
  obtain ⟨its,rv,pl,hz⟩:=I.list hq
  obtain ⟨u,hu,ru⟩:=rv.get hx
  obtain ⟨⟨old,he⟩,hit⟩:=st
  obtain ⟨f0,f1,f2,f3,f4,f5⟩:=hf e (by simp)
  obtain ⟨g0,g1,g2,g3,g4,g5⟩:=hf it (by simp)
  refine wpAny_pyNext_enum_item he hit pl.isList (x:=u) (by simpa using hu) hei λ h' ho hit' hT hsz hk=>?_
  refine ⟨_,rfl,wpAny_letOwnedTupleGo_enum ho λ h2 he2 hs2=>?_⟩
  have eT:s.heap.objs.size ≠ e:=Nat.ne_of_gt (Heap.lt_size he)
  have iT:s.heap.objs.size ≠ it:=by
   obtain ⟨o,e1,_⟩:=hit
   exact Nat.ne_of_gt (Heap.lt_size e1)
  have hT2:h2.get? s.heap.objs.size = some { cls:=.type "tuple", data:=.seq #[.int i s.toks,u] }:=(hs2.2 _ eT).trans hT
  have kp:∀ b o,b ≠ e->b ≠ it->s.heap.get? b = some o->h2.get? b = some o:=λ b o h1 h2' q=>(hs2.2 b h1).trans (hk b o h1 h2' q)
  have I1:Inv X pins σ H { s with heap:=h2,toks:=s.toks + 1 }:=by
   refine I.step (g':=s.gens) (d':=s.drawn) (H':=H) (ch:=[e,it]) (λ b hb=>?_) (λ b o _ _ hc q _=>kp b o (λ z=>hc (by simp [z])) (λ z=>hc (by simp [z])) q) (λ b o _ _ hc q _=>⟨o.slots,kp b o (λ z=>hc (by simp [z])) (λ z=>hc (by simp [z])) q⟩) (λ _ _ _ _ n=>n)
    (λ b o hc q=>⟨o,kp b o (λ z=>hc (by simp [z])) (λ z=>hc (by simp [z])) q⟩) (λ _ _ q=>q) (λ _ _ _ q=>q) (λ b ps q=>⟨#[],by rw [q]; simp⟩) (λ m hm=>?_) (λ b o q=>?_) I.bare
   ·rcases List.mem_cons.mp hb with rfl | hb
    ·exact ⟨f3,f1,f4,f5⟩
    ·rw [List.mem_singleton.mp hb]; exact ⟨g3,g1,g4,g5⟩
   ·obtain ⟨o,es,ep,q,r⟩:=hm
    exact ⟨o,es,ep,kp _ o (Ne.symm f1) (Ne.symm g1) q,r⟩
   ·have nb:∀ c v,H c = some v->c ≠ e/\c ≠ it:=λ c v q=>⟨a0Z q f0,a0Z q g0⟩
    refine (I.hok b o q).stay (λ c v hcc r=>kp c v ?_ ?_ r) (λ _ q=>q) λ _ _ q=>q
    ·rcases hcc with z | z
     ·rw [z]; exact (nb b o q).1
     ·exact (nb c _ z).1
    ·rcases hcc with z | z
     ·rw [z]; exact (nb b o q).2
     ·exact (nb c _ z).2
  have hfree:H s.heap.objs.size = none:=I.hok.fresh (Nat.le_refl _)
  have I2:Inv X pins σ (upd H s.heap.objs.size (.tup [.int i,x])) { s with heap:=h2,toks:=s.toks + 1 }:=by
   refine Inv.track I1 hfree I.sz (Nat.ne_of_gt I.lt) (λ y c q=>?_) (λ p hp=>Nat.ne_of_lt (Heap.lt_size (I.pin p hp).1)) ?_
   ·obtain ⟨v,oc,q1,_⟩:=I.cell y c q
    exact Nat.ne_of_lt (Heap.lt_size q1)
   ·exact ⟨(by show 2 <= sizeLine; decide),[.int i s.toks,u],.cons ⟨_,rfl⟩ (.cons ru .nil),⟨_,hT2,rfl,_,rfl⟩⟩
  refine ⟨.ref s.heap.objs.size,_,I2,rfl,⟨_,x,rfl,New.mk0 hfree,λ ys hy=>by rw [I.list_inj hy hq]; exact hx⟩,⟨⟨u,?_⟩,hit'.at λ o q=>(hs2.2 it (Ne.symm hei)).trans q⟩,λ b hb=>?_⟩
  ·have e1:((i + 1:Nat):Int) = (i:Int) + 1:=by omega
   show IsEnum h2 e it ((i + 1:Nat):Int) u
   rw [e1]; exact he2
  ·rcases List.mem_cons.mp hb with rfl | hb
   ·rw [a1I (Ne.symm eT)]; exact f0
   ·rw [List.mem_singleton.mp hb,a1I (Ne.symm iT)]; exact g0
 done:=by
  intro X hP hw hK hc i pins s σ H E I hf st hg
  subst hP hw hK
  obtain ⟨xs,hq,hx⟩:=hg
  obtain ⟨its,rv,pl,hz⟩:=I.list hq
  obtain ⟨⟨old,he⟩,hit⟩:=st
  obtain ⟨g0,g1,g2,g3,g4,g5⟩:=hf it (by simp)
  have hl:=rv.length
  exact wpAny_pyNext_enum_end (I.ok.hd hc) he hit pl.isList (by simp; omega) λ h' eb=>⟨rfl,I.turned (t':=s.toks) (λ b o hb q=>eb b o hb q) g0 g1 g3 g4 g5⟩
 self:=λ _ _ _ _ _ st h=>by
  obtain ⟨⟨old,he⟩,_⟩:=st
  exact wpAny_pyIter_enum he h
section
variable {X:Cx} {K:Φρ}
def c7I (K:Φρ) (ta:TA):TI:=λ σ H R=>ta σ H λ vs H1=>∃ a,vs = [.ref a]/\(∃ xs,SqL K H1 a xs)/\R (Ite K a) H1
theorem a8A {elts:List Expr} {k:Nat} {tpos:Pos} {l:Expr} {ta:TA} {p pos:Pos} (e0:X.K = K) (hg:Gl X "enumerate") (hm:X.mg "enumerate" = none) (ha:PA X [l] ta) (hs:starEach [l] X.env = [(false,eval l X.env)]:=by rfl) :
  PI X (.Tuple elts k tpos) (.Call (.Name "enumerate" p) [l] [] pos) (c7I K ta):=by
 subst e0
 intro pins s σ H R I h
 refine wpAny_Call_Name_kw (a5G I hg hm boot_enumerate ?_)
 refine PyProof.Rows.callWith_type1 (thn (ha pos pins s σ H _ I h) λ us s1 ⟨vs,H1,I1,r1,q1⟩=>?_) hs (by rfl)
 obtain ⟨a,e,⟨xs,hq⟩,q⟩:=q1
 subst e
 obtain ⟨u,rfl,ru⟩:=a8X r1
 cases ru
 obtain ⟨its,rv,pl,hz⟩:=I1.list hq
 refine call_enumerate_list pl.isList λ h' he hit hsz hk=>?_
 refine wpAny_pyIter_enum he ?_
 have I2:Inv X pins σ H1 { s1 with heap:=h' }:=I1.kept (t':=s1.toks) hk
 refine ⟨s1.heap.objs.size + 1,[s1.heap.objs.size + 1,s1.heap.objs.size],_,_,H1,rfl,I2,b4Z a s1.heap.objs.size (s1.heap.objs.size + 1) (Nat.ne_of_gt (Nat.lt_succ_self _)),⟨⟨_,he⟩,hit⟩,λ b hb=>?_,q⟩
 have hb':s1.heap.objs.size <= b:=by
  rcases List.mem_cons.mp hb with rfl | hb
  ·exact Nat.le_succ _
  ·rw [List.mem_singleton.mp hb]; exact Nat.le_refl _
 exact I1.fpOk hb' (I1.hok.fresh hb')
end
theorem a8B {K:Φρ} {a:Addr} {xs:List V} {g:TG} {tb:TS} {D:Ends} {σ:St} {H:Hp} (Pv:Nat->St->Hp->Prop) (h0:Pv 0 σ H) (hl:∀ i σ H,i <= xs.length->Pv i σ H->SqL K H a xs)
  (hs:∀ (i:Nat) x σ H p H',xs[i]? = some x->Pv i σ H->New H p (.tup [.int i,x]) H'->g (.ref p) σ H' λ σ2 H2=>tb { D with nx:=Pv (i + 1),ct:=Pv (i + 1),bk:=D.nx } σ2 H2) (hd:∀ σ H,Pv xs.length σ H->D.nx σ H) :
  ∃ W:Nat->Nat->St->Hp->Prop,(∃ m,W 0 m σ H)/\∀ i m σ H,W i m σ H ->
   ((Ite K a).stop i H/\D.nx σ H)\/((Ite K a).go i H/\∃ N:St->Hp->Prop,(∀ σ' H',N σ' H'->∃ m',m' < m/\W (i + 1) m' σ' H')/\∀ x H',(Ite K a).yld i H x H'->g x σ H' λ σ2 H2=>tb { D with nx:=N,ct:=N,bk:=D.nx } σ2 H2):=by
 refine ⟨λ i m σ H=>m = xs.length - i/\i <= xs.length/\Pv i σ H,⟨xs.length,by simp,Nat.zero_le _,h0⟩,?_⟩
 rintro i m σ H ⟨rfl,hi,p⟩
 have q:=hl i σ H hi p
 by_cases hlt:i < xs.length
 ·refine .inr ⟨⟨xs,xs[i],q,by simp [hlt]⟩,Pv (i + 1),λ σ' H' p'=>⟨xs.length - (i + 1),by omega,rfl,hlt,p'⟩,λ x H' y=>?_⟩
  obtain ⟨pp,y0,rfl,nw,ex⟩:=y
  exact hs i y0 σ H pp H' (ex xs q) p nw
 ·have e:i = xs.length:=by omega
  subst e
  exact .inl ⟨⟨xs,q,Nat.le_refl _⟩,hd σ H p⟩
theorem c2E {K:Φρ} {a:Addr} {xs:List V} {ix:List (Option Nat)} {g:TG} {tt:TT} {te:TE} {σ:St} {H1:Hp} {Q:VK} (f:Nat->V->Option V) (hx:SqL K H1 a xs) (hz:xs.length <= 1000)
  (hs:∀ (i:Nat) x H p H0 (N:Option V->Hp->Prop),xs[i]? = some x->Same H1 H->New H p (.tup [.int i,x]) H0->(∀ H',Same H1 H'->N (f i x) H')->g (.ref p) (capt ix σ) H0 λ σ2 H2=>tt σ2 H2 λ b H3=>if b = true then te σ2 H3 λ v H4=>N (some v) H4 else N none H3)
  (hd:∀ H p H',Same H1 H->New H p (.lst ((List.range xs.length).filterMap λ i=>(xs[i]?).bind (f i))) H'->Q (.ref p) H'):a4H ix g tt te σ H1 Q (Ite K a):=by
 refine ⟨λ i m ys H=>m = xs.length - i/\i <= xs.length/\ys = (List.range i).filterMap (λ i=>(xs[i]?).bind (f i))/\Same H1 H,⟨xs.length,by simp,Nat.zero_le _,rfl,Same.refl _⟩,?_⟩
 rintro i m ys H ⟨rfl,hi,e,s⟩
 have zy:ys.length <= sizeLine:=by
  rw [e]
  refine Nat.le_trans (List.length_filterMap_le _ _) ?_
  rw [List.length_range]; exact Nat.le_trans hi (Nat.le_of_lt (a0W hz))
 have q:=s.seq hx
 by_cases hlt:i < xs.length
 ·refine .inr ⟨⟨xs,xs[i],q,by simp [hlt]⟩,zy,λ ys' H'=>ys' = (List.range (i + 1)).filterMap (λ i=>(xs[i]?).bind (f i))/\Same H1 H',λ ys' H' ⟨e',s'⟩=>⟨xs.length - (i + 1),by omega,rfl,hlt,e',s'⟩,λ x H' y=>?_⟩
  obtain ⟨pp,y0,rfl,nw,ex⟩:=y
  have ey:=ex xs q
  refine hs i y0 H pp H' (λ o H'=>match o with | some v=>(ys ++ [v] = (List.range (i + 1)).filterMap (λ i=>(xs[i]?).bind (f i))/\Same H1 H') | none=>(ys = (List.range (i + 1)).filterMap (λ i=>(xs[i]?).bind (f i))/\Same H1 H')) ey s nw λ H' s'=>?_
  cases ef:f i y0 with
  | some v =>
   refine ⟨?_,s'⟩
   rw [e,List.range_succ,List.filterMap_append]
   simp [ey,ef]
  | none =>
   refine ⟨?_,s'⟩
   rw [e,List.range_succ,List.filterMap_append]
   simp [ey,ef]
 ·have e':i = xs.length:=by omega
  subst e'
  refine .inl ⟨⟨xs,q,Nat.le_refl _⟩,zy,λ p hp=>?_⟩
  subst e
  exact hd H p _ s (New.mk0 hp)
theorem c0V {K:Φρ} {a:Addr} {xs:List V} {ix:List (Option Nat)} {g:TG} {tt:TT} {te:TE} {σ:St} {H1:Hp} {Q:VK} (f:Nat->Option V) (hx:SqL K H1 a xs) (hz:xs.length <= 1000)
  (hs:∀ (i:Nat) x H (N:Option V->Hp->Prop),xs[i]? = some x->Same H1 H->(∀ H',Same H1 H'->N (f i) H')->g x (capt ix σ) H λ σ2 H2=>tt σ2 H2 λ b H3=>if b = true then te σ2 H3 λ v H4=>N (some v) H4 else N none H3)
  (hd:∀ H p H',Same H1 H->New H p (.lst ((List.range xs.length).filterMap f)) H'->Q (.ref p) H'):a4H ix g tt te σ H1 Q (Itl K a):=by
 refine a7Z (K:=K) (a:=a) (xs:=xs) (λ i ys H=>ys = (List.range i).filterMap f/\Same H1 H) ⟨rfl,Same.refl _⟩ (λ i ys H hi ⟨e,s⟩=>⟨s.seq hx,?_⟩) (λ i x ys H hi ⟨e,s⟩=>?_) λ ys H ⟨e,s⟩ p hp=>?_
 ·subst e
  refine Nat.le_trans (List.length_filterMap_le _ _) ?_
  rw [List.length_range]; exact Nat.le_trans hi (Nat.le_of_lt (a0W hz))
 ·refine hs i x H (λ o H'=>match o with | some v=>(ys ++ [v] = (List.range (i + 1)).filterMap f/\Same H1 H') | none=>(ys = (List.range (i + 1)).filterMap f/\Same H1 H')) hi s λ H' s'=>?_
  cases ef:f i with
  | some v =>
   refine ⟨?_,s'⟩
   rw [e,List.range_succ,List.filterMap_append]
   simp [ef]
  | none =>
   refine ⟨?_,s'⟩
   rw [e,List.range_succ,List.filterMap_append]
   simp [ef]
 ·subst e
  exact hd H p _ s (New.mk0 hp)
end L2
namespace Bg
open PySem L2 Lw
def a6E (n:Int):Option Int->Bool
 | none=>false
 | some i=>decide (0 <= i/\i < n)
inductive Flt where
 | ok | row (k:Nat) | place (v:Nat) | tie (a b:Int) | apart (v j k:Nat)
 deriving DecidableEq
def upV:Option Int->V
 | none=>.non
 | some i=>.int i
def TieV (K:Φρ) (H:Hp) (v:V) (t:Int × Int):Prop:=∃ p,v = .ref p/\SqT K H p [.int t.1,.int t.2]
def TiesAt (K:Φρ) (H:Hp) (a:Addr) (ts:List ζζ):Prop:=∃ xs,SqL K H a xs/\Paired (TieV K H) xs ts/\ts.length <= 1000
def GraphV (K:Φρ) (H:Hp) (v:V) (n:Int) (ts:List ζζ):Prop:=∃ p a,v = .ref p/\SqT K H p [.int n,.ref a]/\TiesAt K H a ts
theorem TiesAt.same {K:Φρ} {H H':Hp} {a:Addr} {ts:List ζζ} (e:Same H H') (h:TiesAt K H a ts):TiesAt K H' a ts:=by
 obtain ⟨xs,h1,h2,h3⟩:=h
 exact ⟨xs,e.seq h1,Paired.mapP h2 λ _ _ ⟨p,q1,q2⟩=>⟨p,q1,e.tupq q2⟩,h3⟩
theorem GraphV.same {K:Φρ} {H H':Hp} {v:V} {n:Int} {ts:List ζζ} (e:Same H H') (h:GraphV K H v n ts):GraphV K H' v n ts:=by
 obtain ⟨p,a,h1,h2,h3⟩:=h
 exact ⟨p,a,h1,e.tupq h2,h3.same e⟩
theorem a0V {α β:Type} {F:α->β->Prop}:∀ {xs:List α} {ys:List β} {i:Nat} {x:α},Paired F xs ys->xs[i]? = some x->∃ y,ys[i]? = some y/\F x y
 | _,_,_,_,.nil,h=>by simp at h
 | _,_,0,_,.cons h r,e=>by
  simp at e; subst e
  exact ⟨_,rfl,h⟩
 | _,_,i + 1,_,.cons h r,e=>by
  obtain ⟨d,e1,q⟩:=a0V (i:=i) r (by simpa using e)
  exact ⟨d,by simpa using e1,q⟩
theorem a6F {α β:Type} {F:α->β->Prop}:∀ {xs:List α} {ys:List β} {i:Nat} {y:β},Paired F xs ys->ys[i]? = some y->∃ x,xs[i]? = some x/\F x y
 | _,_,_,_,.nil,h=>by simp at h
 | _,_,0,_,.cons h r,e=>by
  simp at e; subst e
  exact ⟨_,rfl,h⟩
 | _,_,i + 1,_,.cons h r,e=>by
  obtain ⟨d,e1,q⟩:=a6F (i:=i) r (by simpa using e)
  exact ⟨d,by simpa using e1,q⟩
theorem b5A (ns:List Int) (v:Int):(ns.map PyData.int).any (λ e=>PyData.eqv e (.int v)) = decide (v ∈ ns):=by
 induction ns with
 | nil=>rfl
 | cons a r ih =>
  rw [List.map_cons,List.any_cons,ih,PyData.eqv]
  by_cases h:a = v
  ·subst h; simp
  ·have h':¬ v = a:=λ z=>h z.symm
   simp [h,h']
theorem b3M (ns:List Int):PyData.depthAll (ns.map PyData.int) = 0:=by
 induction ns with
 | nil=>rfl
 | cons a r ih=>rw [List.map_cons,PyData.depthAll,ih]; rfl
theorem b8L (ns:List Int):PyData.canLayAll0 (ns.map PyData.int) = true:=by
 induction ns with
 | nil=>rfl
 | cons a r ih=>rw [List.map_cons,PyData.canLayAll0,ih]; rfl
theorem a2Y (ns:List Int):SeqAt.shaped (.list (ns.map PyData.int)) = true:=by
 unfold SeqAt.shaped
 rw [PyData.canLay0,b8L,PyData.depth,b3M]
 decide
theorem b8M (ns ms:List Int):PyData.eqv (.list (ns.map PyData.int)) (.list (ms.map PyData.int)) = decide (ns = ms):=by
 rw [PyData.eqv]
 exact PySem.W.ked_eqvAll ns ms
theorem b5B {K:Φρ} {H:Hp} {b:Addr} {ns:List Int} {v:Int} {Q:VK} (hS:SqL K H b (ns.map V.int)) (q:Q (.bl (decide (v ∈ ns))) H):rInD K false (.int v) (.ref b) H Q :=
 ⟨_,_,.int v,.lst hS (IsDs.ints ns),rfl,a2Y ns,by rw [b5A]; exact q⟩
theorem a9N {K:Φρ} {H:Hp} {b:Addr} {ns:List Int} {v:Int} {Q:VK} (hS:SqL K H b (ns.map V.int)) (q:Q (.bl (!decide (v ∈ ns))) H):rInD K true (.int v) (.ref b) H Q :=
 ⟨_,_,.int v,.lst hS (IsDs.ints ns),rfl,a2Y ns,by rw [b5A]; exact q⟩
end Bg
namespace L2
open PySem PySem.Spec PyProof.Rows
def c7J:V->V->V->Hp->(Hp->Prop)->Prop:=λ o i v H Q=>∃ p xs k j,o = .ref p/\i = .int k/\H p = some (.lst xs)/\ixN xs.length k = some j/\∀ H',Chg H p (.lst (xs.set j v)) H'->Q H'
theorem a1Z {X:Cx}:PSet X c7J:=λ pins s σ H o i v ov iv u Q I ro ri rv ⟨p,xs,k,j,e1,e2,h1,h2,q⟩=>b8I pins s σ H o i v ov iv u Q I ro ri rv ⟨p,xs,k,j,e1,e2,h1,h2,q _ Chg.mk0⟩
theorem a3G {n j:Nat} (h:j < n):ixN n (j:Int) = some j:=by
 unfold ixN
 rw [if_pos (by omega),if_pos (by omega)]; simp
theorem Same.chg {H H':Hp} {l:Addr} {o:HO} {H0:Hp} (s:Same H0 H) (h0:H0 l = none) (c:Chg H l o H'):Same H0 H':=λ b u e=>(c.rest b (a0Z e h0)).trans (s b u e)
end L2
namespace Bg
open PySem L2 Lw
def TieL (H:Hp) (v:V) (t:Int × Int):Prop:=∃ p,v = .ref p/\H p = some (.tup [.int t.1,.int t.2])
theorem TieL.v {K:Φρ} {H:Hp} {v:V} {t:Int × Int} (h:TieL H v t):TieV K H v t:=by
 obtain ⟨p,e,q⟩:=h
 exact ⟨p,e,SqT.of q⟩
theorem TieL.same {H H':Hp} {v:V} {t:Int × Int} (s:Same H H') (h:TieL H v t):TieL H' v t:=by
 obtain ⟨p,e,q⟩:=h
 exact ⟨p,e,s _ _ q⟩
theorem TieL.chg {H H':Hp} {l:Addr} {xs ys:List V} {v:V} {t:Int × Int} (hl:H l = some (.lst xs)) (c:Chg H l (.lst ys) H') (h:TieL H v t):TieL H' v t:=by
 obtain ⟨p,e,q⟩:=h
 exact ⟨p,e,(c.rest p (c6K q hl (by intro z; cases z))).trans q⟩
theorem a1P {α β:Type} {F:α->β->Prop}:∀ {xs:List α} {ys:List β} {x:α} {y:β},Paired F xs ys->F x y->Paired F (xs ++ [x]) (ys ++ [y])
 | _,_,_,_,.nil,h=>.cons h .nil
 | _,_,_,_,.cons h r,q=>.cons h (a1P r q)
def tieD (t:Int × Int):PyData:=.tuple [.int t.1,.int t.2]
theorem TieV.isD {K:Φρ} {H:Hp} {v:V} {t:Int × Int} (h:TieV K H v t):IsD K H v (tieD t):=by
 obtain ⟨p,rfl,q1⟩:=h
 exact .tup q1 (.cons (.int _) (.cons (.int _) .nil))
theorem b5C {K:Φρ} {H:Hp} {α:Type} {F:V->α->Prop} {f:α->PyData} (hf:∀ v x,F v x->IsD K H v (f x)):∀ {xs:List V} {ys:List α},Paired F xs ys->IsDs K H xs (ys.map f)
 | _,_,.nil=>.nil
 | _,_,.cons h r=>.cons (hf _ _ h) (b5C hf r)
def b3N (ts:List ζζ):PyData:=.list (ts.map tieD)
theorem TiesAt.isD {K:Φρ} {H:Hp} {a:Addr} {ts:List ζζ} (h:TiesAt K H a ts):IsD K H (.ref a) (b3N ts):=by
 obtain ⟨xs,h1,h2,_⟩:=h
 exact .lst h1 (b5C (λ v x q=>q.isD) h2)
def webD (n:Int) (ts:List ζζ):PyData:=.tuple [.int n,b3N ts]
theorem GraphV.isD {K:Φρ} {H:Hp} {v:V} {n:Int} {ts:List ζζ} (h:GraphV K H v n ts):IsD K H v (webD n ts):=by
 obtain ⟨p,a,rfl,q1,q2⟩:=h
 exact .tup q1 (.cons (.int _) (.cons q2.isD .nil))
theorem b0X {α:Type} {f:α->PyData} (h:∀ x,(f x).canLay0 = true):∀ l:List α,PyData.canLayAll0 (l.map f) = true
 | []=>rfl
 | x :: r=>by rw [List.map_cons,PyData.canLayAll0,h x,b0X h r]; rfl
theorem a3H {α:Type} {f:α->PyData} {k:Nat} (h:∀ x,(f x).depth <= k):∀ l:List α,PyData.depthAll (l.map f) <= k
 | []=>Nat.zero_le _
 | x :: r=>by
  rw [List.map_cons,PyData.depthAll]
  exact Nat.max_le.mpr ⟨h x,a3H h r⟩
theorem b5D (t:Int × Int):(tieD t).canLay0 = true:=rfl
theorem a6G (t:Int × Int):(tieD t).depth <= 1:=by
 unfold tieD
 simp [PyData.depth,PyData.depthAll]
theorem a6H (ts:List ζζ):SeqAt.shaped (b3N ts) = true:=by
 unfold SeqAt.shaped b3N
 rw [PyData.canLay0,b0X b5D,PyData.depth,Bool.true_and]
 exact decide_eq_true (by have:=a3H a6G ts; omega)
theorem a1X (n:Int) (ts:List ζζ):SeqAt.shaped (webD n ts) = true:=by
 have h:=a6H ts
 unfold SeqAt.shaped at h ⊢
 rw [Bool.and_eq_true] at h
 have h2:(b3N ts).depth <= 2:=by
  unfold b3N
  rw [PyData.depth]
  have:=a3H a6G ts; omega
 unfold webD
 rw [PyData.canLay0,PyData.canLayAll0,PyData.canLayAll0,h.1,PyData.depth,PyData.depthAll,PyData.depthAll,PyData.depthAll,PyData.depth]
 simp only [PyData.canLay0,PyData.canLayAll0,Bool.and_true,Bool.true_and]
 refine decide_eq_true ?_
 omega
theorem b2C {d:PyData} (h:SeqAt.shaped d = true):PyData.eqv d d = true:=SeqAt.eqv_refl d (SeqAt.canLay_of_shaped h)
end Bg
set_option maxHeartbeats 4100000
namespace L2
open PySem PySem.Spec PyProof.Rows
section
variable {X:Cx} {K:Φρ} {a b:Expr} {rest:List Expr} {pos:Pos} {ta tb:TE}
def tOrL (K:Φρ) (ta tb:TE):TE:=λ σ H Q=>ta σ H λ x H1=>∃ k,TruV K x H1 k/\if k = true then Q x H1 else tb σ H1 Q
theorem c5D (e:X.K = K) (ha:PE X a ta) (hb:PE X (.BoolOp .Or (b :: rest) pos) tb):PE X (.BoolOp .Or (a :: b :: rest) pos) (tOrL K ta tb):=by
 subst e
 intro pins s σ H Q I h
 refine BoolOp_or (thn (ha pins s σ H _ I h) λ v s1 ⟨x,H1,I1,r1,q1⟩=>?_)
 obtain ⟨k,tk,q1⟩:=q1
 refine thn (c0P pins s1 σ H1 x v (λ c H2=>c = k/\H2 = H1) I1 r1 ⟨k,tk,rfl,rfl⟩) λ c s2 ⟨H2,I2,q2⟩=>?_
 obtain ⟨rfl,rfl⟩:=q2
 cases c with
 | true=>exact ⟨x,H2,I2,r1,q1⟩
 | false=>exact hb pins s2 σ H2 Q I2 q1
def c5E (K:Φρ):List V->Hp->VK->Prop:=λ xs H Q=>∃ p ys,xs = [.ref p]/\SqL K H p ys/\Q (.bl (!ys.isEmpty)) H
theorem a6W (x:Value):Meets (Builtin.«bool.__new__» ⟨[.type "bool", x],[]⟩) (λ _ R s=>∃ (c:Bool) (tk:Nat),(∀ (prog:Program) (w:World) (A':Around) (E':Value->Shared->Prop) (Q':Bool->Shared->Prop),Q' c { s with toks:=tk }->wpAny (model prog w) A' (truthy x) Q' E' s)/\R (.ok (.ret (.bool c))) { s with toks:=tk }) :=
 Meets.of_wp λ prog w A R s hs=>by
  obtain ⟨c,tk,ht,hr⟩:=hs
  have f1:=F.conv_sub_bool
  obtain ⟨hp,g,d,tk0,os⟩:=s
  repeat (any_goals (first | assumption | (with_reducible refine ht _ _ _ _ _ ?_) | wp_step))
  all_goals first | exact ⟨_,rfl,hr⟩ | exact hr | skip
theorem a7H (e:X.K = K):CallR X (.type "bool") (c5E K):=by
 subst e
 intro pins s σ H xs us Q I r h
 obtain ⟨p,ys,rfl,hL,q⟩:=h
 obtain ⟨u,rfl,rx⟩:=a8X r
 cases rx
 obtain ⟨its,r',pl,hz⟩:=I.list hL
 have hlen:=r'.length
 have hl:=a7F
 refine call_bool_1 (a6W (.ref p)) ⟨!its.toArray.isEmpty,s.toks + 1 + 1,λ prog w A' E' Q' q'=>wpAny_truthy_list pl.isList (by simp only [List.size_toArray]; omega) q',?_⟩
 refine (show wants (λ obj s₁=>s₁.TypeIs obj "bool" /\ EP X pins σ Q obj s₁) _ _ _ from ⟨rfl,.bl (!its.toArray.isEmpty),H,I.tok _,rfl,?_⟩)
 rw [a4W r']
 exact q
end
end L2
set_option maxHeartbeats 4100000
namespace L2
open PySem PySem.Spec PyProof.Rows
section
variable {K:Φρ} {a:Addr} {xs:List V} {ix:List (Option Nat)} {g:TG} {tt:TT} {te:TE} {σ:St} {H1:Hp} {Q:VK}
end
section
variable {X:Cx} {K:Φρ}
end
end L2
namespace Srt
open PySem PySem.W PyProof.Rows
section
variable {n:Nat} {key:Nat->Int} {α β:Type}
end
end Srt
set_option maxHeartbeats 4100000
namespace Srt
open PySem PyProof.Rows PySem.Calls PySem.W
section
variable {prog:Program} {wo:World} {A:Around} {E:Value->Shared->Prop} {s:Shared}
end
end Srt
set_option maxHeartbeats 4100000
namespace Srt
open PySem PyProof.Rows PySem.Calls PySem.W
theorem b5E {α:Type} {p q:α->Bool} (h:∀ x,p x = true->q x = true) (l:List α):l.countP p <= l.countP q:=by
 induction l with
 | nil=>exact Nat.le_refl _
 | cons a r ih =>
  rw [List.countP_cons,List.countP_cons]
  by_cases c:p a = true
  ·rw [if_pos c,if_pos (h a c)]; omega
  ·rw [if_neg c]; omega
theorem countP_lt {α:Type} {p q:α->Bool} (h:∀ x,p x = true->q x = true) {x:α}:∀ {l:List α},x ∈ l->p x = false->q x = true->l.countP p < l.countP q
 | a :: r,hx,h1,h2=>by
  rw [List.countP_cons,List.countP_cons]
  have le:=b5E h r
  rcases List.mem_cons.mp hx with rfl | hx
  ·rw [if_neg (by rw [h1]; exact Bool.false_ne_true),if_pos h2]; omega
  ·have ih:=countP_lt h hx h1 h2
   by_cases c:p a = true
   ·rw [if_pos c,if_pos (h a c)]; omega
   ·rw [if_neg c]; omega
section
variable {prog:Program} {w:World} {A:Around} {E:Value->Shared->Prop} {s:Shared} {Q:Bool->Shared->Prop}
end
end Srt
set_option maxHeartbeats 4100000
namespace L2
open PySem PySem.Spec PyProof.Rows Bg Srt
theorem b0Y:∀ {ns:List Int} {us:List Value},Vals (ns.map V.int) us->IntsAre us ns
 | [],_,.nil=>.nil
 | n :: ns,_,.cons r t=>by
  obtain ⟨k,rfl⟩:=r
  exact .cons n k (b0Y t)
section
variable {X:Cx} {K:Φρ}
end
end L2
set_option maxHeartbeats 4100000
namespace Srt
open PySem PySem.W PySem.Calls PySem.Spec PyProof.Rows PySem.MeetsSeq
end Srt
namespace L2
open PySem PySem.Spec PyProof.Rows Srt
section
variable {X:Cx} {K:Φρ}
end
end L2
set_option maxHeartbeats 4100000
namespace L2
open PySem PySem.Spec PyProof.Rows
section
variable {X:Cx} {K:Φρ}
end
end L2
namespace L2
open PySem PySem.Spec PyProof.Rows
section
variable {X:Cx} {K:Φρ}
end
end L2
set_option maxHeartbeats 4100000
namespace L2
open PySem PySem.Spec PyProof.Rows
section
variable {prog:Program} {w:World} {A:Around} {R:Result->Shared->Prop} {I:Addr} {fp wr:List Addr} {n:Nat} {P:Nat->Value->Prop} {St:Nat->Heap->Prop} {kw:List (Str × Value)}
end
section
variable {prog:Program} {w:World} {A:Around} {E:Value->Shared->Prop} {s:Shared} {xs:Array (Int × Tok)} {l:Addr}
end
section
variable {X:Cx} {K:Φρ}
end
end L2
set_option maxHeartbeats 4100000
namespace L2
open PySem PySem.Spec PyProof.Rows
section
variable {prog:Program} {w:World} {A:Around} {R:Result->Shared->Prop} {I:Addr} {fp wr:List Addr} {n:Nat} {P:Nat->Value->Prop} {St:Nat->Heap->Prop} {kw:List (Str × Value)}
end
section
variable {prog:Program} {w:World} {A:Around} {E:Value->Shared->Prop} {s:Shared} {xs:Array (Int × Tok)} {l:Addr}
end
section
variable {X:Cx} {K:Φρ}
end
end L2
namespace L2
open PySem PySem.Spec PySem.Calls PyProof.Rows
section
variable {X:Cx}
def c7K:V->List V->Hp->VK->Prop:=λ x vs H Q=>∃ (l:Addr) (ns:List Int) (v:Int) (j:Nat),x = .ref l/\vs = [.int v]/\H l = some (.lst (List.map V.int ns))/\ns[j]? = some v/\(∀ m:Nat,m < j->ns[m]? ≠ some v)/\ns.length <= 1000/\Q (.int (j:Int)) H
def isV (v:Int):Value->Bool
 | .int a _=>a == v
 | _=>false
theorem b5F:MtM X "list.index" c7K:=by
 intro pins s σ H x vs w us Q I rx rv h
 obtain ⟨l,ns,v,j,rfl,rfl,hH,hj,hno,hz,q⟩:=h
 cases rx
 obtain ⟨u,rfl,ru⟩:=a8X rv
 obtain ⟨t,rfl⟩:=(show ∃ t,u = Value.int v t from ru)
 obtain ⟨z,its,n,r,hl,e⟩:=I.lstM hH
 have hi:=b0Y r
 have len:=hi.length
 have at_:∀ m (hm:m < its.length),∃ k tk,its[m] = Value.int k tk/\ns[m]? = some k:=λ m hm=>by
  have hm2:m < ns.length:=by omega
  obtain ⟨tk,e⟩:=hi.get m ns[m] (List.getElem?_eq_getElem hm2)
  rw [List.getElem?_eq_getElem hm] at e
  injection e with e
  exact ⟨ns[m],tk,e,List.getElem?_eq_getElem hm2⟩
 have jl:j < its.length:=by have:=(List.getElem?_eq_some_iff.mp hj).1; omega
 refine call_meets F.slot_list_index ⟨_,e,rfl⟩ F.entry_list_index (F.args_list_index_2 _ _) (MeetsSeq.list_index l its.toArray n (.int v t) (isV v) (λ y hy=>?_) j (by simpa using jl) (by omega) ?_ λ m hm hmj=>?_) ⟨e,?_⟩
 ·obtain ⟨m,hm,em⟩:=List.getElem_of_mem (show y ∈ its by simpa using hy)
  obtain ⟨k,tk,e1,_⟩:=at_ m hm
  rw [<- em,e1]
  exact MeetsSeq.EqGives.int k v tk t
 ·obtain ⟨k,tk,e1,e2⟩:=at_ j jl
  rw [hj] at e2
  injection e2 with e2
  simp only [List.getElem_toArray]
  rw [e1,<- e2]
  exact beq_self_eq_true v
 ·have hm':m < its.length:=by simpa using hm
  obtain ⟨k,tk,e1,e2⟩:=at_ m hm'
  simp only [List.getElem_toArray]
  rw [e1]
  show (k == v) = false
  have:k ≠ v:=λ z=>hno m hmj (by rw [e2,z])
  simpa using this
 ·exact ⟨.int j,H,I.tok _,⟨_,rfl⟩,q⟩
end
end L2
namespace L2
open PySem PySem.Spec PyProof.Rows
section
variable {X:Cx}
def c7L:V->List V->Hp->VK->Prop:=λ x vs H Q=>∃ m:Nat,x = .int (m:Int)/\vs = []/\Q (.int ((Builtin.Int.intBits (m:Int):Nat):Int)) H
theorem b5G:MtR X "int.bit_length" c7L:=by
 intro pins s σ H x xs v us Q I rx rs h
 obtain ⟨m,rfl,rfl,q⟩:=h
 obtain ⟨t,rfl⟩:=(show ∃ t,v = Value.int (m:Int) t from rx)
 cases rs
 exact call_int_bit_length ⟨.int _,H,I.tok _,⟨_,rfl⟩,q⟩
end
theorem b5H (a b:Nat):Builtin.bitAnd (a:Int) (b:Int) = ((a &&& b:Nat):Int):=by
 unfold Builtin.bitAnd
 simp
theorem b2D (a b:Nat):Builtin.bitOr (a:Int) (b:Int) = ((a ||| b:Nat):Int):=by
 unfold Builtin.bitOr Builtin.bitAnd Builtin.bitNot
 rw [decide_eq_false (show ¬ (0:Int) <= -(a:Int) - 1 by omega),decide_eq_false (show ¬ (0:Int) <= -(b:Int) - 1 by omega)]
 dsimp only
 rw [show (-(-(a:Int) - 1) - 1).toNat = a by omega,show (-(-(b:Int) - 1) - 1).toNat = b by omega]
 omega
theorem b0Z {m k:Nat} (h:m < 2 ^ k):Builtin.Int.intBits (m:Int) <= k:=by
 unfold Builtin.Int.intBits
 split
 ·exact Nat.zero_le _
 ·rename_i c
  have hm:m ≠ 0:=λ z=>c (by rw [z]; rfl)
  rw [Int.natAbs_natCast]
  exact (Nat.log2_lt hm).mpr h
theorem a9O {m v:Nat} (h:m.testBit v = true):v < Builtin.Int.intBits (m:Int):=by
 unfold Builtin.Int.intBits
 have hm:m ≠ 0:=λ z=>by rw [z] at h; simp at h
 have hc:¬ (((m:Int) == 0) = true):=by simpa using hm
 rw [if_neg hc,Int.natAbs_natCast]
 have:=Nat.ge_two_pow_of_testBit h
 exact Nat.lt_succ_of_le ((Nat.le_log2 hm).mpr this)
def a0X (m:Nat):List Nat:=(List.range 10).filter (m.testBit ·)
theorem b1A {m:Nat} (h:m < 2 ^ 10):(List.range (Builtin.Int.intBits (m:Int))).filter (m.testBit ·) = a0X m:=by
 unfold a0X
 have hk:=b0Z h
 obtain ⟨d,ed⟩:∃ d,10 = Builtin.Int.intBits (m:Int) + d:=⟨10 - Builtin.Int.intBits (m:Int),by omega⟩
 rw [ed,List.range_add,List.filter_append]
 have:((List.range d).map (λ x=>Builtin.Int.intBits (m:Int) + x)).filter (m.testBit ·) = []:=by
  rw [List.filter_eq_nil_iff]
  intro x hx hb
  obtain ⟨y,_,rfl⟩:=List.mem_map.mp hx
  have:=a9O hb
  omega
 rw [this,List.append_nil]
theorem a8C (m v:Nat):(m &&& 2 ^ v = 0) ↔ m.testBit v = false:=by
 constructor
 ·intro h
  have:(m &&& 2 ^ v).testBit v = false:=by rw [h]; simp
  rw [Nat.testBit_and,Nat.testBit_two_pow_self,Bool.and_true] at this
  exact this
 ·intro h
  refine Nat.eq_of_testBit_eq λ i=>?_
  rw [Nat.testBit_and,Nat.zero_testBit,Nat.testBit_two_pow]
  by_cases c:v = i
  ·subst c; rw [h]; rfl
  ·rw [decide_eq_false c,Bool.and_false]
theorem a2F {m v k:Nat} (h:m < 2 ^ k) (hv:k <= v):m.testBit v = false :=
 Nat.testBit_lt_two_pow (Nat.lt_of_lt_of_le h (Nat.pow_le_pow_right (by decide) hv))
theorem a4Y {m v:Nat} (h:m.testBit v = true):∀ u,(m - 2 ^ v).testBit u = (m.testBit u && !decide (u = v)):=by
 induction v generalizing m with
 | zero =>
  intro u
  have h1:m % 2 = 1:=by rw [Nat.testBit_zero] at h; exact of_decide_eq_true h
  cases u with
  | zero =>
   rw [Nat.testBit_zero,Nat.testBit_zero]
   have:(m - 2 ^ 0) % 2 = 0:=by omega
   rw [this]; simp
  | succ u =>
   rw [Nat.testBit_succ,Nat.testBit_succ]
   have:(m - 2 ^ 0) / 2 = m / 2:=by omega
   rw [this]; simp
 | succ v ih =>
  intro u
  rw [Nat.testBit_succ] at h
  have le:2 ^ v <= m / 2:=Nat.ge_two_pow_of_testBit h
  have e2:2 ^ (v + 1) = 2 * 2 ^ v:=by rw [Nat.pow_succ,Nat.mul_comm]
  cases u with
  | zero =>
   rw [Nat.testBit_zero,Nat.testBit_zero]
   have:(m - 2 ^ (v + 1)) % 2 = m % 2:=by omega
   rw [this]; simp
  | succ u =>
   rw [Nat.testBit_succ,Nat.testBit_succ]
   have:(m - 2 ^ (v + 1)) / 2 = m / 2 - 2 ^ v:=by omega
   rw [this,ih h u]
   simp
structure BagsM (n:Nat) (ms:List Nat) (R:Nat->Nat->Bool):Prop where
 len:ms.length = n
 n10:n <= 10
 lt:∀ m ∈ ms,m < 2 ^ 10
 bit:∀ v < n,∀ u,(ms.getD v 0).testBit u = R v u
 far:∀ v u,R v u = true->v < n/\u < n
theorem BagsM.get {n:Nat} {ms:List Nat} {R:Nat->Nat->Bool} (b:BagsM n ms R) {v:Nat} (h:v < n):ms[v]? = some (ms.getD v 0):=by
 have:v < ms.length:=by rw [b.len]; exact h
 rw [τα,List.getElem?_eq_getElem this]; rfl
theorem BagsM.mlt {n:Nat} {ms:List Nat} {R:Nat->Nat->Bool} (b:BagsM n ms R) {v:Nat} (h:v < n):ms.getD v 0 < 2 ^ 10:=b.lt _ (List.mem_of_getElem? (b.get h))
theorem a2G {m k:Nat} (h:∀ u,m.testBit u = true->u < k):m < 2 ^ k:=Nat.lt_pow_two_of_testBit m λ i hi=>by
 cases e:m.testBit i with
 | false=>rfl
 | true=>have:=h i e; omega
def a4Z (v:Nat) (R:Nat->Nat->Bool):Nat->Nat->Bool:=λ x u=>if x = v then false else if R x v = true then (R x u || R v u) && !decide (u = v) else R x u
def a6I (v:Nat) (ms:List Nat):List Nat:=(ms.map λ m=>if m &&& 2 ^ v = 0 then m else (m ||| ms.getD v 0) - 2 ^ v).set v 0
theorem b5I {n:Nat} {ms:List Nat} {R:Nat->Nat->Bool} {v:Nat} (b:BagsM n ms R) (hv:v < n):BagsM n (a6I v ms) (a4Z v R):=by
 have far:∀ x u,a4Z v R x u = true->x < n/\u < n:=λ x u h=>by
  unfold a4Z at h
  split at h
  ·cases h
  ·split at h
   ·rename_i c
    rw [Bool.and_eq_true,Bool.or_eq_true] at h
    rcases h.1 with z | z
    ·exact b.far _ _ z
    ·exact ⟨(b.far _ _ c).1,(b.far _ _ z).2⟩
   ·exact b.far _ _ h
 have bit:∀ x < n,∀ u,((a6I v ms).getD x 0).testBit u = a4Z v R x u:=λ x hx u=>by
  unfold a6I a4Z
  by_cases c:x = v
  ·subst c
   rw [if_pos rfl,τα,List.getElem?_set_self (by rw [List.length_map,b.len]; exact hx)]
   simp
  ·rw [if_neg c,τα,List.getElem?_set_ne (Ne.symm c),List.getElem?_map,b.get hx]
   simp only [Option.map_some,Option.getD_some]
   have ab:=a8C (ms.getD x 0) v
   rw [b.bit x hx] at ab
   by_cases d:R x v = true
   ·rw [if_pos d,if_neg (λ z=>by rw [ab.mp z] at d; cases d)]
    have ht:(ms.getD x 0 ||| ms.getD v 0).testBit v = true:=by rw [Nat.testBit_or,b.bit x hx,d]; rfl
    rw [a4Y ht,Nat.testBit_or,b.bit x hx,b.bit v hv]
   ·rw [if_neg d,if_pos (ab.mpr (by simpa using d)),b.bit x hx]
 refine ⟨by unfold a6I; rw [List.length_set,List.length_map]; exact b.len,b.n10,λ m hm=>?_,bit,far⟩
 obtain ⟨j,hj,ej⟩:=List.getElem_of_mem hm
 have jn:j < n:=by
  unfold a6I at hj
  rw [List.length_set,List.length_map,b.len] at hj
  exact hj
 have e:(a6I v ms).getD j 0 = m:=by rw [τα,List.getElem?_eq_getElem hj,ej]; rfl
 refine a2G λ u hu=>?_
 rw [<- e,bit j jn] at hu
 have:=far j u hu
 have:=b.n10
 omega
theorem a3W {n:Nat} {ms:List Nat} {R:Nat->Nat->Bool} {v:Nat} (b:BagsM n ms R) (hv:v < n):a0X (ms.getD v 0) = (List.range n).filter (R v ·):=by
 unfold a0X
 have hn:=b.n10
 obtain ⟨d,ed⟩:∃ d,10 = n + d:=⟨10 - n,by omega⟩
 rw [ed,List.range_add,List.filter_append]
 have e1:((List.range d).map (λ x=>n + x)).filter ((ms.getD v 0).testBit ·) = []:=by
  rw [List.filter_eq_nil_iff]
  intro x hx hb
  obtain ⟨y,_,rfl⟩:=List.mem_map.mp hx
  rw [b.bit v hv] at hb
  have:=(b.far _ _ hb).2
  omega
 rw [e1,List.append_nil]
 exact List.filter_congr λ u _=>b.bit v hv u
def a2Q (n:Nat) (ts:List ζζ):Nat->Nat->Bool:=λ v u=>decide (v < n/\u < n) && (decide (u = v) || decide (((v:Int),(u:Int)) ∈ ts) || decide (((u:Int),(v:Int)) ∈ ts))
end L2
namespace L2
open PySem PySem.Spec PyProof.Rows
def c7M:R2:=λ x y H Q=>∃ l k xs,x = .ref l/\y = .int k/\H l = some (.lst xs) /\ -(2 ^ 63) <= k/\k < 2 ^ 63/\xs.length * k.toNat <= 1000/\∀ p H',New H p (.lst (List.replicate k.toNat xs).flatten) H'->Q (.ref p) H'
theorem c2F {X:Cx}:OpR X (binaryOp .Mult) c7M:=op_rep.weak λ x y H Q ⟨l,k,xs,e1,e2,h,a,b,z,q⟩=>⟨l,k,xs,e1,e2,h,a,b,Nat.le_of_lt (a0W z),λ p hp=>q p _ (New.mk0 hp)⟩
theorem c2G {α:Type} (x:α) (k:Nat):(List.replicate k [x]).flatten = List.replicate k x:=by
 induction k with
 | zero=>rfl
 | succ k ih=>rw [List.replicate_succ,List.flatten_cons,ih,List.replicate_succ]; rfl
def rowT (n:Nat) (f:Nat->Bool):List V:=(List.range n).map λ j=>V.bl (f j)
theorem b8N (n:Nat) (f:Nat->Bool):(rowT n f).length = n:=by unfold rowT; simp
theorem c2H {n:Nat} {f:Nat->Bool} {j:Nat} (h:j < n):atI (rowT n f) (j:Int) = some (.bl (f j)):=a1F (by
 unfold rowT
 rw [List.getElem?_map,List.getElem?_range h]; rfl)
theorem b8O {n:Nat} {f:Nat->Bool} {j:Nat} {b:Bool}:(rowT n f).set j (.bl b) = rowT n (λ k=>if k = j then b else f k):=by
 unfold rowT
 apply List.ext_getElem?
 intro i
 rw [List.getElem?_set]
 by_cases c:i < n
 ·rw [List.length_map,List.length_range,List.getElem?_map,List.getElem?_map,List.getElem?_range c]
  by_cases d:j = i
  ·subst d; simp [c]
  ·rw [if_neg d]
   simp [show ¬ i = j from λ z=>d z.symm]
 ·rw [List.length_map,List.length_range,List.getElem?_map,List.getElem?_map,List.getElem?_eq_none (by simpa using c)]
  split
  ·split
   ·omega
   ·rfl
  ·rfl
theorem b3O (n:Nat) (b:Bool):List.replicate n (V.bl b) = rowT n (λ _=>b):=by
 unfold rowT
 rw [List.map_const',List.length_range]
theorem a7I {n:Nat} {f g:Nat->Bool} (h:∀ j < n,f j = g j):rowT n f = rowT n g:=by
 unfold rowT
 exact List.map_congr_left λ j hj=>by rw [h j (List.mem_range.mp hj)]
structure TabL (H:Hp) (qs:List Addr) (n:Nat) (T:Nat->Nat->Bool):Prop where
 nd:qs.Nodup
 at_:∀ (j:Nat) q,qs[j]? = some q->H q = some (.lst (rowT n (T j)))
theorem TabL.same {H H':Hp} {qs:List Addr} {n:Nat} {T:Nat->Nat->Bool} (t:TabL H qs n T) (s:∀ q ∈ qs,∀ u,H q = some u->H' q = some u):TabL H' qs n T:=⟨t.nd,λ j q e=>s q (List.mem_of_getElem? e) _ (t.at_ j q e)⟩
theorem TabL.set {H H':Hp} {qs:List Addr} {n:Nat} {T:Nat->Nat->Bool} {i j:Nat} {q:Addr} {b:Bool} (t:TabL H qs n T) (e:qs[i]? = some q) (c:Chg H q (.lst ((rowT n (T i)).set j (.bl b))) H'):TabL H' qs n (λ x y=>if x = i/\y = j then b else T x y) :=
 ⟨t.nd,λ k q' e'=>by
  by_cases z:k = i
  ·subst z
   rw [e] at e'; cases e'
   rw [c.here,b8O]
   congr 2
   exact a7I λ y _=>by simp
  ·refine (c.rest q' λ y=>?_).trans ((t.at_ k q' e').trans ?_)
   ·subst y
    obtain ⟨h1,e1⟩:=List.getElem?_eq_some_iff.mp e
    obtain ⟨h2,e2⟩:=List.getElem?_eq_some_iff.mp e'
    exact z ((List.getElem_inj t.nd).mp (e2.trans e1.symm))
   ·congr 2
    exact a7I λ y _=>by simp [z]⟩
end L2
set_option maxHeartbeats 1000000
namespace Sm
open PySem
def b5J (xs:Array Nat) (j k:Nat):Prop:=k <= xs.size/\∀ i (h:i < xs.size),xs[i] < j ↔ i < k
theorem b8P {xs:Array Nat} (h:xs.toList.Pairwise (· < ·)) {i k:Nat} (hi:i < xs.size) (hk:k < xs.size) (ik:i < k):xs[i] < xs[k]:=by
 have:=List.pairwise_iff_getElem.mp h i k (by simpa using hi) (by simpa using hk) ik
 simpa using this
theorem c7N {xs:Array Nat} {j:Nat} (h:xs.toList.Pairwise (· < ·)):∀ (fuel lo hi:Nat),hi - lo <= fuel->lo <= hi->hi <= xs.size ->
  (∀ i (z:i < xs.size),i < lo->xs[i] < j)->(∀ i (z:i < xs.size),hi <= i->j <= xs[i])->b5J xs j (SetTable.below.go xs j fuel lo hi):=by
 intro fuel
 induction fuel with
 | zero =>
  intro lo hi a b c d e
  unfold SetTable.below.go
  have:lo = hi:=by omega
  subst this
  exact ⟨c,λ i z=>⟨λ q=>by
   rcases Nat.lt_or_ge i lo with g | g
   ·exact g
   ·have:=e i z g
    omega,λ q=>d i z q⟩⟩
 | succ f ih =>
  intro lo hi a b c d e
  unfold SetTable.below.go
  by_cases q:lo < hi
  ·rw [if_pos q]
   dsimp only
   have m1:lo <= (lo + hi) / 2:=by omega
   have m2:(lo + hi) / 2 < hi:=by omega
   have m3:(lo + hi) / 2 < xs.size:=by omega
   have ge:xs.getD ((lo + hi) / 2) j = xs[(lo + hi) / 2]:=by simp [Array.getD,m3]
   rw [ge]
   by_cases r:xs[(lo + hi) / 2] < j
   ·rw [if_pos r]
    refine ih _ _ (by omega) (by omega) c (λ i z hi'=>?_) e
    rcases Nat.lt_or_ge i ((lo + hi) / 2) with g | g
    ·have:=b8P h z m3 g
     omega
    ·have:i = (lo + hi) / 2:=by omega
     subst this
     exact r
   ·rw [if_neg r]
    refine ih _ _ (by omega) (by omega) (by omega) d (λ i z hi'=>?_)
    rcases Nat.lt_or_ge ((lo + hi) / 2) i with g | g
    ·have:=b8P h m3 z g
     omega
    ·have:i = (lo + hi) / 2:=by omega
     subst this
     omega
  ·rw [if_neg q]
   have:lo = hi:=by omega
   subst this
   exact ⟨c,λ i z=>⟨λ q=>by
    rcases Nat.lt_or_ge i lo with g | g
    ·exact g
    ·have:=e i z g
     omega,λ q=>d i z q⟩⟩
theorem a5X {xs:Array Nat} (h:xs.toList.Pairwise (· < ·)) (j:Nat):b5J xs j (SetTable.below xs j) :=
 c7N h _ _ _ (by omega) (Nat.zero_le _) (Nat.le_refl _) (λ i z q=>absurd q (Nat.not_lt_zero _)) (λ i z q=>absurd z (by omega))
theorem b8Q {xs:Array Nat} (h:xs.toList.Pairwise (· < ·)) {k:Nat} (hk:k < xs.size):SetTable.below xs (xs[k]) = k:=by
 obtain ⟨a,b⟩:=a5X h xs[k]
 rcases Nat.lt_trichotomy (SetTable.below xs xs[k]) k with g | g | g
 ·have c:=(b (SetTable.below xs xs[k]) (by omega)).mp (b8P h (by omega) hk g)
  omega
 ·exact g
 ·have c:=(b k hk).mpr g
  omega
theorem b3P {xs:Array Nat} (h:xs.toList.Pairwise (· < ·)):SetTable.below xs 0 = 0:=by
 obtain ⟨a,b⟩:=a5X h 0
 rcases Nat.eq_zero_or_pos (SetTable.below xs 0) with g | g
 ·exact g
 ·have:=(b 0 (by omega)).mpr g
  omega
theorem b3Q {xs:Array Nat} (h:xs.toList.Pairwise (· < ·)) {k:Nat} (hk:k < xs.size):SetTable.below xs (xs[k] + 1) = k + 1:=by
 obtain ⟨a,b⟩:=a5X h (xs[k] + 1)
 have c:=(b k hk).mp (by omega)
 rcases Nat.lt_or_ge (k + 1) (SetTable.below xs (xs[k] + 1)) with g | g
 ·have e:=(b (k + 1) (by omega)).mpr g
  have:=b8P h hk (show k + 1 < xs.size by omega) (Nat.lt_succ_self _)
  omega
 ·omega
theorem b5K (j:Nat):SetTable.has #[] j = false:=by
 unfold SetTable.has
 simp
theorem a5A {t:SetTable} (dm:t.dummies = #[]) {j:Nat} (h:j ∉ t.place.toList):t.slot j = .empty:=by
 unfold SetTable.slot
 have e:(t.place[SetTable.below t.place j]? == some j) = false:=by
  rw [beq_eq_false_iff_ne]
  intro c
  exact h (by simpa using Array.mem_of_getElem? c)
 dsimp only
 rw [e,dm,b5K]
 rfl
theorem b5L {t:SetTable} (up:t.place.toList.Pairwise (· < ·)) {j:Nat} (h:j ∈ t.place.toList):∃ i,t.slot j = .live i:=by
 obtain ⟨k,hk,e⟩:=List.getElem_of_mem h
 have hk':k < t.place.size:=by simpa using hk
 have e':t.place[k] = j:=by simpa using e
 unfold SetTable.slot
 have q:SetTable.below t.place j = k:=by rw [<- e']; exact b8Q up hk'
 dsimp only
 rw [q]
 have:(t.place[k]? == some j) = true:=by simp [hk',e']
 rw [this]
 exact ⟨k,rfl⟩
def adv (mask:Nat) (p:SetTable.Probe):SetTable.Probe :=
 if 0 < p.more then { p with more:=p.more - 1,j:=p.j + 1 } else
 { p with j:=(SetTable.leap mask p.i p.perturb).1,more:=SetTable.runEnd mask (SetTable.leap mask p.i p.perturb).1 - (SetTable.leap mask p.i p.perturb).1,i:=(SetTable.leap mask p.i p.perturb).1,perturb:=(SetTable.leap mask p.i p.perturb).2 }
theorem c5F (t:SetTable) (p:SetTable.Probe):t.advance p = adv t.mask p:=by
 unfold SetTable.advance adv
 rfl
def nth (mask:Nat) (p:SetTable.Probe):Nat->SetTable.Probe
 | 0=>p
 | k + 1=>nth mask (adv mask p) k
theorem b5M (m:Nat) (p:SetTable.Probe):(adv m p).dummy = p.dummy:=by
 unfold adv
 split <;> rfl
theorem b8R {t:SetTable} (dm:t.dummies = #[]) (up:t.place.toList.Pairwise (· < ·)) (h:Int):∀ (k fuel:Nat) (p:SetTable.Probe),k < fuel->p.dummy = none->(nth t.mask p k).j ∉ t.place.toList ->
  ∃ j,j ∉ t.place.toList/\SetTable.probe.go t (λ _=>h + 1) h fuel p = some (.empty j none):=by
 intro k
 induction k with
 | zero =>
  intro fuel p hf hd hn
  obtain ⟨f,rfl⟩:∃ f,fuel = f + 1:=⟨fuel - 1,by omega⟩
  unfold SetTable.probe.go
  have hn':p.j ∉ t.place.toList:=hn
  refine ⟨p.j,hn',?_⟩
  rw [a5A dm hn',hd]
 | succ k ih =>
  intro fuel p hf hd hn
  obtain ⟨f,rfl⟩:∃ f,fuel = f + 1:=⟨fuel - 1,by omega⟩
  unfold SetTable.probe.go
  by_cases c:p.j ∈ t.place.toList
  ·obtain ⟨i,e⟩:=b5L up c
   rw [e]
   dsimp only
   have:(h + 1 == h) = false:=by rw [beq_eq_false_iff_ne]; omega
   rw [this]
   rw [c5F]
   exact ih f (adv t.mask p) (by omega) (by rw [b5M]; exact hd) hn
  ·rw [a5A dm c,hd]
   exact ⟨p.j,c,rfl⟩
def b5N (v:Nat):SetTable.Probe:={ j:=v % 8,more:=0,i:=v % 8,perturb:=v,dummy:=none }
theorem c7O:∀ v,v < 16->∀ j,j < 8->∃ k,k < 16/\(nth 7 (b5N v) k).j = j:=by decide +kernel
theorem b1B {v:Nat} (h:v < 16):SetTable.bits (v:Int) = v:=by
 unfold SetTable.bits
 omega
theorem c2I {t:SetTable} (dm:t.dummies = #[]) (up:t.place.toList.Pairwise (· < ·)) {v k:Nat} (hk:k < 10 * SetTable.turns t.mask) (hn:(nth t.mask (t.probeStart (v:Int)) k).j ∉ t.place.toList) :
  ∃ j,j ∉ t.place.toList/\t.freeSlot (v:Int) = some (j,false):=by
 obtain ⟨j,hj,e⟩:=b8R dm up (v:Int) k (10 * SetTable.turns t.mask) (t.probeStart (v:Int)) hk rfl hn
 refine ⟨j,hj,?_⟩
 unfold SetTable.freeSlot SetTable.probe
 rw [e]
 rfl
theorem b5O:∀ (l m:List Nat),l.Nodup->(∀ x ∈ l,x ∈ m)->l.length <= m.length
 | [],_,_,_=>Nat.zero_le _
 | a :: r,m,nd,h=>by
  have am:a ∈ m:=h a List.mem_cons_self
  obtain ⟨n1,n2⟩:=List.nodup_cons.mp nd
  have q:=b5O r (m.erase a) n2 λ x hx=>(List.mem_erase_of_ne (λ e=>n1 (by rw [<- e]; exact hx))).mpr (h x (List.mem_cons_of_mem _ hx))
  rw [List.length_erase_of_mem am] at q
  have:=List.length_pos_of_mem am
  rw [List.length_cons]
  omega
theorem c5G {l:List Nat} (h:l.length <= 4):∃ j,j < 8/\j ∉ l:=by
 apply Classical.byContradiction
 intro c
 have q:∀ j,j < 8->j ∈ l:=λ j hj=>Classical.byContradiction λ d=>c ⟨j,hj,d⟩
 have:=b5O (List.range 8) l List.nodup_range (λ j hj=>q j (List.mem_range.mp hj))
 rw [List.length_range] at this
 omega
theorem b8S {t:SetTable} (dm:t.dummies = #[]) {v:Nat} (hv:v < 16) (hm:15 <= t.mask) (hn:v ∉ t.place.toList):t.freeSlot (v:Int) = some (v,false):=by
 unfold SetTable.freeSlot SetTable.probe
 have e:(t.probeStart (v:Int)).j = v:=by
  unfold SetTable.probeStart
  dsimp only
  rw [b1B hv]
  exact Nat.mod_eq_of_lt (by omega)
 obtain ⟨f,hf⟩:∃ f,10 * SetTable.turns t.mask = f + 1:=⟨10 * SetTable.turns t.mask - 1,by unfold SetTable.turns; omega⟩
 rw [hf]
 unfold SetTable.probe.go
 rw [e,a5A dm hn]
 rfl
def Es (es:Array (Int × Value)) (L:List Nat):Prop:=Paired (λ e v=>e.1 = ((v:Nat):Int)/\∃ tk,e.2 = Value.int ((v:Nat):Int) tk) es.toList L
structure Tb (B:Bool) (t:SetTable) (L:List Nat):Prop where
 dm:t.dummies = #[]
 pl:t.plain = true
 led:t.led = !B
 up:t.place.toList.Pairwise (· < ·)
 sz:t.place.size = L.length
 nd:L.Nodup
 lt:∀ v ∈ L,v < 16
 sh:(t.mask = 7/\L.length <= 4)\/(15 <= t.mask/\t.place.toList = L/\L.length * 5 < t.mask * 3)
theorem c5H {xs:Array Nat} (up:xs.toList.Pairwise (· < ·)) {j:Nat} (h:j ∉ xs.toList):(SetTable.insertAt xs (SetTable.below xs j) j).toList.Pairwise (· < ·):=by
 obtain ⟨a,b⟩:=a5X up j
 rw [SetTable.toList_insertAt]
 have z:∀ i (hi:i < xs.toList.length),xs.toList[i] < j ↔ i < SetTable.below xs j:=λ i hi=>by
  have:=b i (by simpa using hi)
  simpa using this
 rw [List.pairwise_append]
 refine ⟨up.sublist (List.take_sublist _ _),?_,?_⟩
 ·rw [List.pairwise_cons]
  refine ⟨λ y hy=>?_,up.sublist (List.drop_sublist _ _)⟩
  obtain ⟨i,hi,e⟩:=List.getElem_of_mem hy
  rw [List.getElem_drop] at e
  have hl:SetTable.below xs j + i < xs.toList.length:=by rw [List.length_drop] at hi; omega
  have q:=z _ hl
  rw [e] at q
  have ne:y ≠ j:=λ c=>h (by rw [<- c,<- e]; exact List.getElem_mem hl)
  rcases Nat.lt_or_ge y j with g | g
  ·have:=q.mp g
   omega
  ·omega
 ·intro x hx y hy
  obtain ⟨i,hi,e⟩:=List.getElem_of_mem hx
  rw [List.getElem_take] at e
  have hl:i < xs.toList.length:=by rw [List.length_take] at hi; omega
  have hb:i < SetTable.below xs j:=by rw [List.length_take] at hi; omega
  have x1:x < j:=by rw [<- e]; exact (z i hl).mpr hb
  rcases List.mem_cons.mp hy with rfl | hy
  ·exact x1
  ·obtain ⟨k,hk,e2⟩:=List.getElem_of_mem hy
   rw [List.getElem_drop] at e2
   have hl2:SetTable.below xs j + k < xs.toList.length:=by rw [List.length_drop] at hk; omega
   have q:=z _ hl2
   rw [e2] at q
   rcases Nat.lt_or_ge y j with g | g
   ·have:=q.mp g
    omega
   ·omega
theorem Es.len {es:Array (Int × Value)} {L:List Nat} (h:Es es L):es.size = L.length:=by
 have:=Paired.length h
 simpa using this
theorem a6J {α β:Type} {R:α->β->Prop}:∀ {xs:List α} {ys:List β} (n:Nat),Paired R xs ys->Paired R (xs.take n) (ys.take n)
 | _,_,0,_=>.nil
 | _,_,_ + 1,.nil=>.nil
 | _,_,n + 1,.cons r t=>.cons r (a6J n t)
theorem a6K {α β:Type} {R:α->β->Prop}:∀ {xs:List α} {ys:List β} (n:Nat),Paired R xs ys->Paired R (xs.drop n) (ys.drop n)
 | _,_,0,r=>r
 | _,_,_ + 1,.nil=>.nil
 | _,_,n + 1,.cons _ t=>a6K n t
theorem a2S {α β:Type} {R:α->β->Prop}:∀ {xs xs':List α} {ys ys':List β},Paired R xs ys->Paired R xs' ys'->Paired R (xs ++ xs') (ys ++ ys')
 | _,_,_,_,.nil,s=>s
 | _,_,_,_,.cons r t,s=>.cons r (a2S t s)
theorem a0V {α β:Type} {R:α->β->Prop}:∀ {xs:List α} {ys:List β},Paired R xs ys->∀ (i:Nat) (h:i < ys.length),∃ x,xs[i]? = some x/\R x ys[i]
 | _,_,.nil,i,h=>by simp at h
 | _,_,.cons r t,0,h=>⟨_,rfl,r⟩
 | _,_,.cons r t,i + 1,h=>by
  obtain ⟨x,e,q⟩:=a0V t i (by simpa using h)
  exact ⟨x,by simpa using e,by simpa using q⟩
theorem c5I {B:Bool} {t:SetTable} {L:List Nat} {es:Array (Int × Value)} {v:Nat} {x:Value} (T:Tb B t L) (hE:Es es L) (hv:v < 16) (hn:v ∉ L) (hx:∃ tk,x = Value.int ((v:Nat):Int) tk) :
  ∃ t1 es1 p,layNew t es ((v:Nat):Int) x = (es1,t1,false,false)/\Es es1 (L.take p ++ v :: L.drop p)/\t1.dummies = #[]/\t1.plain = true/\(t1.led = !B)/\t1.mask = t.mask/\t1.finger = t.finger/\t1.moves = t.moves /\
   t1.place.toList.Pairwise (· < ·)/\t1.place.size = L.length + 1/\(15 <= t.mask->t1.place.toList = L.take p ++ v :: L.drop p):=by
 have main:∃ j,j ∉ t.place.toList/\t.freeSlot ((v:Nat):Int) = some (j,false)/\(15 <= t.mask->j = v):=by
  rcases T.sh with ⟨m7,l4⟩ | ⟨m15,pe,fl⟩
  ·have lp:t.place.toList.length <= 4:=by rw [Array.length_toList,T.sz]; exact l4
   obtain ⟨j,hj,nj⟩:=c5G lp
   obtain ⟨k,hk,e⟩:=c7O v hv j hj
   have st:t.probeStart ((v:Nat):Int) = b5N v:=by
    unfold SetTable.probeStart b5N
    rw [b1B hv,m7]
    unfold SetTable.runEnd
    have:¬ v % (7 + 1) + 9 <= 7:=by omega
    simp only [if_neg this]
    simp
   obtain ⟨j',hj',e'⟩:=c2I (v:=v) (k:=k) T.dm T.up (by unfold SetTable.turns; omega) (by rw [st,m7,e]; exact nj)
   exact ⟨j',hj',e',λ c=>by omega⟩
  ·have nv:v ∉ t.place.toList:=by rw [pe]; exact hn
   exact ⟨v,nv,b8S T.dm hv m15 nv,λ _=>rfl⟩
 obtain ⟨j,nj,ef,ej⟩:=main
 have sz1:(SetTable.insertAt t.place (SetTable.below t.place j) j).size = L.length + 1:=by
  have:=congrArg List.length (SetTable.toList_insertAt t.place (SetTable.below t.place j) j)
  rw [Array.length_toList] at this
  rw [this,List.length_append,List.length_cons,List.length_take,List.length_drop,Array.length_toList,T.sz]
  omega
 have es1:(SetTable.insertAt es (SetTable.below t.place j) (((v:Nat):Int),x)).size = L.length + 1:=by
  have:=congrArg List.length (SetTable.toList_insertAt es (SetTable.below t.place j) (((v:Nat):Int),x))
  rw [Array.length_toList] at this
  rw [this,List.length_append,List.length_cons,List.length_take,List.length_drop,Array.length_toList,hE.len]
  omega
 have mk:L.length + 1 <= t.mask:=by
  rcases T.sh with ⟨m7,l4⟩ | ⟨m15,pe,fl⟩ <;> omega
 refine ⟨{ t with place:=SetTable.insertAt t.place (SetTable.below t.place j) j },SetTable.insertAt es (SetTable.below t.place j) (((v:Nat):Int),x),SetTable.below t.place j,?_,?_,T.dm,T.pl,T.led,rfl,rfl,rfl,c5H T.up nj,sz1,?_⟩
 ·unfold layNew
  rw [ef]
  dsimp only
  unfold SetTable.put
  have hd:SetTable.has t.dummies j = false:=by rw [T.dm]; exact b5K j
  dsimp only
  rw [hd]
  have ft:SetTable.fits { t with place:=SetTable.insertAt t.place (SetTable.below t.place j) j } (SetTable.insertAt es (SetTable.below t.place j) (((v:Nat):Int),x)).size = true:=by
   unfold SetTable.fits SetTable.fill
   dsimp only
   rw [sz1,es1,T.dm]
   simp
   omega
  unfold SetTable.orStandIn
  simp only [if_false,Bool.false_eq_true]
  rw [if_pos ft,ft]
  rfl
 ·unfold Es
  rw [SetTable.toList_insertAt]
  exact a2S (a6J _ hE) (.cons ⟨rfl,hx⟩ (a6K _ hE))
 ·intro hm
  dsimp only
  have:=ej hm
  subst this
  rcases T.sh with ⟨m7,l4⟩ | ⟨m15,pe,fl⟩
  ·omega
  ·rw [SetTable.toList_insertAt,pe]
end Sm
set_option maxHeartbeats 1000000
namespace Sm
open PySem
def Owns (m:Nat) (owner:Array (Option Nat)) (L:List Nat):Prop:=owner.size = m + 1/\∀ j,j <= m->owner.getD j none = if j ∈ L then some (L.idxOf j) else none
theorem b8T {m:Nat} {owner:Array (Option Nat)} {L:List Nat} (O:Owns m owner L) {v f:Nat} (hv:v <= m) (hn:v ∉ L):SetTable.layClean.free m owner (f + 1) v v = some v:=by
 unfold SetTable.layClean.free
 obtain ⟨k,hk⟩:∃ k,SetTable.runEnd m v + 1 - v = k + 1:=⟨SetTable.runEnd m v - v,by unfold SetTable.runEnd; split <;> omega⟩
 rw [hk,List.range_succ_eq_map]
 have g:owner.getD (v + 0) (some 0) = none:=by
  have a:=O.2 v hv
  rw [if_neg hn] at a
  have hs:v < owner.size:=by rw [O.1]; omega
  simp [Array.getD,hs] at a ⊢
  exact a
 rw [List.find?_cons_of_pos (by rw [g]; rfl)]
 rfl
theorem b8U {m:Nat} (hm:15 <= m):∀ (R L:List Nat) (owner:Array (Option Nat)),Owns m owner L->(L ++ R).Nodup->(∀ v ∈ R,v < 16) ->
  ∃ owner',Owns m owner' (L ++ R)/\(R.map λ v=>((v:Nat):Int)).foldl (λ (acc:Option (Array (Option Nat) × Nat)) h=>do
   let (owner,k) <- acc
   let j <- SetTable.layClean.free m owner (SetTable.turns m) (SetTable.bits h % (m + 1)) (SetTable.bits h)
   pure (owner.setIfInBounds j (some k),k + 1)) (some (owner,L.length)) = some (owner',(L ++ R).length):=by
 intro R
 induction R with
 | nil=>intro L owner O _ _; exact ⟨owner,by simpa using O,by simp⟩
 | cons v R ih =>
  intro L owner O nd hlt
  have hv:v < 16:=hlt v List.mem_cons_self
  have hn:v ∉ L:=λ c=>by
   have:=List.nodup_append.mp nd
   exact this.2.2 v c v List.mem_cons_self rfl
  have O':Owns m (owner.setIfInBounds v (some L.length)) (L ++ [v]):=by
   refine ⟨by rw [Array.size_setIfInBounds]; exact O.1,λ j hj=>?_⟩
   have hs:v < owner.size:=by rw [O.1]; omega
   have hs':j < owner.size:=by rw [O.1]; omega
   have a:=O.2 j hj
   by_cases e:j = v
   ·subst e
    rw [if_pos (List.mem_append_right _ (List.mem_singleton.mpr rfl)),List.idxOf_append,if_neg hn]
    simp [Array.getD,hs]
   ·have e1:(owner.setIfInBounds v (some L.length)).getD j none = owner.getD j none:=by
     simp only [Array.getD,Array.size_setIfInBounds,hs']
     simp [Array.getElem_setIfInBounds,hs',Ne.symm e]
    rw [e1,a]
    by_cases c:j ∈ L
    ·rw [if_pos c,if_pos (List.mem_append_left _ c),List.idxOf_append,if_pos c]
    ·rw [if_neg c,if_neg]
     intro d
     rcases List.mem_append.mp d with d | d
     ·exact c d
     ·exact e (List.mem_singleton.mp d)
  obtain ⟨o2,O2,e2⟩:=ih (L ++ [v]) _ O' (by simpa using nd) (λ u hu=>hlt u (List.mem_cons_of_mem _ hu))
  refine ⟨o2,by simpa using O2,?_⟩
  rw [List.map_cons,List.foldl_cons]
  have st:(do
   let (owner,k) <- some (owner,L.length)
   let j <- SetTable.layClean.free m owner (SetTable.turns m) (SetTable.bits ((v:Nat):Int) % (m + 1)) (SetTable.bits ((v:Nat):Int))
   pure (owner.setIfInBounds j (some k),k + 1):Option (Array (Option Nat) × Nat)) = some (owner.setIfInBounds v (some L.length),(L ++ [v]).length):=by
   rw [b1B hv,Nat.mod_eq_of_lt (by omega)]
   have:SetTable.turns m = (m + 14) + 1:=rfl
   rw [this]
   show (SetTable.layClean.free m owner (m + 14 + 1) v v).bind _ = _
   rw [b8T O (by omega) hn]
   simp
  rw [st]
  have e3:(L ++ v :: R) = L ++ [v] ++ R:=by simp
  rw [e3]
  exact e2
def upTo (m:Nat) (L:List Nat):List Nat:=(List.range (m + 1)).filter λ j=>decide (j ∈ L)
theorem b1C (m:Nat) (L:List Nat):(upTo m L).Pairwise (· < ·):=List.Pairwise.filter _ List.pairwise_lt_range
theorem a5Y {m:Nat} {L:List Nat} (h:∀ v ∈ L,v <= m) {j:Nat}:j ∈ upTo m L ↔ j ∈ L:=by
 unfold upTo
 rw [List.mem_filter,List.mem_range]
 constructor
 ·rintro ⟨_,b⟩; exact of_decide_eq_true b
 ·intro b; exact ⟨Nat.lt_succ_of_le (h j b),decide_eq_true b⟩
theorem a6L {L:List Nat} (h:L.Pairwise (· < ·)):L.Nodup:=h.imp λ h=>Nat.ne_of_lt h
theorem a4K {m:Nat} {L:List Nat} (h:∀ v ∈ L,v <= m) (nd:L.Nodup):(upTo m L).Perm L :=
 (List.perm_ext_iff_of_nodup (a6L (b1C m L)) nd).mpr λ j=>a5Y h
theorem c2J {L:List Nat} (nd:L.Nodup):L.map (λ v=>L.idxOf v) = List.range L.length:=by
 apply List.ext_getElem
 ·simp
 ·intro i h1 h2
  rw [List.getElem_map,List.getElem_range]
  exact List.Nodup.idxOf_getElem nd i _
theorem c2K {α β:Type} (p:α->Bool) (f:α->β):∀ l:List α,l.filterMap (λ a=>if p a = true then some (f a) else none) = (l.filter p).map f
 | []=>rfl
 | a :: r=>by
  rw [List.filter_cons]
  cases e:p a with
  | true=>rw [List.filterMap_cons_some (b:=f a) (by rw [e]; rfl),c2K p f r]; simp
  | false=>rw [List.filterMap_cons_none (by rw [e]; rfl),c2K p f r]; simp
theorem b2E {α β:Type} {f g:α->Option β}:∀ {l:List α},(∀ a ∈ l,f a = g a)->l.filterMap f = l.filterMap g
 | [],_=>rfl
 | a :: r,h=>by
  have e:=h a List.mem_cons_self
  have q:=b2E (l:=r) λ b hb=>h b (List.mem_cons_of_mem _ hb)
  cases c:f a with
  | none=>rw [List.filterMap_cons_none c,List.filterMap_cons_none (by rw [<- e]; exact c),q]
  | some b=>rw [List.filterMap_cons_some c,List.filterMap_cons_some (by rw [<- e]; exact c),q]
theorem Es.hashes {es:Array (Int × Value)} {L:List Nat} (h:Es es L):(es.map (·.1)).toList = L.map λ v=>((v:Nat):Int):=by
 rw [Array.toList_map]
 unfold Es at h
 generalize es.toList = l at h
 induction h with
 | nil=>rfl
 | cons r _ ih=>rw [List.map_cons,List.map_cons,ih,r.1]
theorem Es.at {es:Array (Int × Value)} {L:List Nat} (h:Es es L) {v:Nat} (hv:v ∈ L):∃ e,es[L.idxOf v]? = some e/\e.1 = ((v:Nat):Int)/\∃ tk,e.2 = Value.int ((v:Nat):Int) tk:=by
 have hi:=List.idxOf_lt_length_of_mem hv
 obtain ⟨x,e,q⟩:=a0V h (L.idxOf v) hi
 rw [List.getElem_idxOf hi] at q
 exact ⟨x,by simpa using e,q⟩
theorem c5J {es:Array (Int × Value)} {L:List Nat} (h:Es es L):∀ S:List Nat,(∀ v ∈ S,v ∈ L)->Paired (λ e v=>e.1 = ((v:Nat):Int)/\∃ tk,e.2 = Value.int ((v:Nat):Int) tk) ((S.map λ v=>L.idxOf v).filterMap λ i=>es[i]?) S
 | [],_=>.nil
 | v :: S,hs=>by
  obtain ⟨e,a,b⟩:=h.at (hs v List.mem_cons_self)
  rw [List.map_cons,List.filterMap_cons_some a]
  exact .cons b (c5J h S λ u hu=>hs u (List.mem_cons_of_mem _ hu))
theorem b1D {es:Array (Int × Value)} {L:List Nat} {m f mv:Nat} {led plain:Bool} (hm:15 <= m) (hE:Es es L) (nd:L.Nodup) (hlt:∀ v ∈ L,v < 16) :
  ∃ order:Array Nat,SetTable.laid m f mv led plain (es.map (·.1)) = some ({ mask:=m,place:=(upTo m L).toArray,dummies:=#[],finger:=f,led:=led,moves:=mv,plain:=plain },order) /\
   Es (order.filterMap (es[·]?)) (upTo m L)/\coversAll order es.size = true:=by
 have hle:∀ v ∈ L,v <= m:=λ v hv=>by have:=hlt v hv; omega
 have O0:Owns m (Array.replicate (m + 1) none) []:=⟨by simp,λ j hj=>by simp [Array.getD]⟩
 obtain ⟨ow,O,e⟩:=b8U hm L [] _ O0 (by simpa using nd) hlt
 rw [List.nil_append] at O e
 have ec:SetTable.layClean m (es.map (·.1)) = some ow:=by
  unfold SetTable.layClean
  rw [<- Array.foldl_toList,hE.hashes]
  have e':=e
  rw [List.length_nil] at e'
  show Option.map _ (List.foldl _ _ _) = _
  refine Eq.trans (congrArg (Option.map (·.1)) (Eq.trans ?_ e')) rfl
  rfl
 have lv:(List.range (m + 1)).filterMap (λ j=>(ow.getD j none).map (λ k=>(j,k))) = (upTo m L).map λ j=>(j,L.idxOf j):=by
  unfold upTo
  rw [<- c2K]
  apply b2E
  intro j hj
  rw [O.2 j (by have:=List.mem_range.mp hj; omega)]
  by_cases c:j ∈ L
  ·simp [c]
  ·simp [c]
 refine ⟨((upTo m L).map λ j=>L.idxOf j).toArray,?_,?_,?_⟩
 ·unfold SetTable.laid
  rw [ec]
  show some _ = some _
  have:(List.range (m + 1)).filterMap (λ j=>(ow.getD j none).map (j,·)) = (upTo m L).map λ j=>(j,L.idxOf j):=lv
  rw [this,List.map_map,List.map_map]
  have i1:((λ (x:Nat × Nat)=>x.1) ∘ λ j=>(j,L.idxOf j)) = λ j=>j:=rfl
  have i2:((λ (x:Nat × Nat)=>x.2) ∘ λ j=>(j,L.idxOf j)) = λ j=>L.idxOf j:=rfl
  rw [i1,i2,List.map_id']
 ·unfold Es
  rw [Array.toList_filterMap]
  exact c5J hE (upTo m L) λ v hv=>(a5Y hle).mp hv
 ·unfold coversAll
  rw [List.isPerm_iff,hE.len]
  have p:=(a4K hle nd).map λ v=>L.idxOf v
  rw [c2J nd] at p
  exact p
theorem b5P {m:Nat} {L:List Nat} (h:∀ v ∈ L,v < 16) (hm:15 <= m) (nd:L.Nodup):(upTo m L).length = L.length:=(a4K (λ v hv=>by have:=h v hv; omega) nd).length_eq
theorem a5J {n:Nat} (h:n < 2 ^ 40):n < SetTable.sizeAbove n:=by
 have go:∀ fuel size,n < size * 2 ^ fuel->n < SetTable.sizeAbove.go n fuel size:=by
  intro fuel
  induction fuel with
  | zero=>intro size h; unfold SetTable.sizeAbove.go; simpa using h
  | succ f ih =>
   intro size h
   unfold SetTable.sizeAbove.go
   split
   ·exact ih _ (by rw [Nat.pow_succ] at h; rw [Nat.mul_assoc,Nat.mul_comm 2]; exact h)
   ·omega
 exact go 64 8 (by omega)
theorem a5K {n:Nat} (h:8 <= n):16 <= SetTable.sizeAbove n:=by
 have go:∀ fuel size,16 <= size->16 <= SetTable.sizeAbove.go n fuel size:=by
  intro fuel
  induction fuel with
  | zero=>intro size h; unfold SetTable.sizeAbove.go; exact h
  | succ f ih =>
   intro size h
   unfold SetTable.sizeAbove.go
   split
   ·exact ih _ (by omega)
   ·exact h
 unfold SetTable.sizeAbove
 unfold SetTable.sizeAbove.go
 rw [if_pos h]
 exact go 63 _ (by omega)
theorem Tb.fits {B:Bool} {t:SetTable} {L:List Nat} (T:Tb B t L):t.fits L.length = true:=by
 unfold SetTable.fits SetTable.fill
 have:=T.sz
 rw [T.dm]
 rcases T.sh with ⟨a,b⟩ | ⟨a,b,c⟩ <;> simp [this] <;> omega
theorem b1E {B:Bool} {L:List Nat} {m f mv:Nat} (hm:15 <= m) (nd:L.Nodup) (hlt:∀ v ∈ L,v < 16) (hr:L.length * 5 < m * 3) :
  Tb B { mask:=m,place:=(upTo m L).toArray,dummies:=#[],finger:=f,led:=!B,moves:=mv,plain:=true } (upTo m L) where
 dm:=rfl
 pl:=rfl
 led:=rfl
 up:=by simpa using b1C m L
 sz:=by simp
 nd:=a6L (b1C m L)
 lt:=λ v hv=>hlt v ((a5Y (λ v hv=>by have:=hlt v hv; omega)).mp hv)
 sh:=.inr ⟨hm,by simp,by rw [b5P hlt hm nd]; exact hr⟩
theorem b8V {B:Bool} {t:SetTable} {es:Array (Int × Value)} {L:List Nat} {n:Nat} (hp:t.plain = true) (hl:t.led = !B) (hE:Es es L) (nd:L.Nodup) (hlt:∀ v ∈ L,v < 16) (hn:8 <= n) (h2:2 * L.length <= n) (hb:n < 2 ^ 40) :
  ∃ es' t' L',relayAll t es n = (es',t',false)/\Es es' L'/\Tb B t' L'/\L'.Perm L:=by
 have a1:=a5J hb
 have a2:=a5K hn
 have hm:15 <= SetTable.sizeAbove n - 1:=by omega
 obtain ⟨order,e,hE',hc⟩:=b1D (f:=t.finger) (mv:=t.movedTo (SetTable.sizeAbove n - 1)) (led:=!B) (plain:=true) hm hE nd hlt
 have T:=b1E (B:=B) (f:=t.finger) (mv:=t.movedTo (SetTable.sizeAbove n - 1)) hm nd hlt (by omega)
 refine ⟨_,_,_,?_,hE',T,a4K (λ v hv=>by have:=hlt v hv; omega) nd⟩
 unfold relayAll SetTable.relaid
 rw [hp,hl,e]
 dsimp only
 have z:=hE'.len
 rw [hc,z,T.fits]
 rfl
end Sm
set_option maxHeartbeats 1000000
namespace Sm
open PySem
abbrev setO (es:Array (Int × Value)) (ep:Nat) (t:SetTable):Obj:={ cls:=.type "set", dict:=none,data:=.set es ep t,slots:=#[] }
def SetAt (B:Bool) (h:Heap) (a:Addr) (L:List Nat):Prop:=∃ es ep t,h.get? a = some (setO es ep t)/\Es es L/\Tb B t L
def Dense (h:Heap) (a:Addr):Prop:=∃ es ep t,h.get? a = some (setO es ep t)/\(t.mask = 7\/5 <= es.size)
theorem Dense.keep {h h':Heap} {a:Addr} (S:Dense h a) (k:∀ o,h.get? a = some o->h'.get? a = some o):Dense h' a :=
 let ⟨es,ep,t,ho,r⟩:=S; ⟨es,ep,t,k _ ho,r⟩
theorem SetAt.keep {B:Bool} {h h':Heap} {a:Addr} {L:List Nat} (S:SetAt B h a L) (k:∀ o,h.get? a = some o->h'.get? a = some o):SetAt B h' a L :=
 let ⟨es,ep,t,ho,r⟩:=S; ⟨es,ep,t,k _ ho,r⟩
theorem Tb.len {B:Bool} {t:SetTable} {L:List Nat} (T:Tb B t L):L.length <= 16:=by
 have:=b5O L (List.range 16) T.nd λ x hx=>List.mem_range.mpr (T.lt x hx)
 simpa using this
theorem b5Q:∀ v:Nat,v < 16->hashInt ((v:Nat):Int) = ((v:Nat):Int):=by decide +kernel
theorem Es.elems {prog:Program} {w:World} {es:Array (Int × Value)} {L:List Nat} (h:Es es L) (lt:∀ v ∈ L,v < 16):ElemsOf (intKind prog w) es.toList:=by
 unfold Es at h
 generalize es.toList = l at h
 induction h with
 | nil=>intro e he; simp at he
 | @cons x y xs ys r _ ih =>
  intro e he
  rcases List.mem_cons.mp he with rfl | he
  ·obtain ⟨tk,e2⟩:=r.2
   refine ⟨⟨((y:Nat):Int),?_,?_⟩,?_⟩
   ·show Value.isInt _ _ = true
    rw [e2]; simp [Value.isInt]
   ·rw [r.1]; exact (b5Q y (lt y List.mem_cons_self)).symm
   ·rw [e2]; rfl
  ·exact ih (λ v hv=>lt v (List.mem_cons_of_mem _ hv)) e he
theorem Es.find {es:Array (Int × Value)} {L:List Nat} (h:Es es L) (v:Nat):(es.toList.findIdx? λ e=>Value.isInt ((v:Nat):Int) e.2).isSome = decide (v ∈ L):=by
 unfold Es at h
 generalize es.toList = l at h
 induction h with
 | nil=>simp
 | @cons x y xs ys r _ ih =>
  obtain ⟨tk,e2⟩:=r.2
  rw [List.findIdx?_cons,e2]
  by_cases c:v = y
  ·subst c; simp [Value.isInt]
  ·have:Value.isInt ((v:Nat):Int) (.int ((y:Nat):Int) tk) = false:=by simp [Value.isInt]; omega
   rw [this]
   simp only [Bool.false_eq_true,if_false,Option.isSome_map]
   rw [ih]
   simp [c]
section
variable {prog:Program} {w:World} {A:Around} {E:Value->Shared->Prop} {s:Shared} {B:Bool} {a:Addr} {L:List Nat}
theorem c2L {es:Array (Int × Value)} {ep:Nat} {t:SetTable} {v tk:Nat} {ad:Bool} {Q:ScanMet->Shared->Prop} (ho:s.heap.get? a = some (setO es ep t)) (hE:Es es L) (T:Tb B t L) (hv:v < 16)
  (h1:v ∈ L->∀ j,Q (.found j) s) (h2:v ∉ L->Q .absent s):wpAny (model prog w) A (setScan a (.int ((v:Nat):Int) tk) ((v:Nat):Int) ad es) Q E s:=by
 have hf:t.fits es.size = true:=by rw [hE.len]; exact T.fits
 have sc:=wpAny_setScan_of (prog:=prog) (w:=w) (A:=A) (E:=E) (s:=s) (knd:=intKind prog w) (k:=((v:Nat):Int)) (x:=.int ((v:Nat):Int) tk) (adding:=ad) (Q:=Q) (by simp [intKind,Value.isInt]) ho rfl hf (hE.elems T.lt) (by
  have q:=hE.find v
  have e:(λ e:Int × Value=>(intKind prog w).is ((v:Nat):Int) e.2) = λ e=>Value.isInt ((v:Nat):Int) e.2:=rfl
  rw [e]
  cases c:es.toList.findIdx? (λ e=>Value.isInt ((v:Nat):Int) e.2) with
  | none=>rw [c] at q; exact h2 (of_decide_eq_false q.symm)
  | some j=>rw [c] at q; exact h1 (of_decide_eq_true q.symm) _)
 have e:(intKind prog w).hash ((v:Nat):Int) = ((v:Nat):Int):=b5Q v hv
 rw [e] at sc
 exact sc
theorem a5B {h:Heap} {es es':Array (Int × Value)} {ep:Nat} {t t':SetTable} (ho:h.get? a = some (setO es ep t)):(h.update a (Obj.putSet es' t')).get? a = some (setO es' (ep + 1) t'):=by
 have:=Heap.get?_update_self (Obj.putSet es' t') ho (by rw [putSet_of es' t' rfl]; rfl)
 rw [putSet_of es' t' rfl] at this
 exact this
theorem c2M (prog:Program) (w:World) {es:Array (Int × Value)} {t:SetTable} {v tk:Nat} (hE:Es es L) (T:Tb B t L):byScan (.int ((v:Nat):Int) tk) es = true :=
 byScan_of (knd:=intKind prog w) rfl (by rw [hE.len]; have:=T.len; unfold scanBound; omega) (hE.elems T.lt)
theorem c0W {v tk:Nat} {Q:Bool->Shared->Prop} (S:SetAt B s.heap a L) (hv:v < 16)
  (h:∀ b h' L',Heap.SameBut a s.heap h'->SetAt B h' a L'->(∀ u,u ∈ L' ↔ u = v\/u ∈ L)->(Dense s.heap a->Dense h' a)->Q b { s with heap:=h' }) :
  wpAny (model prog w) A (setAddHashed a (.int ((v:Nat):Int) tk) ((v:Nat):Int)) Q E s:=by
 obtain ⟨es,ep,t,ho,hE,T⟩:=S
 have hf:t.fits es.size = true:=by rw [hE.len]; exact T.fits
 unfold setAddHashed setAddHashedIn
 refine wpAny_holding (wpAny_bind (wpAny_setState_of ho rfl hf ?_))
 dsimp only
 rw [c2M prog w hE T]
 simp only [↓reduceIte]
 unfold setAddByScan
 refine wpAny_bind ?_
 refine wpAny_bind (wpAny_rule ?_)
 refine wpAny_bind (c2L ho hE T hv (λ hm j=>?_) λ hm=>?_)
 ·dsimp only
  refine wpAny_pure (wpAny_pure ?_)
  have q:=h false s.heap L (Heap.SameBut.refl a s.heap) ⟨es,ep,t,ho,hE,T⟩ (λ u=>⟨.inr,λ c=>c.elim (λ e=>e ▸ hm) id⟩) id
  exact q
 ·dsimp only
  obtain ⟨t1,es1,p,e1,hE1,dm,pl,ld,mk,_,_,up,sz,own⟩:=c5I (x:=.int ((v:Nat):Int) tk) T hE hv hm ⟨tk,rfl⟩
  rw [e1]
  dsimp only
  refine wpAny_bind (wpAny_pure ?_)
  rw [pl]
  refine wpAny_bind (wpAny_pure ?_)
  simp only [↓reduceIte]
  have mem:∀ u,u ∈ L.take p ++ v :: L.drop p ↔ u = v\/u ∈ L:=λ u=>by
   rw [List.mem_append,List.mem_cons]
   have e:u ∈ L ↔ u ∈ L.take p\/u ∈ L.drop p:=by rw [<- List.mem_append,List.take_append_drop]
   rw [e]
   constructor
   ·rintro (c | c | c)
    ·exact .inr (.inl c)
    ·exact .inl c
    ·exact .inr (.inr c)
   ·rintro (c | c | c)
    ·exact .inr (.inl c)
    ·exact .inl c
    ·exact .inr (.inr c)
  have nd1:(L.take p ++ v :: L.drop p).Nodup:=by
   have pm:(L.take p ++ v :: L.drop p).Perm (v :: L):=by
    have:L.take p ++ L.drop p = L:=List.take_append_drop p L
    exact List.perm_middle.trans (by rw [this])
   exact pm.nodup_iff.mpr (List.nodup_cons.mpr ⟨hm,T.nd⟩)
  have lt1:∀ u ∈ L.take p ++ v :: L.drop p,u < 16:=λ u hu=>((mem u).mp hu).elim (λ e=>e ▸ hv) (T.lt u)
  have ln1:(L.take p ++ v :: L.drop p).length = L.length + 1:=by
   rw [List.length_append,List.length_cons,List.length_take,List.length_drop]; omega
  have fl:t1.fill = L.length + 1:=by unfold SetTable.fill; rw [dm,sz]; rfl
  have l16:=T.len
  have z1:es1.size = L.length + 1:=by rw [hE1.len,ln1]
  refine wpAny_bind (wpAny_storeSet_of ho rfl ?_ (by rw [z1,sizeLine_eq]; omega))
  have ho1:=a5B (es':=es1) (t':=t1) ho
  cases tf:t1.tooFull with
  | false =>
   simp only [Bool.not_false,Bool.and_false,Bool.false_eq_true,if_false]
   refine wpAny_pure (wpAny_pure ?_)
   refine h true _ _ (Heap.SameBut.update ..) ⟨es1,ep + 1,t1,ho1,hE1,⟨dm,pl,ld,up,by rw [ln1,sz],nd1,lt1,?_⟩⟩ mem (λ ⟨es0,ep0,t0,ho0,d⟩=>⟨es1,ep + 1,t1,ho1,by
    rw [ho] at ho0; cases ho0
    rw [mk,z1]; have:=hE.len; omega⟩)
   unfold SetTable.tooFull at tf
   have tf':=of_decide_eq_false tf
   rw [fl,mk] at tf'
   rw [ln1,mk]
   rcases T.sh with ⟨m7,l4⟩ | ⟨m15,pe,_⟩
   ·refine .inl ⟨m7,by omega⟩
   ·exact .inr ⟨m15,own m15,by omega⟩
  | true =>
   simp only [Bool.not_false,Bool.and_self,if_true]
   unfold SetTable.tooFull at tf
   have tf':=of_decide_eq_true tf
   rw [fl,mk] at tf'
   have five:5 <= L.length + 1:=by
    rcases T.sh with ⟨m7,l4⟩ | ⟨m15,pe,_⟩ <;> omega
   have gr:SetTable.grown es1.size = (L.length + 1) * 4:=by
    unfold SetTable.grown
    rw [z1,if_neg (by omega)]
   obtain ⟨es2,t2,L2,e2,hE2,T2,pm⟩:=b8V (t:=t1) (n:=SetTable.grown es1.size) pl ld hE1 nd1 lt1 (by rw [gr]; omega) (by rw [gr,ln1]; omega) (by rw [gr]; omega)
   rw [e2]
   dsimp only
   refine wpAny_bind (wpAny_pure ?_)
   refine wpAny_bind (wpAny_storeSet_of ho1 rfl ?_ (by rw [hE2.len,pm.length_eq,ln1,sizeLine_eq]; omega))
   refine wpAny_pure (wpAny_pure ?_)
   exact h true _ L2 ((Heap.SameBut.update ..).trans (Heap.SameBut.update ..)) ⟨es2,_,t2,a5B ho1,hE2,T2⟩ (λ u=>(pm.mem_iff).trans (mem u)) λ _=>⟨es2,_,t2,a5B ho1,.inr (by rw [hE2.len,pm.length_eq,ln1]; exact five)⟩
end
end Sm
set_option maxHeartbeats 2000000
namespace Sm
open PySem
abbrev byT (w:World):Bool:=w.params.followText "set-order"
theorem a7J {α:Type}:∀ (l:List α) (i:Nat) (h:i < l.length),(l[i] :: l.eraseIdx i).Perm l
 | _ :: r,0,_=>.refl _
 | x :: r,i + 1,h=>by
  have q:=a7J r i (by simpa using h)
  rw [List.getElem_cons_succ,List.eraseIdx_cons_succ]
  exact (List.Perm.swap x (r[i]'(by simpa using h)) (r.eraseIdx i)).trans (q.cons x)
theorem c2N {α:Type} (nx:Nat->Nat):∀ (fuel k:Nat) (left:List α) (out:Array α),left.length <= fuel->(pickOrder.go nx fuel k left out).toList.Perm (out.toList ++ left):=by
 intro fuel
 induction fuel with
 | zero =>
  intro k left out h
  have:left = []:=List.length_eq_zero_iff.mp (by omega)
  subst this
  unfold pickOrder.go
  simp
 | succ f ih =>
  intro k left out h
  unfold pickOrder.go
  by_cases c:left = []
  ·subst c; simp
  ·have pos:0 < left.length:=List.length_pos_iff.mpr c
   have lt:=Nat.mod_lt (nx k) pos
   rw [List.getElem?_eq_getElem lt]
   dsimp only
   refine (ih (k + 1) _ _ (by rw [List.length_eraseIdx]; split <;> omega)).trans ?_
   rw [Array.toList_push,List.append_assoc]
   exact List.Perm.append_left _ (a7J left _ lt)
theorem a9P {α:Type} (nx:Nat->Nat) (xs:Array α):(pickOrder nx xs).toList.Perm xs.toList:=by
 have:=c2N nx xs.size 0 xs.toList #[] (by simp)
 unfold pickOrder
 simpa using this
theorem b5R (a:Addr):setWalk a = (do
 let (xs,c,tb) <- setState a
 if <- setsByText then
  let q <- ask
  return pickOrder (q.params.setOrder a c) xs
 if !tb.plain && xs.size > 1 then return (<- drawOrder xs.size xs.toList).toArray
 (do if !tb.led && xs.size > 1 then unsupported "set:maker-not-led" : Sem Unit)
 return xs):=rfl
theorem Es.perm {es:Array (Int × Value)} {L:List Nat} (h:Es es L) {es':List (Int × Value)} (p:es'.Perm es.toList):∃ L',Paired (λ e v=>e.1 = ((v:Nat):Int)/\∃ tk,e.2 = Value.int ((v:Nat):Int) tk) es' L'/\L'.Perm L:=by
 refine ⟨es'.map λ e=>e.1.toNat,?_,?_⟩
 ·have all:∀ e ∈ es.toList,∃ v:Nat,e.1 = ((v:Nat):Int)/\∃ tk,e.2 = Value.int ((v:Nat):Int) tk:=by
   unfold Es at h
   generalize es.toList = l at h
   clear p
   induction h with
   | nil=>intro e he; simp at he
   | cons r _ ih =>
    intro e he
    rcases List.mem_cons.mp he with rfl | he
    ·exact ⟨_,r⟩
    ·exact ih e he
  have all':∀ e ∈ es',∃ v:Nat,e.1 = ((v:Nat):Int)/\∃ tk,e.2 = Value.int ((v:Nat):Int) tk:=λ e he=>all e (p.mem_iff.mp he)
  clear p
  induction es' with
  | nil=>exact .nil
  | cons e r ih =>
   obtain ⟨v,e1,e2⟩:=all' e List.mem_cons_self
   rw [List.map_cons]
   refine .cons ?_ (ih λ x hx=>all' x (List.mem_cons_of_mem _ hx))
   rw [e1]
   exact ⟨rfl,e2⟩
 ·refine (p.map λ e=>e.1.toNat).trans ?_
  unfold Es at h
  generalize es.toList = l at h
  have:l.map (λ e=>e.1.toNat) = L:=by
   induction h with
   | nil=>rfl
   | cons r _ ih=>rw [List.map_cons,ih,r.1]; rfl
  rw [this]
section
variable {prog:Program} {w:World} {A:Around} {E:Value->Shared->Prop} {s:Shared} {a:Addr} {L:List Nat}
theorem a1Q {es:Array (Int × Value)} {ep:Nat} {t:SetTable} {B:Bool} {Q:(Array (Int × Value) × Nat × SetTable)->Shared->Prop} (ho:s.heap.get? a = some (setO es ep t)) (hE:Es es L) (T:Tb B t L) (h:Q (es,ep,t) s) :
  wpAny (model prog w) A (setState a) Q E s:=wpAny_setState_of ho rfl (by rw [hE.len]; exact T.fits) h
theorem a2T {Q:Bool->Shared->Prop} (h:Q (byT w) s):wpAny (model prog w) A setsByText Q E s:=by
 unfold setsByText
 exact wpAny_bind (wpAny_askSetting (wpAny_pure h))
theorem c2O {es:Array (Int × Value)} {ep:Nat} {t:SetTable} {Q:Array (Int × Value)->Shared->Prop} (ho:s.heap.get? a = some (setO es ep t)) (hE:Es es L) (T:Tb (byT w) t L)
  (h:∀ es',es'.toList.Perm es.toList->Q es' s):wpAny (model prog w) A (setWalk a) Q E s:=by
 rw [b5R]
 refine wpAny_bind (a1Q ho hE T ?_)
 refine wpAny_bind (a2T ?_)
 have pl:=T.pl
 have ld:=T.led
 cases c:byT w with
 | true =>
  simp only [if_true]
  exact wpAny_bind (wpAny_askSetting (wpAny_pure (h _ (a9P _ _))))
 | false =>
  rw [c] at ld
  simp only [pl,ld,Bool.not_true,Bool.not_false,Bool.false_and,Bool.false_eq_true,if_false]
  first | exact wpAny_bind (wpAny_pure (wpAny_pure (h _ .rfl))) | exact wpAny_pure (h _ .rfl)
theorem b5S {es:Array (Int × Value)} {ep:Nat} {t:SetTable} {others:List Addr} {f:Option Addr} {Q:Array (Int × Value)->Shared->Prop} (ho:s.heap.get? a = some (setO es ep t)) (hE:Es es L) (T:Tb (byT w) t L)
  (h:∀ es',es'.toList.Perm es.toList->Q es' s):wpAny (model prog w) A (setWalkUnseen a others f) Q E s:=by
 unfold setWalkUnseen
 refine wpAny_bind (a1Q ho hE T ?_)
 refine wpAny_bind (a2T ?_)
 have e:(byT w || (t.led && t.plain) || decide (es.size <= 1)) = true:=by rw [T.led,T.pl]; cases byT w <;> rfl
 dsimp only
 rw [if_pos e]
 exact c2O ho hE T h
def b8W (es:Array (Int × Value)) (laid:Option (SetTable × Array Nat)):Sem (Array (Int × Value) × SetTable):=do
 let some (t,order):=laid
  | unsupported "internal:set-table-without-room"
 if (order.filterMap (es[·]?)).size != es.size then unsupported "internal:set-table-lost-an-element"
 pure (order.filterMap (es[·]?),t)
theorem b8X (a:Addr) (n:Nat):setRelay a n = (do
 let (es,_,t) <- setState a
 if SetTable.sizeAbove n > sizeLine then unsupported "set:memory"
 let (es,t) <- b8W es (t.relaid (es.map (·.1)) n)
 storeSet a es t):=rfl
theorem b2F {es:Array (Int × Value)} {t:SetTable} {order:Array Nat} {S:List Nat} {Q:Array (Int × Value) × SetTable->Shared->Prop} (hE':Es (order.filterMap (es[·]?)) S) (hz:es.size = S.length) (h:Q (order.filterMap (es[·]?),t) s) :
  wpAny (model prog w) A (b8W es (some (t,order))) Q E s:=by
 unfold b8W
 dsimp only
 have e:((order.filterMap (es[·]?)).size != es.size) = false:=by rw [hE'.len,hz]; simp
 simp only [e,Bool.false_eq_true,if_false]
 first | exact wpAny_bind (wpAny_pure (wpAny_pure h)) | exact wpAny_pure h
theorem b8Y {n:Nat} (h:n <= 64):SetTable.sizeAbove n <= 128:=by
 have:∀ n,n <= 64->SetTable.sizeAbove n <= 128:=by decide +kernel
 exact this n h
theorem c2P {more:Nat} {Q:Unit->Shared->Prop} {B:Bool} (S:SetAt B s.heap a L) (hm:more <= 16)
  (h:∀ h' es ep t L',Heap.SameBut a s.heap h'->h'.get? a = some (setO es ep t)->Es es L'->Tb B t L'->L'.Perm L->(L.length + more) * 5 < t.mask * 3->Q () { s with heap:=h' }):wpAny (model prog w) A (setRoomFor a more) Q E s:=by
 obtain ⟨es,ep,t,ho,hE,T⟩:=S
 unfold setRoomFor
 refine wpAny_bind (a1Q ho hE T ?_)
 have fl:t.fill = L.length:=by unfold SetTable.fill; rw [T.dm,T.sz]; rfl
 have l16:=T.len
 unfold SetTable.roomFor
 dsimp only
 rw [fl,T.sz]
 by_cases c:(L.length + more) * 5 ≥ t.mask * 3
 ·rw [if_pos c]
  dsimp only
  rw [b8X]
  refine wpAny_bind (a1Q ho hE T ?_)
  have five:5 <= L.length + more:=by
   rcases T.sh with ⟨m7,_⟩ | ⟨m15,_,_⟩ <;> omega
  have b1:=a5J (n:=(L.length + more) * 2) (by omega)
  have b2:=a5K (n:=(L.length + more) * 2) (by omega)
  have b3:=b8Y (n:=(L.length + more) * 2) (by omega)
  dsimp only
  rw [if_neg (by rw [sizeLine_eq]; omega)]
  have hm':15 <= SetTable.sizeAbove ((L.length + more) * 2) - 1:=by omega
  obtain ⟨order,e,hE',hc⟩:=b1D (f:=t.finger) (mv:=t.movedTo (SetTable.sizeAbove ((L.length + more) * 2) - 1)) (led:=t.led) (plain:=t.plain) hm' hE T.nd T.lt
  unfold SetTable.relaid
  rw [e]
  have lz:=b5P T.lt hm' T.nd
  refine wpAny_bind (b2F hE' (by rw [hE.len,lz]) ?_)
  refine wpAny_storeSet_of ho rfl ?_ (by rw [hE'.len,lz,sizeLine_eq]; omega)
  have T':=b1E (B:=B) (f:=t.finger) (mv:=t.movedTo (SetTable.sizeAbove ((L.length + more) * 2) - 1)) hm' T.nd T.lt (by omega)
  rw [<- T.led,<- T.pl] at T'
  exact h _ _ _ _ _ (Heap.SameBut.update ..) (a5B ho) hE' T' (a4K (λ v hv=>by have:=T.lt v hv; omega) T.nd) (by show _ < (SetTable.sizeAbove ((L.length + more) * 2) - 1) * 3; omega)
 ·rw [if_neg c]
  refine wpAny_pure ?_
  exact h s.heap es ep t L (Heap.SameBut.refl a s.heap) ho hE T .rfl (by omega)
end
end Sm
set_option maxHeartbeats 2000000
namespace Sm
open PySem
theorem b8Z (sA oA:Addr) (each:Sem Unit):setMerge sA oA each = (do
 if sA == oA then return
 let (eo,epoch,to) <- setState oA
 if eo.isEmpty then return
 setRoomFor sA eo.size
 let (_,_,ts) <- setState sA
 match ts.road to with
 | .slotForSlot =>
  storeSet sA eo { to with finger:=ts.finger,led:=ts.led && to.led,moves:=ts.moves,plain:=ts.plain && to.plain }
 | .clean =>
  let (es,t) <- b8W eo (SetTable.laid ts.mask ts.finger ts.moves (ts.led && to.led) (ts.plain && to.plain) (eo.map (·.1)))
  storeSet sA es t
 | .oneByOne =>
  for (h,x) in <- setWalkUnseen oA [sA] (some sA) do
   let _ <- holding [x] (setAddHashed sA x h)
   each
   if (<- setState oA).2.1 != epoch then unsupported "set.changed-during-merge"):=rfl
section
variable {prog:Program} {w:World} {A:Around} {E:Value->Shared->Prop} {s:Shared} {sA oA:Addr} {L1 L2:List Nat}
theorem b2G {each:Sem Unit} {Q:Unit->Shared->Prop} (ne:sA ≠ oA) (S1:SetAt (byT w) s.heap sA L1) (S2:SetAt (byT w) s.heap oA L2) (D:Dense s.heap oA)
  (he:∀ (s':Shared) (Q':Unit->Shared->Prop),(∀ o,s.heap.get? oA = some o->s'.heap.get? oA = some o)->Q' () s'->wpAny (model prog w) A each Q' E s')
  (h:∀ h' L,Heap.SameBut sA s.heap h'->SetAt (byT w) h' sA L->(∀ u,u ∈ L ↔ u ∈ L1\/u ∈ L2)->Q () { s with heap:=h' }):wpAny (model prog w) A (setMerge sA oA each) Q E s:=by
 obtain ⟨eo,ep,to,ho,hE,T⟩:=S2
 rw [b8Z]
 have nb:(sA == oA) = false:=beq_eq_false_iff_ne.mpr ne
 rw [nb]
 simp only [Bool.false_eq_true,if_false]
 refine wpAny_bind (a1Q ho hE T ?_)
 dsimp only
 have hz:=hE.len
 have l16:=T.len
 by_cases c:eo.isEmpty = true
 ·rw [if_pos c]
  have l0:L2.length = 0:=by rw [<- hz]; simpa using c
  have:L2 = []:=List.length_eq_zero_iff.mp l0
  subst this
  exact wpAny_pure (h s.heap L1 (Heap.SameBut.refl _ _) S1 λ u=>by simp)
 rw [if_neg c]
 refine wpAny_bind (c2P S1 (by omega) λ h1 es1 ep1 t1 L1' sb1 ho1 hE1 T1 pm hr=>?_)
 have ho':h1.get? oA = some (setO eo ep to):=by rw [sb1.2 oA (Ne.symm ne)]; exact ho
 refine wpAny_bind (a1Q (s:={ s with heap:=h1 }) ho1 hE1 T1 ?_)
 dsimp only
 have fl:t1.fill = L1'.length:=by unfold SetTable.fill; rw [T1.dm,T1.sz]; rfl
 unfold SetTable.road
 rw [fl,pm.length_eq]
 have ld:(t1.led && to.led) = !byT w:=by rw [T1.led,T.led]; simp
 have pl:(t1.plain && to.plain) = true:=by rw [T1.pl,T.pl]; rfl
 by_cases e0:L1.length = 0
 ·have n1:L1 = []:=List.length_eq_zero_iff.mp e0
  have nb:(L1.length != 0) = false:=by rw [e0]; rfl
  rw [nb]
  simp only [Bool.false_eq_true,if_false]
  have dmt:to.dummies.isEmpty = true:=by rw [T.dm]; rfl
  by_cases em:t1.mask = to.mask
  ·have:(t1.mask == to.mask && to.dummies.isEmpty) = true:=by rw [em,dmt]; simp
   rw [this]
   simp only [if_true]
   refine wpAny_storeSet_of (s:={ s with heap:=h1 }) ho1 rfl ?_ (by rw [hz,sizeLine_eq]; omega)
   refine h _ L2 (sb1.trans (Heap.SameBut.update ..)) ⟨eo,_,_,a5B ho1,hE,⟨T.dm,pl,ld,T.up,T.sz,T.nd,T.lt,T.sh⟩⟩ λ u=>by rw [n1]; simp
  ·have:(t1.mask == to.mask && to.dummies.isEmpty) = false:=by rw [beq_eq_false_iff_ne.mpr em]; rfl
   rw [this]
   simp only [Bool.false_eq_true,if_false]
   have m15:15 <= t1.mask:=by
    obtain ⟨es0,ep0,t0,ho0,d⟩:=D
    rw [ho] at ho0
    cases ho0
    rcases T1.sh with ⟨m7,_⟩ | ⟨m15,_⟩
    ·rw [m7] at hr
     rcases d with d | d
     ·exact absurd (m7.trans d.symm) em
     ·rw [hz] at hr; omega
    ·exact m15
   obtain ⟨order,e,hE',hc⟩:=b1D (f:=t1.finger) (mv:=t1.moves) (led:=t1.led && to.led) (plain:=t1.plain && to.plain) m15 hE T.nd T.lt
   rw [e]
   have lz:=b5P T.lt m15 T.nd
   refine wpAny_bind (b2F hE' (by rw [hz,lz]) ?_)
   refine wpAny_storeSet_of (s:={ s with heap:=h1 }) ho1 rfl ?_ (by rw [hE'.len,lz,sizeLine_eq]; omega)
   have T':=b1E (B:=byT w) (f:=t1.finger) (mv:=t1.moves) m15 T.nd T.lt (by rw [hz] at hr; omega)
   rw [<- ld,<- pl] at T'
   refine h _ _ (sb1.trans (Heap.SameBut.update ..)) ⟨_,_,_,a5B ho1,hE',?_⟩ λ u=>?_
   ·rw [ld] at T' ⊢
    exact T'
   ·rw [n1,a5Y (λ v hv=>by have:=T.lt v hv; omega)]; simp
 ·have nb:(L1.length != 0) = true:=by simp [e0]
  rw [nb]
  simp only [if_true]
  refine wpAny_bind (b5S (s:={ s with heap:=h1 }) ho' hE T λ es' pe=>?_)
  obtain ⟨R,hR,pR⟩:=hE.perm pe
  refine wpAny_bind ?_
  rw [<- Array.forIn_toList]
  refine wpAny_forIn_list _ (λ rest _ s'=>∃ h' L R,s' = { s with heap:=h' }/\Heap.SameBut sA s.heap h'/\SetAt (byT w) h' sA L/\Paired (λ (e:Int × Value) (v:Nat)=>e.1 = ((v:Nat):Int)/\∃ tk,e.2 = Value.int ((v:Nat):Int) tk) rest R /\
   (∀ v ∈ R,v < 16)/\∀ u,(u ∈ L\/u ∈ R) ↔ (u ∈ L1\/u ∈ L2)) _ ?_ ?_ _ _ ⟨h1,L1',R,rfl,sb1,⟨es1,ep1,t1,ho1,hE1,T1⟩,hR,λ v hv=>T.lt v (pR.mem_iff.mp hv),λ u=>by rw [pm.mem_iff,pR.mem_iff]⟩
  ·rintro ⟨hh,x⟩ rest b s' ⟨h',L,R',rfl,sb,S,hP,lt,mem⟩
   cases hP with
   | @cons _ v _ R'' r t =>
    obtain ⟨e1,tk,e2⟩:=r
    dsimp only at e1 e2
    subst e1; subst e2
    dsimp only
    refine wpAny_bind (wpAny_holding (c0W (s:={ s with heap:=h' }) S (lt v List.mem_cons_self) λ b2 h2 L' sb2 S' mem' _=>?_))
    have sb3:=sb.trans sb2
    have oo:h2.get? oA = some (setO eo ep to):=by rw [sb3.2 oA (Ne.symm ne)]; exact ho
    refine wpAny_bind (he _ _ (λ o q=>by rw [ho] at q; cases q; exact oo) ?_)
    refine wpAny_bind (a1Q (s:={ s with heap:=h2 }) oo hE T ?_)
    simp only [bne_self_eq_false,Bool.false_eq_true,if_false]
    refine wpAny_pure ⟨h2,L',R'',rfl,sb3,S',t,λ u hu=>lt u (List.mem_cons_of_mem _ hu),λ u=>?_⟩
    rw [mem' u,<- mem u,List.mem_cons]
    constructor
    ·rintro ((q | q) | q)
     ·exact .inr (.inl q)
     ·exact .inl q
     ·exact .inr (.inr q)
    ·rintro (q | q | q)
     ·exact .inl (.inr q)
     ·exact .inl (.inl q)
     ·exact .inr q
  ·rintro b s' ⟨h',L,R',rfl,sb,S,hP,lt,mem⟩
   cases hP
   exact wpAny_pure (h h' L sb S λ u=>by rw [<- mem u]; simp)
end
end Sm
set_option maxHeartbeats 2000000
namespace Sm
open PySem PySem.Builtin.Frozenset
theorem b5T:isSubtype (.type "set") (.type "set") = pure true:=by rw [isSubtype_type]; kernel_rfl
theorem b9A:entryFor table "set.__or__" = some Builtin.«frozenset.__or__» := entryFor_alias (id':="frozenset.__or__") (by kernel_rfl) rfl (by decide +kernel) (by kernel_rfl)
theorem b3R:entryFor table "set.__iter__" = some Builtin.«frozenset.__iter__» := entryFor_alias (id':="frozenset.__iter__") (by kernel_rfl) rfl (by decide +kernel) (by kernel_rfl)
def b2H (id:String) (l:Addr) (r:Value):Sem Value:=do
 let result <- copyOf l
 if r != .ref l then
  let q <- addrOf result
  holding [result] (updateFrom id q r)
 return result
theorem c7P (x y:Value):Builtin.«frozenset.__or__» ⟨[x,y],[]⟩ = (do
 let (self,other) <- slot1 "__or__" ⟨[x,y],[]⟩
 if !(<- isAnySet self <&&> isAnySet other) then
  rule s!"frozenset.{"__or__"}.declined"
  return <- ret .notImplemented
 ret (<- b2H s!"frozenset.{"__or__"}" (<- addrOf self) other)):=rfl
section
variable {prog:Program} {w:World} {A:Around} {E:Value->Shared->Prop} {s:Shared} {a b:Addr} {L1 L2:List Nat}
theorem b2I (B:Bool):Tb B (.fresh 0 0 (!B)) []:=⟨rfl,rfl,rfl,.nil,rfl,.nil,λ v h=>by simp at h,.inl ⟨rfl,by simp⟩⟩
theorem c5K {Q:Value->Shared->Prop} (h:Q (.ref s.heap.objs.size) { s with heap:=s.heap.push (setO #[] 0 (.fresh 0 0 (!byT w))) }):wpAny (model prog w) A (newSet (.type "set")) Q E s:=by
 unfold newSet
 refine wpAny_bind (a2T ?_)
 dsimp only
 simp only [newObj]
 exact wpAny_bind (wpAny_alloc (wpAny_pure h))
theorem SetAt.type {B:Bool} (S:SetAt B s.heap a L1):s.TypeIs (.ref a) "set" := let ⟨_,_,_,ho,_⟩:=S; ⟨_,ho,rfl⟩
theorem b5U {B:Bool} {Q:Bool->Shared->Prop} (S:SetAt B s.heap a L1) (h:Q true s):wpAny (model prog w) A (isAnySet (.ref a)) Q E s:=by
 unfold isAnySet orM
 refine wpAny_bind (wpAny_isInstance S.type b5T ?_)
 exact wpAny_pure h
theorem c2Q {Q:Value->Shared->Prop} (S:SetAt (byT w) s.heap a L1) (D:Dense s.heap a)
  (h:∀ h' L,(∀ b o,s.heap.get? b = some o->h'.get? b = some o)->SetAt (byT w) h' s.heap.objs.size L->(∀ u,u ∈ L ↔ u ∈ L1)->Q (.ref s.heap.objs.size) { s with heap:=h' }):wpAny (model prog w) A (copyOf a) Q E s:=by
 unfold copyOf baseOf
 refine wpAny_bind (wpAny_bind (wpAny_isInstance S.type b5T (wpAny_pure ?_)))
 simp only [if_true]
 refine wpAny_bind (c5K ?_)
 show wpAny _ _ (do setMerge s.heap.objs.size a; pure (Value.ref s.heap.objs.size)) _ _ _
 have lt:a < s.heap.objs.size:=by
  obtain ⟨_,_,_,ho,_⟩:=S
  exact Heap.lt_size ho
 have k:∀ b o,s.heap.get? b = some o->(s.heap.push (setO #[] 0 (.fresh 0 0 (!byT w)))).get? b = some o:=λ b o e=>Heap.get?_push_of_some _ e
 refine wpAny_bind (b2G (s:={ s with heap:=s.heap.push (setO #[] 0 (.fresh 0 0 (!byT w))) }) (L1:=[]) (Nat.ne_of_gt lt) ⟨#[],0,_,Heap.get?_push_size _ rfl,.nil,b2I _⟩ (S.keep (k a)) (D.keep (k a)) (λ s' Q' _ q=>wpAny_pure q) λ h' L sb S' mem=>?_)
 refine wpAny_pure (h h' L (λ b o e=>?_) S' λ u=>by rw [mem u]; simp)
 have lb:=Heap.lt_size e
 rw [sb.2 b (Nat.ne_of_lt lb)]
 exact k b o e
theorem a8D {es:Array (Int × Value)} {ep:Nat} {t:SetTable} {B:Bool} {Q:Nat->Shared->Prop} (ho:s.heap.get? a = some (setO es ep t)) (hE:Es es L1) (T:Tb B t L1) (h:Q ep s):wpAny (model prog w) A (setEpoch a) Q E s :=
 wpAny_setEpoch_of ho rfl (by rw [hE.len]; exact T.fits) h
theorem b9B {id:String} {Q:Value->Shared->Prop} (ne:a ≠ b) (S1:SetAt (byT w) s.heap a L1) (D1:Dense s.heap a) (S2:SetAt (byT w) s.heap b L2) (D2:Dense s.heap b)
  (h:∀ h' L,(∀ b o,s.heap.get? b = some o->h'.get? b = some o)->SetAt (byT w) h' s.heap.objs.size L->(∀ u,u ∈ L ↔ u ∈ L1\/u ∈ L2)->Q (.ref s.heap.objs.size) { s with heap:=h' }) :
  wpAny (model prog w) A (b2H id a (.ref b)) Q E s:=by
 unfold b2H
 refine wpAny_bind (c2Q S1 D1 λ h1 L k S mem=>?_)
 have nb:(Value.ref b != Value.ref a) = true:=by simp [Ne.symm ne]
 rw [nb]
 simp only [if_true]
 have S2':=S2.keep (k b)
 have D2':=D2.keep (k b)
 have lt:b < s.heap.objs.size:=by
  obtain ⟨_,_,_,ho,_⟩:=S2
  exact Heap.lt_size ho
 have S2c:=S2'
 obtain ⟨es,ep,t,ho,hE,T⟩:=S2c
 show wpAny _ _ (holding [Value.ref s.heap.objs.size] (updateFrom id s.heap.objs.size (.ref b)) >>= λ _=>pure (Value.ref s.heap.objs.size)) _ _ _
 refine wpAny_bind (wpAny_holding ?_)
 unfold updateFrom
 refine wpAny_bind (b5U (s:={ s with heap:=h1 }) S2' ?_)
 simp only [if_true]
 show wpAny _ _ (merge id s.heap.objs.size b) _ _ _
 unfold merge
 refine wpAny_bind (a8D (s:={ s with heap:=h1 }) ho hE T ?_)
 refine b2G (s:={ s with heap:=h1 }) (Nat.ne_of_gt lt) S S2' D2' (λ s' Q' ks q=>?_) λ h' L' sb S' mem'=>?_
 ·unfold unchanged
  refine wpAny_bind (a8D (s:=s') (ks _ ho) hE T ?_)
  simp only [bne_self_eq_false,Bool.false_eq_true,if_false]
  exact wpAny_pure q
 ·refine wpAny_pure (h h' L' (λ c o e=>?_) S' λ u=>by rw [mem' u,mem u])
  rw [sb.2 c (Nat.ne_of_lt (Heap.lt_size e))]
  exact k c o e
theorem c7Q {Q:Value->Shared->Prop} (ne:a ≠ b) (S1:SetAt (byT w) s.heap a L1) (D1:Dense s.heap a) (S2:SetAt (byT w) s.heap b L2) (D2:Dense s.heap b)
  (h:∀ h' L,(∀ b o,s.heap.get? b = some o->h'.get? b = some o)->SetAt (byT w) h' s.heap.objs.size L->(∀ u,u ∈ L ↔ u ∈ L1\/u ∈ L2)->Q (.ref s.heap.objs.size) { s with heap:=h' }) :
  wpAny (model prog w) A (binaryOp .BitOr (.ref a) (.ref b)) Q E s:=by
 refine wpAny_binaryOp_same S1.type S2.type F.fills_set_or F.slot_set_or (wpAny_call_entry F.slot_set_or S1.type b9A ?_ (F.args_set_or_2 _ _))
 rw [c7P]
 refine wpAny_bind (m:=slot1 "__or__" _) (wpAny_pure ?_)
 dsimp only
 unfold andM
 refine wpAny_bind (wpAny_bind (b5U S1 ?_))
 refine b5U S2 ?_
 simp only [Bool.not_true,Bool.false_eq_true,if_false]
 show wpAny _ _ (b2H _ a (.ref b) >>= λ v=>ret v) _ _ _
 refine wpAny_bind (b9B ne S1 D1 S2 D2 λ h' L k S mem=>?_)
 exact wpAny_pure ⟨_,rfl,by simp,h h' L k S mem⟩
end
end Sm
set_option maxHeartbeats 4000000
namespace Sm
open PySem
theorem slot_si_next:Slot "set_iterator" "__next__" "set_iterator.__next__" := .of (owner:="set_iterator") (n:="__next__") (by rw [typeLookup_type,builtinLookup_eq_fast]; kernel_rfl) (by decide +kernel) (by decide +kernel) (by decide +kernel) (by first | exact .inl (by decide +kernel) | exact .inr (by decide +kernel)) (by rw [isSubtype_type]; kernel_rfl)
theorem a4L:entryFor table "set_iterator.__next__" = some Builtin.«set_iterator.__next__» := entryFor_of_fast (by kernel_rfl)
theorem a5L (a:Value):argsOk "set_iterator.__next__" ⟨[a],[]⟩:=by unfold argsOk; kernel_rfl
theorem a5M:Slot "set_iterator" "__iter__" "set_iterator.__iter__" := .of (owner:="set_iterator") (n:="__iter__") (by rw [typeLookup_type,builtinLookup_eq_fast]; kernel_rfl) (by decide +kernel) (by decide +kernel) (by decide +kernel) (by first | exact .inl (by decide +kernel) | exact .inr (by decide +kernel)) (by rw [isSubtype_type]; kernel_rfl)
theorem a9Q (a:Value):argsOk "set_iterator.__iter__" ⟨[a],[]⟩:=by unfold argsOk; kernel_rfl
end Sm
set_option maxHeartbeats 4000000
namespace Sm
open PySem
theorem a8E:entryFor table "set_iterator.__iter__" = some Builtin.«dict_keyiterator.__iter__» := entryFor_alias (id':="dict_keyiterator.__iter__") (by kernel_rfl) rfl (by decide +kernel) (by kernel_rfl)
def a1Y (w:World) (a:Addr) (ep:Nat) (es:Array (Int × Value)):Array (Int × Value):=if byT w = true then pickOrder (w.params.setOrder a ep) es else es
theorem a6M (w:World) (a:Addr) (ep:Nat) (es:Array (Int × Value)):(a1Y w a ep es).toList.Perm es.toList:=by
 unfold a1Y
 split
 ·exact a9P _ _
 ·exact .rfl
theorem a2J (w:World) (a:Addr) (ep:Nat) (es:Array (Int × Value)):(a1Y w a ep es).size = es.size:=by
 have:=(a6M w a ep es).length_eq
 simpa using this
theorem c2R (a:Addr) (slot given epochThen:Nat):setNext a slot given epochThen = (do
 let (xs,c,tb) <- setState a
 if <- setsByText then
  if c != epochThen then
   unsupported "set_iterator.__next__:elements-changed"
  let zs <- setWalk a
  return (zs[given]?).map λ z=>(z.2,slot)
 if !tb.plain && xs.size > 1 then
  unsupported "set_iterator.__next__:the-table-is-plain-no-more"
 (do if !tb.led && !xs.isEmpty then unsupported "set:maker-not-led" : Sem Unit)
 return match xs[SetTable.below tb.place slot]?,tb.place[SetTable.below tb.place slot]? with
  | some (_,z),some m=>some (z,m + 1)
  | _,_=>none):=rfl
def a2O (B:Bool) (t:SetTable) (i:Nat):Nat:=if B = true then 0 else if i = 0 then 0 else t.place.getD (i - 1) 0 + 1
theorem b3S {B:Bool} {t:SetTable} {L:List Nat} (T:Tb B t L) (hB:B = false):∀ i,i <= L.length->SetTable.below t.place (a2O B t i) = i
 | 0,_=>by
  unfold a2O
  rw [hB]
  exact b3P T.up
 | k + 1,h=>by
  unfold a2O
  rw [hB]
  have hk:k < t.place.size:=by rw [T.sz]; omega
  simp only [Bool.false_eq_true,if_false,Nat.add_sub_cancel]
  rw [if_neg (by omega)]
  have:t.place.getD k 0 = t.place[k]:=by simp [Array.getD,hk]
  rw [this]
  exact b3Q T.up hk
section
variable {prog:Program} {w:World} {A:Around} {E:Value->Shared->Prop} {s:Shared} {a:Addr} {L:List Nat}
theorem c2S {es:Array (Int × Value)} {ep:Nat} {t:SetTable} {Q:Array (Int × Value)->Shared->Prop} (ho:s.heap.get? a = some (setO es ep t)) (hE:Es es L) (T:Tb (byT w) t L)
  (h:Q (a1Y w a ep es) s):wpAny (model prog w) A (setWalk a) Q E s:=by
 rw [b5R]
 refine wpAny_bind (a1Q ho hE T ?_)
 refine wpAny_bind (a2T ?_)
 have pl:=T.pl
 have ld:=T.led
 unfold a1Y at h
 cases c:byT w with
 | true =>
  rw [c] at h
  simp only [if_true] at h ⊢
  exact wpAny_bind (wpAny_askSetting (wpAny_pure h))
 | false =>
  rw [c] at ld h
  simp only [pl,ld,Bool.not_true,Bool.not_false,Bool.false_and,Bool.false_eq_true,if_false] at h ⊢
  first | exact wpAny_bind (wpAny_pure (wpAny_pure h)) | exact wpAny_pure h
theorem b2J {es:Array (Int × Value)} {ep i:Nat} {t:SetTable} {Q:Option (Value × Nat)->Shared->Prop} (ho:s.heap.get? a = some (setO es ep t)) (hE:Es es L) (T:Tb (byT w) t L) (hi:i <= L.length)
  (h:Q (((a1Y w a ep es)[i]?).map λ e=>(e.2,a2O (byT w) t (i + 1))) s):wpAny (model prog w) A (setNext a (a2O (byT w) t i) i ep) Q E s:=by
 rw [c2R]
 refine wpAny_bind (a1Q ho hE T ?_)
 refine wpAny_bind (a2T ?_)
 have pl:=T.pl
 have ld:=T.led
 cases c:byT w with
 | true =>
  simp only [if_true,bne_self_eq_false,Bool.false_eq_true,if_false]
  refine wpAny_bind (c2S ho hE T (wpAny_pure ?_))
  rw [c] at h
  unfold a2O at h ⊢
  simp only [if_true] at h ⊢
  exact h
 | false =>
  rw [c] at ld h
  simp only [pl,ld,Bool.not_true,Bool.not_false,Bool.false_and,Bool.false_eq_true,if_false]
  have bs:=b3S T c i hi
  rw [c] at bs
  rw [bs]
  have wk:a1Y w a ep es = es:=by unfold a1Y; rw [c]; rfl
  rw [wk] at h
  have e:(match es[i]?,t.place[i]? with
   | some (_,z),some m=>some (z,m + 1)
   | _,_=>none) = (es[i]?).map λ e=>(e.2,a2O false t (i + 1)):=by
   by_cases q:i < L.length
   ·have h1:i < es.size:=by rw [hE.len]; exact q
    have h2:i < t.place.size:=by rw [T.sz]; exact q
    rw [Array.getElem?_eq_getElem h1,Array.getElem?_eq_getElem h2]
    unfold a2O
    simp [Array.getD,h2]
   ·have h1:es[i]? = none:=Array.getElem?_eq_none (by rw [hE.len]; omega)
    rw [h1]
    rfl
  first
  | exact wpAny_bind (wpAny_pure (wpAny_pure (by rw [e]; exact h)))
  | exact wpAny_pure (by rw [e]; exact h)
abbrev itO (sl i:Nat) (a:Addr) (n ep:Nat):Obj:={ cls:=.type "set_iterator", dict:=none,data:=.fields #[.int (sl:Nat) 0,.int (i:Nat) 0,.ref a,.int (n:Nat) 0,.int (ep:Nat) 0],slots:=#[] }
theorem c2T {I:Addr} {es:Array (Int × Value)} {ep i:Nat} {t:SetTable} {e:Int × Value} {Q:Option Value->Shared->Prop} (ne:a ≠ I) (ho:s.heap.get? a = some (setO es ep t)) (hE:Es es L) (T:Tb (byT w) t L)
  (hI:s.heap.get? I = some (itO (a2O (byT w) t i) i a L.length ep)) (hw:(a1Y w a ep es)[i]? = some e)
  (h:∀ h',h'.get? I = some (itO (a2O (byT w) t (i + 1)) (i + 1) a L.length ep)->Heap.SameBut I s.heap h'->Q (some e.2) { s with heap:=h' }):wpAny (model prog w) A (pyNext (.ref I)) Q E s:=by
 have hi:i < L.length:=by
  rcases Nat.lt_or_ge i (a1Y w a ep es).size with q | q
  ·rw [a2J,hE.len] at q; exact q
  ·rw [Array.getElem?_eq_none q] at hw; cases hw
 have hT:s.TypeIs (.ref I) "set_iterator" := ⟨_,hI,rfl⟩
 unfold pyNext
 refine wpAny_bind (wpAny_attempt (wpAny_callSpecial?_slot (name:=Str.ofString "__next__") hT slot_si_next (wpAny_call_entry slot_si_next hT a4L ?_ (a5L _))))
 unfold Builtin.«set_iterator.__next__»
 refine wpAny_bind (m:=slotArgs "__next__" 0 _) (wpAny_pure ?_)
 dsimp only
 refine wpAny_bind (wpAny_fieldsOf hI rfl ?_)
 dsimp only
 unfold setEntries
 refine wpAny_bind (wpAny_bind (a1Q ho hE T (wpAny_pure ?_)))
 have z:(((es.size:Nat):Int) != ((L.length:Nat):Int)) = false:=by rw [hE.len]; simp
 dsimp only
 rw [z]
 simp only [Bool.false_eq_true,if_false,Int.toNat_natCast]
 refine wpAny_bind (b2J ho hE T (by omega) ?_)
 rw [hw]
 dsimp only [Option.map]
 refine wpAny_bind (wpAny_setField_rec hI (by simp) λ h1 hI1 sb1=>?_)
 refine wpAny_bind (wpAny_setField_rec (s:={ s with heap:=h1 }) hI1 (by simp) λ h2 hI2 sb2=>?_)
 refine wpAny_pure ⟨_,rfl,wpAny_pure (h h2 ?_ (sb1.trans sb2))⟩
 rw [hI2]
 simp [rawInt]
theorem c5L {I:Addr} {es:Array (Int × Value)} {ep:Nat} {t:SetTable} {Q:Option Value->Shared->Prop} (hh:A.handled = none) (ne:a ≠ I) (ho:s.heap.get? a = some (setO es ep t)) (hE:Es es L) (T:Tb (byT w) t L)
  (hI:s.heap.get? I = some (itO (a2O (byT w) t L.length) L.length a L.length ep))
  (h:∀ h',Heap.ExtBut I s.heap h'->Q none { s with heap:=h' }):wpAny (model prog w) A (pyNext (.ref I)) Q E s:=by
 have hT:s.TypeIs (.ref I) "set_iterator" := ⟨_,hI,rfl⟩
 unfold pyNext
 refine wpAny_bind (wpAny_attempt (wpAny_callSpecial?_slot (name:=Str.ofString "__next__") hT slot_si_next (wpAny_call_entry slot_si_next hT a4L ?_ (a5L _))))
 unfold Builtin.«set_iterator.__next__»
 refine wpAny_bind (m:=slotArgs "__next__" 0 _) (wpAny_pure ?_)
 dsimp only
 refine wpAny_bind (wpAny_fieldsOf hI rfl ?_)
 dsimp only
 unfold setEntries
 refine wpAny_bind (wpAny_bind (a1Q ho hE T (wpAny_pure ?_)))
 have z:(((es.size:Nat):Int) != ((L.length:Nat):Int)) = false:=by rw [hE.len]; simp
 dsimp only
 rw [z]
 simp only [Bool.false_eq_true,if_false,Int.toNat_natCast]
 refine wpAny_bind (b2J ho hE T (by omega) ?_)
 rw [Array.getElem?_eq_none (by rw [a2J,hE.len]; exact Nat.le_refl _)]
 dsimp only [Option.map]
 refine wpAny_bind (wpAny_setField_rec hI (by simp) λ h1 hI1 sb1=>?_)
 refine wpAny_bind ?_
 simp only [newExc,newTuple]
 refine wpAny_bind (wpAny_newObj_type ?_ (by size_fits))
 refine wpAny_bind (m:=firstArgMember _ _) (wpAny_of_eq (a:=Value.none) (by first | rfl | (simp only [firstArgMember]; rfl)) ?_); refine wpAny_newObj_type ?_ (by size_fits)
 simp only [raiseNew]
 refine wpAny_bind (wpAny_handled ?_)
 rw [show A.in1.handled = none from hh]; refine wpAny_bind (wpAny_pure (wpAny_throw ?_))
 refine wpAny_bind (wpAny_isInstance (U:="StopIteration") (T:="StopIteration") (b:=true) ⟨_,Heap.get?_push_size _ rfl,rfl⟩ isSubtype_stop ?_)
 exact wpAny_pure (h _ ((sb1.extBut.push _).push _))
end
end Sm
set_option maxHeartbeats 4000000
namespace Sm
open PySem PyProof.Rows
section
variable {prog:Program} {w:World} {A:Around} {E:Value->Shared->Prop} {s:Shared} {a:Addr} {L:List Nat}
theorem c5M {I:Addr} {es:Array (Int × Value)} {ep:Nat} {t:SetTable} (hh:A.handled = none) (ne:a ≠ I) (hE:Es es L) (T:Tb (byT w) t L) :
  Walks prog w A I [I,a] [I] L.length (λ i v=>∃ e,(a1Y w a ep es)[i]? = some e/\v = e.2)
   (λ i h=>h.get? I = some (itO (a2O (byT w) t i) i a L.length ep)/\h.get? a = some (setO es ep t)) where
 sub:=λ b hb=>by simp at hb; simp [hb]
 frame:=λ _ _ _ st hk=>⟨hk I (by simp) _ st.1,hk a (by simp) _ st.2⟩
 item:=λ i s Q E hi st hQ=>by
  obtain ⟨e,he⟩:∃ e,(a1Y w a ep es)[i]? = some e:=⟨_,Array.getElem?_eq_getElem (by rw [a2J,hE.len]; exact hi)⟩
  refine c2T ne st.2 hE T st.1 he λ h' hI sb=>?_
  exact hQ _ h' s.toks ⟨e,he,rfl⟩ ⟨hI,by rw [sb.2 a ne]; exact st.2⟩ λ b o hb q=>by rw [sb.2 b (λ c=>hb (by simp [c]))]; exact q
 done:=λ s Q E st hQ=>c5L hh ne st.2 hE T st.1 λ h' xb=>hQ h' s.toks λ b o hb q=>xb b o (λ c=>hb (by simp [c])) q
 self:=λ i s Q E st hQ=>by
  have hT:s.TypeIs (.ref I) "set_iterator" := ⟨_,st.1,rfl⟩
  refine wpAny_pyIter_slot hT a5M (wpAny_call_entry a5M hT a8E ?_ (a9Q _))
  show wpAny _ _ (ret (Value.ref I)) _ _ s; exact wpAny_pure ⟨_,rfl, "set_iterator", _,hT,slot_si_next.lookup,hQ⟩
theorem b9C (a:Addr):setDrawn a = (do
 let (es,_,t) <- setState a
 let byText <- setsByText
 return !byText && (!t.plain && es.size > 1)):=rfl
theorem c2U {es:Array (Int × Value)} {ep:Nat} {t:SetTable} {Q:Value->Shared->Prop} (ho:s.heap.get? a = some (setO es ep t)) (hE:Es es L) (T:Tb (byT w) t L)
  (h:Q (.ref s.heap.objs.size) { s with heap:=s.heap.push (itO 0 0 a L.length ep) }):wpAny (model prog w) A (pyIter (.ref a)) Q E s:=by
 have hT:s.TypeIs (.ref a) "set" := ⟨_,ho,rfl⟩
 refine wpAny_pyIter_slot hT F.slot_set_iter (wpAny_call_entry F.slot_set_iter hT b3R ?_ (F.args_set_iter_1 _))
 unfold Builtin.«frozenset.__iter__»
 refine wpAny_bind (m:=Builtin.Frozenset.slot0 _ _) (wpAny_pure ?_)
 unfold Builtin.Frozenset.sizeOf setEntries
 refine wpAny_bind (wpAny_bind (wpAny_bind (a1Q ho hE T (wpAny_pure (wpAny_pure ?_)))))
 rw [b9C]
 refine wpAny_bind (wpAny_bind (a1Q ho hE T ?_))
 refine wpAny_bind (a2T (wpAny_pure ?_))
 rw [T.pl]
 simp only [Bool.not_true,Bool.false_and,Bool.and_false,Bool.false_eq_true,if_false]
 refine wpAny_bind (wpAny_pure ?_)
 refine wpAny_bind (a8D ho hE T ?_)
 refine wpAny_bind ?_
 unfold newFields
 refine wpAny_newObj_type ?_
 refine wpAny_pure ⟨_,rfl, "set_iterator", _,⟨_,Heap.get?_push_size _ rfl,rfl⟩,slot_si_next.lookup,?_⟩
 rw [hE.len]
 exact h
theorem c2V:(Value.type "set" == Value.type "list") = false:=by decide
theorem c5N:(Value.type "set" == Value.type "tuple") = false:=by decide
theorem b9D:typeLookup (.type "set") "__len__" = pure (some (.builtin "set.__len__")):=F.slot_set_len.lookup
theorem b5V:splitId "set.__len__" = some ("set", "__len__"):=by decide +kernel
theorem b1F {es:Array (Int × Value)} {ep:Nat} {t:SetTable} {Q:List Value->Shared->Prop} (hh:A.handled = none) (ho:s.heap.get? a = some (setO es ep t)) (hE:Es es L) (T:Tb (byT w) t L)
  (h:∀ (h':Heap) (tk:Nat),(∀ b o,s.heap.get? b = some o->h'.get? b = some o)->s.heap.objs.size < h'.objs.size->Q ((a1Y w a ep es).toList.map (·.2)) { s with heap:=h',toks:=tk }):wpAny (model prog w) A (collect (.ref a)) Q E s:=by
 have lt:a < s.heap.objs.size:=Heap.lt_size ho
 unfold collect
 refine wpAny_bind (wpAny_runValue (codeAny_builtin F.entry_proto_collect ?_))
 rw [Around.under_plainId F.plain_proto_collect _]
 show wpAny _ A.in1 (newList [] >>= λ l=>again (.builtin "list.__iadd__" ⟨[l,.ref a],[]⟩)) _ _ s
 refine wpAny_bind (wpAny_newObj_type (wpAny_pure ⟨plainId_quiet F.plain_list_iadd _,codeAny_builtin F.entry_list_iadd ?_⟩))
 rw [Around.under_plainId F.plain_list_iadd _]
 have S0:(s.heap.push { cls:=.type "list", data:=.seq ([]:List Value).toArray }).get? s.heap.objs.size = some { cls:=.type "list", data:=.seq ([]:List Value).toArray }:=Heap.get?_push_size _ rfl
 have ho1:(s.heap.push { cls:=.type "list", data:=.seq ([]:List Value).toArray }).get? a = some (setO es ep t):=Heap.get?_push_of_some _ ho
 have hT1:Shared.TypeIs { s with heap:=s.heap.push { cls:=.type "list", data:=.seq ([]:List Value).toArray } } (.ref a) "set" := ⟨_,ho1,rfl⟩
 show wpAny _ A.in1 (Builtin.List.listExtendWith (.ref s.heap.objs.size) (.ref a) (.ref s.heap.objs.size)) _ _ { s with heap:=s.heap.push { cls:=.type "list", data:=.seq ([]:List Value).toArray } }
 unfold Builtin.List.listExtendWith
 refine wpAny_bind (wpAny_typeOf hT1 ?_)
 have n1:Builtin.List.listSameRef (.ref s.heap.objs.size) (.ref a) = false:=by simp [Builtin.List.listSameRef,Nat.ne_of_gt lt]
 simp only [n1,c2V,c5N,Bool.or_false,Bool.false_eq_true,if_false]
 refine wpAny_bind (c2U ho1 hE T ?_)
 refine wpAny_bind (wpAny_holding ?_)
 have ho2:((s.heap.push { cls:=.type "list", data:=.seq ([]:List Value).toArray }).push (itO 0 0 a L.length ep)).get? a = some (setO es ep t):=Heap.get?_push_of_some _ ho1
 have hT2:Shared.TypeIs { s with heap:=(s.heap.push { cls:=.type "list", data:=.seq ([]:List Value).toArray }).push (itO 0 0 a L.length ep) } (.ref a) "set" := ⟨_,ho2,rfl⟩
 unfold Builtin.List.listLengthHint
 refine wpAny_bind (wpAny_specialOf hT2 b9D ?_)
 dsimp only
 rw [b5V]
 dsimp only
 refine wpAny_bind (wpAny_isInstance hT2 b5T ?_)
 rw [if_neg (by decide)]
 rw [if_pos (by decide +kernel)]
 refine wpAny_bind (wpAny_typeOf hT2 ?_)
 dsimp only
 refine wpAny_pure ?_
 rw [if_pos (by decide +kernel)]
 refine wpAny_bind (wpAny_rule ?_)
 have lsz:(s.heap.push { cls:=.type "list", data:=.seq ([]:List Value).toArray }).objs.size = s.heap.objs.size + 1:=size_push' _ _
 have S1:((s.heap.push { cls:=.type "list", data:=.seq ([]:List Value).toArray }).push (itO 0 0 a L.length ep)).get? s.heap.objs.size = some { cls:=.type "list", data:=.seq ([]:List Value).toArray }:=Heap.get?_push_of_some _ S0
 refine wpAny_bind ?_
 show wpAny _ A.in1 (updateSeq s.heap.objs.size (·.push .none) >>= λ _=>updateSeq s.heap.objs.size (·.pop)) _ _ _
 refine wpAny_bind (wpAny_updateSeq S1 rfl ?_)
 have S2:=Heap.get?_update_self (Obj.mapSeq (·.push Value.none)) S1 rfl
 refine wpAny_updateSeq S2 rfl ?_
 have S3:=Heap.get?_update_self (Obj.mapSeq (·.pop)) S2 rfl
 have oth:∀ b o,b ≠ s.heap.objs.size->((s.heap.push { cls:=.type "list", data:=.seq ([]:List Value).toArray }).push (itO 0 0 a L.length ep)).get? b = some o ->
   ((((s.heap.push { cls:=.type "list", data:=.seq ([]:List Value).toArray }).push (itO 0 0 a L.length ep)).update s.heap.objs.size (Obj.mapSeq (·.push Value.none))).update s.heap.objs.size (Obj.mapSeq (·.pop))).get? b = some o :=
  λ b o hb e=>(Heap.get?_update_other _ _ (Ne.symm hb)).trans ((Heap.get?_update_other _ _ (Ne.symm hb)).trans e)
 have neI:a ≠ (s.heap.push { cls:=.type "list", data:=.seq ([]:List Value).toArray }).objs.size:=by rw [lsz]; exact Nat.ne_of_lt (Nat.lt_succ_of_lt lt)
 have W:=(c5M (prog:=prog) (w:=w) (A:=A.in1) (I:=(s.heap.push { cls:=.type "list", data:=.seq ([]:List Value).toArray }).objs.size) (ep:=ep) (by simpa using hh) neI hE T).toS
 have l16:=T.len
 have sl0:a2O (byT w) t 0 = 0:=by unfold a2O; split <;> rfl
 refine wpAny_pure ⟨plainId_quiet F.plain_extend_loop _,codeAny_extend_loopS W (by rw [sizeLine_eq]; omega) _ (by
   rw [lsz]; simp only [List.mem_cons,List.not_mem_nil,or_false,not_or]; exact ⟨Nat.ne_of_lt (Nat.lt_succ_self _),Nat.ne_of_gt lt⟩) _ _ 0 _ #[] _ rfl (Nat.zero_le _) ⟨?_,?_⟩ S3 (ItemsOf.nil _) λ s' acc' c' hm hS' hacc=>?_⟩
 ·refine oth _ _ (by rw [lsz]; exact Nat.ne_of_gt (Nat.lt_succ_self _)) ?_
  rw [sl0]
  exact Heap.get?_push_size _ rfl
 ·exact oth _ _ (Nat.ne_of_lt lt) ho2
 ·obtain ⟨h',g',d',tk',os'⟩:=s'
  have eg:g' = s.gens:=hm.gens
  have ed:d' = s.drawn:=hm.drawn
  have eo:os' = s.os:=hm.os
  subst eg; subst ed; subst eo
  show wpAny _ A (load s.heap.objs.size >>= _) _ _ _
  refine wpAny_bind (wpAny_load hS' ?_)
  dsimp only
  have el:acc'.toList = (a1Y w a ep es).toList.map (·.2):=by
   apply List.ext_getElem?
   intro i
   rw [Array.getElem?_toList,List.getElem?_map,Array.getElem?_toList]
   rcases Nat.lt_or_ge i acc'.size with q | q
   ·obtain ⟨e,he,hv⟩:=hacc.2 i acc'[i] (Array.getElem?_eq_getElem q)
    rw [Array.getElem?_eq_getElem q,he,hv]
    rfl
   ·rw [Array.getElem?_eq_none q,Array.getElem?_eq_none (by rw [a2J,hE.len,<- hacc.1]; exact q)]
    rfl
  rw [el]
  refine wpAny_pure (h h' tk' (λ b o e=>?_) (Heap.lt_size hS'))
  have lb:b < s.heap.objs.size:=Heap.lt_size e
  refine hm.heap b o (by rw [lsz]; simp only [List.mem_cons,List.not_mem_nil,or_false,not_or]; exact ⟨Nat.ne_of_lt lb,Nat.ne_of_lt (Nat.lt_succ_of_lt lb)⟩) (oth b o (Nat.ne_of_lt lb) (Heap.get?_push_of_some _ (Heap.get?_push_of_some _ e)))
theorem c5O {h:Heap} {a b:Addr} {vs:List Value} {out:Array Value} {o:Obj} (lb:b < h.objs.size) (ne:b ≠ a) (e:h.get? b = some o):(sortedHeap h a vs out).get? b = some o:=by
 unfold sortedHeap
 rw [Heap.get?_update_ne _ _ _ _ ne]
 exact Heap.get?_push_of_some _ (Heap.get?_push_of_some _ (by rw [Heap.get?_update_ne _ _ _ _ ne]; exact e))
theorem c7R {h:Heap} {a:Addr} {vs:List Value} {xs out:Array Value} {n:Nat} (e:h.get? a = some (seqObj "list" xs n)):∃ n',(sortedHeap h a vs out).get? a = some (seqObj "list" out n'):=by
 unfold sortedHeap
 exact ⟨_,get?_update_seq (Heap.get?_push_of_some _ (Heap.get?_push_of_some _ (get?_update_seq e λ _=>#[]))) λ _=>out⟩
theorem b3T {Q:Value->Shared->Prop} (hh:A.handled = none) (S:SetAt (byT w) s.heap a L)
  (h:∀ (h':Heap) (tk:Nat) (p:Addr) (vs:List Value) (n:Nat) (ns:List Int),(∀ b o,s.heap.get? b = some o->h'.get? b = some o)->s.heap.objs.size <= p->h'.get? p = some (seqObj "list" vs.toArray n)->IntsAre vs ns ->
   ns.Perm (L.map λ v=>((v:Nat):Int))->ns.Pairwise (· <= ·)->Q (.ref p) { s with heap:=h',toks:=tk }):wpAny (model prog w) A (call (.builtin "sorted") [.ref a]) Q E s:=by
 obtain ⟨es,ep,t,ho,hE,T⟩:=S
 have l16:=T.len
 apply Calls.call_function_entry kind_sorted plain_sorted entry_sorted (args_sorted1 _)
 unfold Builtin.«sorted»
 refine wpAny_bind (m:=checkCount "sorted" 1 1 _) (wpAny_pure ?_); refine wpAny_bind (b1F (by simpa using hh) ho hE T λ h1 tk k lz=>?_)
 obtain ⟨L',hP,pm⟩:=hE.perm (a6M w a ep es)
 have hl:L'.length = L.length:=pm.length_eq
 have hI:IntsAre ((a1Y w a ep es).toList.map (·.2)) (L'.map λ v=>((v:Nat):Int)):=by
  generalize (a1Y w a ep es).toList = l at hP
  clear pm hl
  induction hP with
  | nil=>exact .nil
  | cons r _ ih =>
   obtain ⟨q,e⟩:=r.2
   rw [List.map_cons,List.map_cons,e]
   exact .cons _ q ih
 have hn:((a1Y w a ep es).toList.map (·.2)).length = L.length:=by rw [List.length_map,Array.length_toList,a2J,hE.len]
 refine wpAny_bind (wpAny_newList ?_ (by rw [hn,sizeLine_eq]; omega))
 have o1:(h1.push (seqObj "list" ((a1Y w a ep es).toList.map (·.2)).toArray 0)).get? h1.objs.size = some (seqObj "list" ((a1Y w a ep es).toList.map (·.2)).toArray 0):=Heap.get?_push_size _ rfl
 refine wpAny_bind (wpAny_holding (wpAny_call_entry slot_list_sort ⟨_,o1,rfl⟩ entry_list_sort (list_sort_tree o1 hI (by rw [hn]; omega) λ out ns a1 a2 a3=>⟨_,rfl,?_⟩) (args_list_sort _)))
 obtain ⟨n',o2⟩:=c7R (vs:=(a1Y w a ep es).toList.map (·.2)) (out:=out) o1
 refine wpAny_pure ⟨_,rfl,h _ _ _ out.toList n' ns (λ b o e=>?_) (Nat.le_of_lt lz) (by simpa using o2) a1 (a2.trans (pm.map _)) a3⟩
 have lb:b < h1.objs.size:=Nat.lt_trans (Heap.lt_size e) lz
 exact c5O (by rw [size_push']; exact Nat.lt_succ_of_lt lb) (Nat.ne_of_lt lb) (Heap.get?_push_of_some _ (k b o e))
end
end Sm
set_option maxHeartbeats 4000000
namespace Sm
open PySem PyProof.Rows
section
variable {prog:Program} {w:World} {A:Around} {R:Result->Shared->Prop} {I:Addr} {fp wr:List Addr} {G:Array GenState->Array GenState->Prop} {n:Nat} {P:Nat->Value->Prop} {St:Nat->Shared->Prop}
theorem c2W (W:WalksS prog w A.in1 I fp wr G n P St) (S:Addr) (nf:S ∉ fp) (val:Nat->Nat) (hv:∀ i v,i < n->P i v->∃ t,v = .int ((val i:Nat):Int) t) (lt:∀ i,i < n->val i < 16) :
  ∀ (k i:Nat) (s:Shared) (L:List Nat),n - i = k->i <= n->St i s->SetAt (byT w) s.heap S L->Dense s.heap S->(∀ u,u ∈ L ↔ ∃ j,j < i/\val j = u) ->
   (∀ s' L',Moved (S :: wr) G s s'->SetAt (byT w) s'.heap S L'->Dense s'.heap S->(∀ u,u ∈ L' ↔ ∃ j,j < n/\val j = u)->R (.ok (.ret .none)) s') ->
   codeAny (model prog w) A (.builtin "set.update.loop" ⟨[.ref S,.ref I],[]⟩) R s:=by
 have nw:S ∉ wr:=λ h=>nf (W.sub _ h)
 have up:∀ b ∈ wr,b ∈ S :: wr:=λ b hb=>List.mem_cons_of_mem _ hb
 intro k
 induction k with
 | zero =>
  intro i s L hk hi st hS hD mem hR
  obtain rfl:i = n:=by omega
  refine codeAny_builtin F.entry_set_update_loop ?_
  rw [Around.under_plainId F.plain_set_update_loop _]; show wpAny _ A.in1 (pyNext (.ref I) >>= _) _ _ s; refine wpAny_bind (W.done s _ _ st λ s' hm=>?_)
  exact wpAny_pure (hR s' L (hm.mono up) (hS.keep λ o e=>hm.heap S o nw e) (hD.keep λ o e=>hm.heap S o nw e) mem)
 | succ k ih =>
  intro i s L hk hi st hS hD mem hR
  have li:i < n:=by omega
  refine codeAny_builtin F.entry_set_update_loop ?_
  rw [Around.under_plainId F.plain_set_update_loop _]; show wpAny _ A.in1 (pyNext (.ref I) >>= _) _ _ s; refine wpAny_bind (W.item i s _ _ li st λ v s' hP st' hm=>?_)
  obtain ⟨t,rfl⟩:=hv i v li hP
  have hS':=hS.keep λ o e=>hm.heap S o nw e
  have hD':=hD.keep λ o e=>hm.heap S o nw e
  show wpAny _ A.in1 (holding [Value.int ((val i:Nat):Int) t] (setAdd S (.int ((val i:Nat):Int) t)) >>= _) _ _ s'
  refine wpAny_bind (wpAny_holding ?_)
  unfold setAdd
  refine wpAny_holding (wpAny_bind ((intKind prog w).pyHash (k:=((val i:Nat):Int)) (intKind_is _ _ _ _) ?_))
  have eh:(intKind prog w).hash ((val i:Nat):Int) = ((val i:Nat):Int):=b5Q _ (lt i li)
  rw [eh]
  refine c0W (s:={ s' with toks:=s'.toks + 1 }) hS' (lt i li) λ b h' L' sb S2 mem2 dn=>?_
  refine wpAny_pure ⟨plainId_quiet F.plain_set_update_loop _,ih (i + 1) _ L' (by omega) li (W.frame _ s' _ _ st' (Nat.le_succ _) λ c hc o e=>?_) S2 (dn hD') (λ u=>?_) λ s2 L2 hm2 h2 h3 h4=>hR s2 L2 (Moved.trans W.gtrans ((hm.mono up).then_heap (Nat.le_succ _) λ c o hc e=>?_) hm2) h2 h3 h4⟩
  ·rw [sb.2 c (λ q:c = S=>nf (by rw [<- q]; exact hc))]; exact e
  ·rw [mem2 u,mem u]
   constructor
   ·rintro (rfl | ⟨j,hj,e⟩)
    ·exact ⟨i,Nat.lt_succ_self _,rfl⟩
    ·exact ⟨j,Nat.lt_succ_of_lt hj,e⟩
   ·rintro ⟨j,hj,e⟩
    rcases Nat.lt_or_ge j i with q | q
    ·exact .inr ⟨j,q,e⟩
    ·obtain rfl:j = i:=by omega
     exact .inl e.symm
  ·rw [sb.2 c (λ q:c = S=>hc (by rw [q]; exact List.mem_cons_self))]; exact e
end
section
variable {prog:Program} {w:World} {A:Around} {E:Value->Shared->Prop} {s:Shared}
theorem c2X (a:Value) {Q:Value->Shared->Prop} (h:Q (.ref s.heap.objs.size) { s with heap:=s.heap.push (setO #[] 0 (.fresh 0 0 (!byT w))) }) :
  codeAny (model prog w) A (.call (.builtin "set.__new__") ⟨[.type "set", a],[]⟩) (wants Q E) s:=by
 refine codeAny_of_tree ?_
 show wpAny _ A.in1 (do checkBuiltinCall "set.__new__" ⟨[.type "set", a],[]⟩; again (.builtin "set.__new__" ⟨[.type "set", a],[]⟩)) _ _ s; refine wpAny_bind (wpAny_of_eq (F.newCall_set_1 a) (wpAny_pure ⟨plainId_quiet F.plain_set_new _,codeAny_builtin F.entry_set_new ?_⟩))
 rw [Around.under_plainId F.plain_set_new _]
 unfold Builtin.«set.__new__» Builtin.Frozenset.newClass
 have hsub:=sub_set_self
 obtain ⟨hp,g,d,tk,os⟩:=s
 dsimp only at h ⊢
 wp_walk
 refine wpAny_askSetting (wpAny_pure ?_)
 dsimp only
 simp only [newObj]
 exact wpAny_bind (wpAny_alloc (wpAny_pure (wpAny_pure h)))
set_option maxHeartbeats 8000000 in
theorem c5P {l:Addr} {items:Array Value} {vals:List Nat} {Q:Value->Shared->Prop} (hh:A.handled = none) (hl:s.heap.IsList l items) (hi:IntsAre items.toList (vals.map λ v=>((v:Nat):Int))) (lt:∀ v ∈ vals,v < 16)
  (h:∀ (h':Heap) (tk:Nat) (L:List Nat),SetAt (byT w) h' s.heap.objs.size L->Dense h' s.heap.objs.size->(∀ u,u ∈ L ↔ u ∈ vals)->(∀ b o,b < s.heap.objs.size->s.heap.get? b = some o->h'.get? b = some o)->Q (.ref s.heap.objs.size) { s with heap:=h',toks:=tk }) :
  wpAny (model prog w) A (call (.type "set") [.ref l]) Q E s:=by
 obtain ⟨c,tl,hmro⟩:=F.called_set.mro
 have hmade:=F.called_set.made
 have hsub:=F.called_set.sub
 have hlen:items.size = vals.length:=by
  have:=hi.length
  simpa using this
 refine wpAny_call (codeAny_of_tree ?_)
 show wpAny _ _ (callAny (.type "set") _) _ _ _; refine wpAny_pure ⟨Code.quiet_builtin _ (by decide +kernel),codeAny_builtin F.entry_type_call ?_⟩
 rw [Around.under_plain (weight_type_call_type "set" [.ref l] []) rfl]; have h1:=F.called_set.notType
 have h2:=F.called_set.canCreate
 have hct:=F.typeCall_set_1 (.ref l)
 repeat (any_goals (first | assumption | wp_step))
 refine codeAny_mono (c2X (.ref l) (E:=E) (Q:=λ obj s₁=>obj = .ref s.heap.objs.size/\s₁ = { s with heap:=s.heap.push (setO #[] 0 (.fresh 0 0 (!byT w))) }) ⟨rfl,rfl⟩) λ r s₁ hr=>?_
 cases r with
 | error e=>exact hr
 | ok fl =>
  cases fl with
  | ret obj =>
   obtain ⟨rfl,rfl⟩:=hr
   have gS:(s.heap.push (setO #[] 0 (.fresh 0 0 (!byT w)))).get? s.heap.objs.size = some (setO #[] 0 (.fresh 0 0 (!byT w))):=Heap.get?_push_size _ rfl
   have hT:Shared.TypeIs { s with heap:=s.heap.push (setO #[] 0 (.fresh 0 0 (!byT w))) } (.ref s.heap.objs.size) "set" := ⟨_,gS,rfl⟩
   have hli:=F.called_set.init.lookup
   have hbi:=F.called_set.init.bind (.ref s.heap.objs.size)
   repeat (any_goals (first | assumption | wp_step))
   refine codeAny_mono (codeAny_call_builtin (R:=wants (λ r s₂=>r = .none/\∃ h' tk L,s₂ = { s with heap:=h',toks:=tk }/\SetAt (byT w) h' s.heap.objs.size L/\Dense h' s.heap.objs.size/\(∀ u,u ∈ L ↔ u ∈ vals) /\
     (∀ b o,b < s.heap.objs.size->s.heap.get? b = some o->h'.get? b = some o)) E) F.called_set.init.plain F.entry_set_init (check_set_init_1 hT ?_)) λ r₂ s₂ hr₂=>?_
   ·obtain ⟨ol,hol,hcl,nl,hdl⟩:=hl
    obtain ⟨ocls,odict,odata,oslots⟩:=ol
    simp only at hcl hdl
    subst hcl; subst hdl
    have hol':(s.heap.push (setO #[] 0 (.fresh 0 0 (!byT w)))).get? l = some { cls:=.type "list", dict:=odict,data:=.seq items nl,slots:=oslots }:=Heap.get?_push_of_some _ hol
    have hsls:=F.sub_list_set
    have hslf:=F.sub_list_frozenset
    have hne:(Value.type "list" == Value.type "dict") = false:=by decide
    have hl1:(s.heap.push (setO #[] 0 (.fresh 0 0 (!byT w)))).IsList l items:=⟨_,hol',rfl,nl,rfl⟩
    unfold Builtin.«set.__init__» noKeywords Builtin.Frozenset.updateFrom
    generalize hPI:pyIter = PI
    wp_walk
    subst hPI
    refine wpAny_pyIter_list hl1 (wpAny_bind (wpAny_runValue ?_))
    have ll:l < s.heap.objs.size:=Heap.lt_size hol
    have hh3:A.in1.in1.in1.handled = none:=by simp [hh]
    have ni:l ≠ (s.heap.push (setO #[] 0 (.fresh 0 0 (!byT w)))).objs.size:=by rw [Heap.size_push]; exact Nat.ne_of_lt (Nat.lt_succ_of_lt ll)
    have nf:s.heap.objs.size ∉ [(s.heap.push (setO #[] 0 (.fresh 0 0 (!byT w)))).objs.size,l]:=by
     rw [Heap.size_push]; simp only [List.mem_cons,List.not_mem_nil,or_false,not_or]
     exact ⟨Nat.ne_of_lt (Nat.lt_succ_self _),Nat.ne_of_gt ll⟩
    have hval:∀ (i:Nat) (v:Value),i < items.size->items[i]? = some v->∃ t,v = .int (((λ i=>vals.getD i 0) i:Nat):Int) t:=λ i v li hv=>by
     obtain ⟨t,e⟩:=PyProof.Rows.IntsAre.int_at hi i v (by rw [Array.getElem?_toList]; exact hv)
     have lv:i < vals.length:=by omega
     refine ⟨t,?_⟩
     rw [e]
     simp [List.getD,lv]
    refine c2W ((Walks.list hh3 _ l ni items).toS) s.heap.objs.size nf (λ i=>vals.getD i 0) hval (λ i li=>?_) (items.size - 0) 0 _ [] (by omega) (Nat.zero_le _) ⟨⟨_,Heap.get?_push_size _ rfl,rfl,rfl⟩,(hl1.push _)⟩ ?hS0 ?hD0 (λ u=>by simp) ?hR
    ·have lv:i < vals.length:=by omega
     refine lt _ ?_
     simp [List.getD,lv]
    case hS0=>exact ⟨#[],0,_,Heap.get?_push_of_some _ gS,.nil,b2I _⟩
    case hD0=>exact ⟨#[],0,_,Heap.get?_push_of_some _ gS,.inl rfl⟩
    case hR =>
     intro s' L' hm hS' hD' mem
     obtain ⟨h',g',d',tk',os'⟩:=s'
     have eg:g' = s.gens:=hm.gens
     have ed:d' = s.drawn:=hm.drawn
     have eo:os' = s.os:=hm.os
     subst eg; subst ed; subst eo
     show wpAny _ _ _ _ _ _
     refine wpAny_pure ?_
     show wpAny _ _ (ret Value.none) _ _ _; refine wpAny_pure ⟨rfl,h',tk',L',rfl,hS',hD',λ u=>?_,λ b o hb e=>?_⟩
     ·rw [mem u]
      constructor
      ·rintro ⟨j,hj,rfl⟩
       have lv:j < vals.length:=by omega
       simp [List.getD,lv]
      ·intro hu
       obtain ⟨j,hj,e⟩:=List.getElem_of_mem hu
       exact ⟨j,by omega,by simp [List.getD,hj,e]⟩
     ·have b1:b ≠ s.heap.objs.size:=Nat.ne_of_lt hb
      have b2:b ≠ (s.heap.push (setO #[] 0 (.fresh 0 0 (!byT w)))).objs.size:=by rw [Heap.size_push]; exact Nat.ne_of_lt (Nat.lt_succ_of_lt hb)
      exact hm.heap b o (by simp only [List.mem_cons,List.not_mem_nil,or_false,not_or]; exact ⟨b1,b2⟩) (Heap.get?_push_of_some _ (Heap.get?_push_of_some _ e))
   ·cases r₂ with
    | error e=>exact hr₂
    | ok fl₂ =>
     cases fl₂ with
     | ret r =>
      obtain ⟨rfl,h',tk,L,rfl,q1,q2,q3,q4⟩:=hr₂
      repeat (any_goals (first | assumption | wp_step))
      exact h _ _ L q1 q2 q3 q4
     | _=>exact hr₂.elim
  | _=>exact hr.elim
end
end Sm
set_option maxHeartbeats 4100000
namespace L2
open PySem PySem.Spec PyProof.Rows Sm
def SetV (w:World) (a:Addr) (d:Bool) (L:List Nat):HO:=.ext λ h=>SetAt (byT w) h a L/\(d = true->Dense h a)
def a9R (ns:List Int):Prop:=∀ n ∈ ns,0 <= n/\n < 16
def upF (p:Int->Bool):List Int:=((List.range 16).map λ i=>((i:Nat):Int)).filter p
theorem b5W (p:Int->Bool):(upF p).Pairwise (· < ·):=by
 unfold upF
 refine List.Pairwise.filter _ ?_
 rw [List.pairwise_map]
 exact List.pairwise_lt_range.imp λ h=>by omega
theorem mem_upF {p:Int->Bool} {v:Int}:v ∈ upF p ↔ 0 <= v/\v < 16/\p v = true:=by
 unfold upF
 rw [List.mem_filter,List.mem_map]
 constructor
 ·rintro ⟨⟨i,hi,rfl⟩,h⟩
  have:=List.mem_range.mp hi
  exact ⟨by omega,by omega,h⟩
 ·rintro ⟨h0,h1,h⟩
  exact ⟨⟨v.toNat,List.mem_range.mpr (by omega),by omega⟩,h⟩
theorem c5Q:∀ {xs ys:List Int},xs.Pairwise (· < ·)->ys.Pairwise (· < ·)->(∀ v,v ∈ xs ↔ v ∈ ys)->xs = ys
 | [],[],_,_,_=>rfl
 | [],y :: ys,_,_,h=>absurd ((h y).mpr List.mem_cons_self) List.not_mem_nil
 | x :: xs,[],_,_,h=>absurd ((h x).mp List.mem_cons_self) List.not_mem_nil
 | x :: xs,y :: ys,hx,hy,h=>by
  obtain ⟨x1,x2⟩:=List.pairwise_cons.mp hx
  obtain ⟨y1,y2⟩:=List.pairwise_cons.mp hy
  have e:x = y:=by
   rcases List.mem_cons.mp ((h x).mp List.mem_cons_self) with e | e
   ·exact e
   ·rcases List.mem_cons.mp ((h y).mpr List.mem_cons_self) with f | f
    ·exact f.symm
    ·have a:=y1 x e
     have b:=x1 y f
     omega
  subst e
  congr 1
  refine c5Q x2 y2 λ v=>?_
  constructor
  ·intro q
   rcases List.mem_cons.mp ((h v).mp (List.mem_cons_of_mem _ q)) with e | e
   ·subst e; have:=x1 v q; omega
   ·exact e
  ·intro q
   rcases List.mem_cons.mp ((h v).mpr (List.mem_cons_of_mem _ q)) with e | e
   ·subst e; have:=y1 v q; omega
   ·exact e
def c7S (w:World) (K:Φρ):List V->Hp->VK->Prop:=λ xs H Q=>∃ l ns,xs = [.ref l]/\SqL K H l (List.map V.int ns)/\a9R ns/\∀ p L H',New H p (SetV w p true L) H'->(∀ u:Nat,u ∈ L ↔ (u:Int) ∈ ns)->Q (.ref p) H'
def rOrS (w:World):R2:=λ x y H Q=>∃ a b L1 L2,x = .ref a/\y = .ref b/\a ≠ b/\H a = some (SetV w a true L1)/\H b = some (SetV w b true L2)/\∀ p L H',New H p (SetV w p false L) H'->(∀ u:Nat,u ∈ L ↔ u ∈ L1\/u ∈ L2)->Q (.ref p) H'
def c5R (w:World):List V->Hp->VK->Prop:=λ xs H Q=>∃ a d L,xs = [.ref a]/\H a = some (SetV w a d L)/\∀ p H',New H p (.lst ((upF λ v=>decide (v.toNat ∈ L)).map V.int)) H'->Q (.ref p) H'
theorem a9S:∀ {vs:List Value} {ns:List Int},IntsAre vs ns->Vals (ns.map V.int) vs
 | _,_,.nil=>.nil
 | _,_,.cons n t r=>.cons ⟨t,rfl⟩ (a9S r)
theorem b9E {xs:List Int} {L:List Nat} (pm:xs.Perm (L.map λ v=>((v:Nat):Int))) (nd:L.Nodup) (lt:∀ v ∈ L,v < 16) (le:xs.Pairwise (· <= ·)):xs = upF λ v=>decide (v.toNat ∈ L):=by
 have nd2:xs.Nodup:=pm.nodup_iff.mpr (by
  unfold List.Nodup
  rw [List.pairwise_map]
  exact nd.imp λ h e=>h (by omega))
 have lt2:xs.Pairwise (· < ·):=by
  unfold List.Nodup at nd2
  exact (le.and nd2).imp λ h=>by omega
 refine c5Q lt2 (b5W _) λ v=>?_
 rw [pm.mem_iff,mem_upF,List.mem_map]
 constructor
 ·rintro ⟨u,hu,rfl⟩
  have:=lt u hu
  exact ⟨by omega,by omega,decide_eq_true (by rw [Int.toNat_natCast]; exact hu)⟩
 ·rintro ⟨h0,h1,h⟩
  exact ⟨v.toNat,of_decide_eq_true h,by omega⟩
section
variable {X:Cx} {K:Φρ} {w:World}
theorem b5X {H:Hp} {h:Heap} {a:Addr} {d:Bool} {L:List Nat} {P:Program} {w':World} (S:SetAt (byT w) h a L) (D:d = true->Dense h a):ObjOk P w' H h a (SetV w a d L):=by
 refine ⟨⟨S,D⟩,?_,?_⟩
 ·obtain ⟨_,_,_,ho,_⟩:=S
  exact ⟨_,ho⟩
 ·rintro h1 h2 ⟨s1,d1⟩ k
  exact ⟨s1.keep k,λ e=>(d1 e).keep k⟩
theorem a4M (ek:X.K = K) (ew:X.w = w) (cm:X.calm = true):CallR X (.type "set") (c7S w K):=by
 subst ek; subst ew
 intro pins s σ H xs us Q I r h
 obtain ⟨l,ns,rfl,hL,sm,q⟩:=h
 obtain ⟨u,rfl,rx⟩:=a8X r
 cases rx
 obtain ⟨its,r',pl,hz⟩:=I.list hL
 have hi:=b0Y r'
 have e:(ns.map Int.toNat).map (λ v=>((v:Nat):Int)) = ns:=by
  rw [List.map_map]
  have:∀ n ∈ ns,((λ v=>((v:Nat):Int)) ∘ Int.toNat) n = id n:=λ n hn=>by
   have:=(sm n hn).1
   show ((n.toNat:Nat):Int) = n
   omega
  rw [List.map_congr_left this,List.map_id]
 refine c5P (vals:=ns.map Int.toNat) (I.ok.hd cm) pl.isList (by rw [e]; simpa using hi) (λ v hv=>?_) λ h' tk L S D mem k=>?_
 ·obtain ⟨n,hn,rfl⟩:=List.mem_map.mp hv
  have:=sm n hn
  omega
 ·have hf:H s.heap.objs.size = none:=I.hok.fresh (Nat.le_refl _)
  refine ⟨.ref s.heap.objs.size,_,I.laid (t':=tk) (o:=SetV X.w s.heap.objs.size true L) (λ b o eo=>k b o (Heap.lt_size eo) eo) (Nat.le_refl _) (b5X S λ _=>D),rfl,q _ L _ (New.mk0 hf) λ u=>?_⟩
  rw [mem u,List.mem_map]
  constructor
  ·rintro ⟨n,hn,rfl⟩
   have:=(sm n hn).1
   have e2:((n.toNat:Nat):Int) = n:=by omega
   rw [e2]; exact hn
  ·intro hn
   exact ⟨_,hn,by omega⟩
theorem c5S (ew:X.w = w):OpR X (binaryOp .BitOr) (rOrS w):=by
 subst ew
 intro pins s σ H x y v u Q I rx ry h
 obtain ⟨a,b,L1,L2,rfl,rfl,ne,hA,hB,q⟩:=h
 cases rx
 cases ry
 obtain ⟨⟨S1,D1⟩,_⟩:=I.hok a _ hA
 obtain ⟨⟨S2,D2⟩,_⟩:=I.hok b _ hB
 refine c7Q ne S1 (D1 rfl) S2 (D2 rfl) λ h' L k S mem=>?_
 have hf:H s.heap.objs.size = none:=I.hok.fresh (Nat.le_refl _)
 exact ⟨.ref s.heap.objs.size,_,I.laid (t':=s.toks) (o:=SetV X.w s.heap.objs.size false L) (λ b o eo=>k b o eo) (Nat.le_refl _) (b5X S λ e=>by cases e),rfl,q _ L _ (New.mk0 hf) mem⟩
theorem a9T (ew:X.w = w) (cm:X.calm = true):CallR X (.builtin "sorted") (c5R w):=by
 subst ew
 intro pins s σ H xs us Q I r h
 obtain ⟨a,d,L,rfl,hA,q⟩:=h
 obtain ⟨u,rfl,rx⟩:=a8X r
 cases rx
 obtain ⟨⟨S,_⟩,_⟩:=I.hok a _ hA
 obtain ⟨_,_,t,_,_,T⟩:=id S
 refine b3T (I.ok.hd cm) S λ h' tk p vs n ns k hp ho hi pm le=>?_
 have e:=b9E pm T.nd T.lt le
 subst e
 have l16:(upF λ v=>decide (v.toNat ∈ L)).length <= 16:=by rw [pm.length_eq,List.length_map]; exact T.len
 have hf:H p = none:=I.hok.fresh hp
 refine ⟨.ref p,_,I.laid (t':=tk) (o:=.lst ((upF λ v=>decide (v.toNat ∈ L)).map V.int)) k hp ⟨?_,vs,n,a9S hi,ho⟩,rfl,q p _ (New.mk0 hf)⟩
 rw [List.length_map,sizeLine_eq]
 omega
end
end L2
namespace L2
open PySem PySem.Spec PySem.Calls PyProof.Rows
section
variable {X:Cx}
theorem a7K:∀ (n:Nat) (acc:List Value),(∀ i:Nat,i < n->∃ t,acc[i]? = some (Value.int ((i:Nat):Int) t))->acc.length = n->Vals ((List.range n).map λ i=>V.int ((i:Nat):Int)) acc
 | 0,acc,_,hl=>by rw [List.eq_nil_of_length_eq_zero hl]; exact .nil
 | n + 1,acc,h,hl=>by
  have hne:acc ≠ []:=λ z=>by rw [z] at hl; cases hl
  have e:=(List.dropLast_concat_getLast hne).symm
  have ld:acc.dropLast.length = n:=by rw [List.length_dropLast]; omega
  rw [List.range_succ,List.map_append,e]
  refine Vals.append (a7K n acc.dropLast (λ i hi=>?_) ld) ?_
  ·obtain ⟨t,et⟩:=h i (by omega)
   rw [e,List.getElem?_append_left (by omega)] at et
   exact ⟨t,et⟩
  ·obtain ⟨t,et⟩:=h n (by omega)
   rw [e,List.getElem?_append_right (by omega),ld] at et
   simp at et
   rw [et]
   exact .cons ⟨t,rfl⟩ .nil
theorem b3U {pins:List (Addr × Obj)} {σ:St} {H:Hp} {s:Shared} {Q:VK} {E:Value->Shared->Prop} {n:Nat} {t u v:Tok} {tk:Nat} (I:Inv X pins σ H s) (cm:X.calm = true) (hn:n <= 1000)
  (q:∀ p H',New H p (.lst ((List.range n).map λ i=>V.int ((i:Nat):Int))) H'->Q (.ref p) H') :
  wpAny (model X.prog X.w) X.A (call (.type "list") [.ref s.heap.objs.size]) (EP X pins σ Q) E { s with heap:=s.heap.push { cls:=.type "range", data:=.fields #[.int 0 t,.int n u,.int 1 v] },toks:=tk }:=by
 have I2:Inv X pins σ H { s with heap:=s.heap.push { cls:=.type "range", data:=.fields #[.int 0 t,.int n u,.int 1 v] },toks:=tk }:=I.kept λ b o e=>Heap.get?_push_of_some _ e
 refine call_list_range (I2.ok.hd cm) (IsRange.new ..) (small_one (by omega) (by omega) (by omega) (by omega)) (n:=n) (by rw [rangeSize_one]; split <;> omega) (by omega) λ h' tk' acc' c' hk hS hacc=>?_
 refine ⟨.ref _,_,I2.laid (t':=tk') hk (Nat.le_refl _) (show ObjOk X.prog X.w _ h' _ (.lst ((List.range n).map λ i=>V.int ((i:Nat):Int))) from ⟨?_,acc'.toList,c',?_,?_⟩),rfl,q _ _ (New.mk0 (I2.hok.fresh (Nat.le_refl _)))⟩
 ·rw [List.length_map,List.length_range]; exact Nat.le_of_lt (a0W hn)
 ·refine a7K n _ (λ i hi=>?_) ?_
  ·have hlt:i < acc'.size:=by have:=hacc.1; omega
   obtain ⟨t,e⟩:=hacc.2 i acc'[i] (Array.getElem?_eq_getElem hlt)
   refine ⟨t,?_⟩
   rw [Array.getElem?_toList,Array.getElem?_eq_getElem hlt,e]
   congr 2
   omega
  ·rw [Array.length_toList]; exact hacc.1
 ·simpa using hS
def c5T (ta:TA):TE:=λ σ H Q=>ta σ H λ vs H1=>∃ n:Nat,vs = [.int (n:Int)]/\n <= 1000/\∀ p H',New H1 p (.lst ((List.range n).map λ i=>V.int ((i:Nat):Int))) H'->Q (.ref p) H'
theorem a5Z {a:Expr} {ta:TA} {p p2 pos pos2:Pos} (cm:X.calm = true) (hm:X.mg "list" = none) (hm2:X.mg "range" = none) (ha:PA X [a] ta) (hg:Gl X "list" := by rfl) (hg2:Gl X "range" := by rfl)
  (hs:starEach [a] X.env = [(false,eval a X.env)]:=by rfl)
  (he:starEach [Expr.Call (.Name "range" p2) [a] [] pos2] X.env = [(false,eval (Expr.Call (.Name "range" p2) [a] [] pos2) X.env)]:=by rfl) :
  PE X (.Call (.Name "list" p) [.Call (.Name "range" p2) [a] [] pos2] [] pos) (c5T ta):=by
 intro pins s σ H Q I h
 refine wpAny_Call_Name_kw (a5G I hg hm (show bootBuiltins "list" = some (.type "list") by decide +kernel) ?_)
 refine PyProof.Rows.callWith_type1 ?_ he rfl
 rw [he]
 refine Calls.spliced_cons ?_
 refine Call_ (a5G I hg2 hm2 boot_range (PyProof.Rows.callWith_type1 (thn (ha pos2 pins s σ H _ I h) λ us s1 ⟨vs,H1,I1,r1,q1⟩=>?_) hs rfl))
 obtain ⟨n,e,hn,q⟩:=q1
 subst e
 cases r1 with
 | cons r rr =>
  cases rr
  obtain ⟨t,rfl⟩:=r
  refine call_range_1 ?_
  refine Calls.spliced_nil ?_
  exact b3U I1 cm hn q
end
end L2
namespace L2
open PySem PySem.Spec PyProof.Rows
section
variable {X:Cx}
end
end L2
namespace L2
open PySem PySem.Spec PyProof.Rows
section
variable {X:Cx}
def c7T:V->List V->Hp->VK->Prop:=λ x vs H Q=>∃ l xs y,x = .ref l/\vs = [y]/\H l = some (.lst xs)/\xs.length < 5000/\∀ H',Chg H l (.lst (xs ++ [y])) H'->Q .non H'
theorem a7L:MtM X "list.append" c7T:=mt_append.weak λ x vs H Q ⟨l,xs,y,e1,e2,h,z,q⟩=>⟨l,xs,y,e1,e2,h,Nat.lt_trans z (by decide),q _ Chg.mk0⟩
def c7U:R2:=λ x y H Q=>∃ l b xs zs,x = .ref l/\y = .ref b/\H l = some (.lst xs)/\H b = some (.lst zs)/\xs.length + zs.length <= 5000/\∀ p H',New H p (.lst (xs ++ zs)) H'->Q (.ref p) H'
theorem c2Y:OpR X (binaryOp .Add) c7U:=op_cat.weak λ x y H Q ⟨l,b,xs,zs,e1,e2,h1,h2,z,q⟩=>⟨l,b,xs,zs,e1,e2,h1,h2,Nat.le_trans z (by decide),λ p hp=>q p _ (New.mk0 hp)⟩
end
end L2
namespace L2
open PySem PySem.Spec PyProof.Rows
theorem us1 {A:Type} {us:List A} {P:List A->Prop} (h:us.length = 1) (f:∀ a,P [a]):P us:=by
 match us,h with
 | [a],_=>exact f a
theorem us2 {A:Type} {us:List A} {P:List A->Prop} (h:us.length = 2) (f:∀ a b,P [a,b]):P us:=by
 match us,h with
 | [a,b],_=>exact f a b
theorem us3 {A:Type} {us:List A} {P:List A->Prop} (h:us.length = 3) (f:∀ a b c,P [a,b,c]):P us:=by
 match us,h with
 | [a,b,c],_=>exact f a b c
theorem dn_mk1 {K:Φρ} {h:Heap} {mg:Str->Option Value} {x:Str} {st:Stmt} {ps:List Str} {f:Addr} {oc:Value} {od an:Option Addr} {osl:Array (Option Value)} {kV doc pm cdv ct:Value} (X:K.In h) (G:h.Ns mainGlobals mg)
  (a:PySem.W.nsIn K mainGlobals x = some (some (.ref f))) (l:K.lookup f = some ⟨oc,od,.func (PySem.W.fnOf x x (a1W st) (a1T st) (a0E st) .none kV doc pm an cdv ct),osl⟩) (c:PySem.W.codeIn K cdv x = true) (k:PySem.W.keepIn K (.ref f) = true)
  (hp:ps.length = 1)
  (hb:∀ (kV doc pm:Value) (an:Option Addr) (cdv ct:Value) (u0:Value),bindArgs (PySem.W.fnOf x x (a1W st) (a1T st) (a0E st) .none kV doc pm an cdv ct) ⟨[u0],[]⟩ = pure (ps.zip [u0])) :
  Nonempty (Dn K mg x st ps) :=
 c2D X G a l c k λ kV doc pm an cdv ct us hl=>us1 (P:=λ us=>bindArgs (PySem.W.fnOf x x (a1W st) (a1T st) (a0E st) .none kV doc pm an cdv ct) ⟨us,[]⟩ = pure (ps.zip us)) (hl.trans hp) λ u0=>hb kV doc pm an cdv ct u0
theorem dn_mk2 {K:Φρ} {h:Heap} {mg:Str->Option Value} {x:Str} {st:Stmt} {ps:List Str} {f:Addr} {oc:Value} {od an:Option Addr} {osl:Array (Option Value)} {kV doc pm cdv ct:Value} (X:K.In h) (G:h.Ns mainGlobals mg)
  (a:PySem.W.nsIn K mainGlobals x = some (some (.ref f))) (l:K.lookup f = some ⟨oc,od,.func (PySem.W.fnOf x x (a1W st) (a1T st) (a0E st) .none kV doc pm an cdv ct),osl⟩) (c:PySem.W.codeIn K cdv x = true) (k:PySem.W.keepIn K (.ref f) = true)
  (hp:ps.length = 2)
  (hb:∀ (kV doc pm:Value) (an:Option Addr) (cdv ct:Value) (u0 u1:Value),bindArgs (PySem.W.fnOf x x (a1W st) (a1T st) (a0E st) .none kV doc pm an cdv ct) ⟨[u0,u1],[]⟩ = pure (ps.zip [u0,u1])) :
  Nonempty (Dn K mg x st ps) :=
 c2D X G a l c k λ kV doc pm an cdv ct us hl=>us2 (P:=λ us=>bindArgs (PySem.W.fnOf x x (a1W st) (a1T st) (a0E st) .none kV doc pm an cdv ct) ⟨us,[]⟩ = pure (ps.zip us)) (hl.trans hp) λ u0 u1=>hb kV doc pm an cdv ct u0 u1
theorem dn_mk3 {K:Φρ} {h:Heap} {mg:Str->Option Value} {x:Str} {st:Stmt} {ps:List Str} {f:Addr} {oc:Value} {od an:Option Addr} {osl:Array (Option Value)} {kV doc pm cdv ct:Value} (X:K.In h) (G:h.Ns mainGlobals mg)
  (a:PySem.W.nsIn K mainGlobals x = some (some (.ref f))) (l:K.lookup f = some ⟨oc,od,.func (PySem.W.fnOf x x (a1W st) (a1T st) (a0E st) .none kV doc pm an cdv ct),osl⟩) (c:PySem.W.codeIn K cdv x = true) (k:PySem.W.keepIn K (.ref f) = true)
  (hp:ps.length = 3)
  (hb:∀ (kV doc pm:Value) (an:Option Addr) (cdv ct:Value) (u0 u1 u2:Value),bindArgs (PySem.W.fnOf x x (a1W st) (a1T st) (a0E st) .none kV doc pm an cdv ct) ⟨[u0,u1,u2],[]⟩ = pure (ps.zip [u0,u1,u2])) :
  Nonempty (Dn K mg x st ps) :=
 c2D X G a l c k λ kV doc pm an cdv ct us hl=>us3 (P:=λ us=>bindArgs (PySem.W.fnOf x x (a1W st) (a1T st) (a0E st) .none kV doc pm an cdv ct) ⟨us,[]⟩ = pure (ps.zip us)) (hl.trans hp) λ u0 u1 u2=>hb kV doc pm an cdv ct u0 u1 u2
end L2
namespace L2
open PySem PySem.Spec PyProof.Rows
section
variable {κ:Type} [DecidableEq κ]
end
section
variable {P:Program} {w:World} {H:Hp} {h:Heap} {a:Addr}
end
section
variable {X:Cx} {pins:List (Addr × Obj)} {σ:St} {H:Hp} {s:Shared} {a:Addr} {y v:V} {u r:Value} {o:Option V} {A:Around} {E:Value->Shared->Prop}
end
section
variable {X:Cx} {pins:List (Addr × Obj)} {σ:St} {H:Hp} {s:Shared} {a:Addr} {kvs:List (Key × V)} {k:Key} {u:Value} {A:Around} {E:Value->Shared->Prop}
end
section
variable {X:Cx} {o i e value:Expr} {pos pos' tpos:Pos} {td ty tv:TE}
end
section
variable {X:Cx} {pos:Pos}
end
end L2
namespace L2
open PySem PySem.Spec PyProof.Rows
section
variable {X:Cx}
end
end L2
namespace L2
open PySem PySem.Spec PyProof.Rows
section
variable {X:Cx} {pins:List (Addr × Obj)} {σ:St} {H:Hp} {s:Shared} {d:Addr} {kvs:List (Key × V)}
end
section
variable {X:Cx} {tg:Expr}
end
end L2
namespace L2
open PySem PySem.Spec PyProof.Rows
end L2
namespace L2
open PySem PySem.Spec PyProof.Rows
section
variable {X:Cx}
end
end L2
set_option maxHeartbeats 4100000
namespace Ls
open PySem PyProof.Rows PySem.Calls PySem.W PySem.SeqAt
open AutoSeq1 (wpAny_loadPart')
open MeetsSeq MeetsSeq2 MeetsSeq3
section
variable {prog:Program} {w:World} {A:Around} {E:Value->Shared->Prop} {s:Shared}
end
end Ls
set_option maxHeartbeats 4100000
namespace Srt
open PySem PyProof.Rows PySem.Calls PySem.W
section
variable {prog:Program} {wo:World} {A:Around} {E:Value->Shared->Prop} {s:Shared}
end
end Srt
namespace L2
open PySem PySem.Spec PyProof.Rows Bg Srt
def LstV (K:Φρ) (H:Hp) (v:V) (ns:List Int):Prop:=∃ p,v = .ref p/\SqL K H p (ns.map V.int)
section
variable {X:Cx} {K:Φρ}
end
end L2
set_option maxHeartbeats 2000000
namespace Sm
open PySem PySem.Builtin.Frozenset
section
variable {prog:Program} {w:World} {A:Around} {E:Value->Shared->Prop} {s:Shared} {a b:Addr} {L L1 L2:List Nat} {B:Bool}
end
end Sm
set_option maxHeartbeats 4100000
namespace L2
open PySem PySem.Spec PyProof.Rows Sm
def c7V (w:World):List V->Hp->VK->Prop:=λ xs H Q=>∃ a d L,xs = [.ref a]/\H a = some (SetV w a d L)/\Q (.int ((L.length:Nat):Int)) H
section
variable {X:Cx} {K:Φρ} {w:World}
theorem b5Y (ew:X.w = w):CallR X (.builtin "len") (c7V w):=by
 subst ew
 intro pins s σ H xs us Q I r h
 obtain ⟨a,d,L,rfl,hA,q⟩:=h
 obtain ⟨u,rfl,rx⟩:=a8X r
 cases rx
 obtain ⟨⟨S,_⟩,_⟩:=I.hok a _ hA
 obtain ⟨es,ep,t,ho,hE,T⟩:=id S
 have l16:=T.len
 refine call_len_set ho ⟨rfl,rfl,rfl⟩ rfl (by rw [hE.len]; exact T.fits) (by rw [hE.len]; omega) ?_
 exact ⟨.int ((L.length:Nat):Int),H,I.tok _,⟨_,by rw [hE.len]⟩,q⟩
end
end L2
namespace L2
open PySem PySem.Spec PyProof.Rows Sm
def c5U (w:World):List V->Hp->VK->Prop:=λ xs H Q=>∃ a d L,xs = [.ref a]/\H a = some (SetV w a d L)/\(L.Nodup->Q (.int ((L.length:Nat):Int)) H)
theorem a7M {X:Cx} {w:World} (ew:X.w = w):CallR X (.builtin "len") (c5U w):=by
 intro pins s σ H xs us Q I r h
 obtain ⟨a,d,L,rfl,hA,q⟩:=h
 obtain ⟨⟨S,_⟩,_⟩:=I.hok a _ hA
 obtain ⟨_,_,t,_,_,T⟩:=id S
 exact b5Y ew pins s σ H _ us Q I r ⟨a,d,L,rfl,hA,q T.nd⟩
end L2
namespace K
open PySem L2 Lw Bg
def top (i:Nat):Stmt:=PySem.Challenge.pw_bagwood_k49_whole_low_widths.main.body.getD i (.Pass ⟨0,0,0,0⟩)
abbrev a7N:Stmt:=top 4
theorem b1G:FnScope ["thing"] ["thing"] (a0E a7N):=⟨rfl,rfl,rfl,by decide +kernel,rfl,by decide +kernel,by decide +kernel⟩
abbrev a7O:Stmt:=top 5
theorem b1H:FnScope ["n", "thing"] ["n", "thing"] (a0E a7O):=⟨rfl,rfl,rfl,by decide +kernel,rfl,by decide +kernel,by decide +kernel⟩
def c2Z (K:Φρ):Sp:=λ vs H Q _=>∃ (x:V) (t:Value) (bi bb:Bool),vs = [x]/\TyOf K H x t/\PySem.W.kitOne K t (.type "int") = some bi/\PySem.W.kitOne K t (.type "bool") = some bb/\Q (.bl (bi && !bb)) H
def c3A:Sp:=λ vs H Q _=>∃ (n:Int) (o:Option Int),vs = [.int n,upV o]/\Q (.bl (a6E n o)) H
section
variable {P:Program} {w:World} {K:Φρ} {mg:Str->Option Value} {base:Heap}
abbrev DZ17 (K:PySem.W.Frag) (mg:Str->Option Value):=Dn K mg "is_whole" a7N ["thing"]
set_option maxHeartbeats 4000000 in
theorem b1I (B:Bl mg) (dZ17:DZ17 K mg):FnOk P w K mg base CX0 1 dZ17.f dZ17.fd ["thing"] (c2Z K):=by
 refine dZ17.F.ok b1G (λ vs H Q E h=>?_) (λ cdv A outer s H vs Q E hr h=>?_)
 ·obtain ⟨x,t,bi,bb,rfl,_⟩:=h
  rfl
 obtain ⟨x,t,bi,bb,rfl,ty,h1,h2,q⟩:=h
 refine ⟨_,(a0D (a0M (b1V (a0K (a2C (K:=K) rfl) rfl B.isinstance (by decide +kernel) (a0A (pv 0) (a0A (a6A (v:=.ty "int") (u:=.type "int") rfl B.int (by decide +kernel) rfl) a0B))) (b1U (c4M (a0K (a2C (K:=K) rfl) rfl B.isinstance (by decide +kernel) (a0A (pv 0) (a0A (a6A (v:=.ty "bool") (u:=.type "bool") rfl B.bool (by decide +kernel) rfl) a0B)))))))),?_⟩
 refine ⟨_,rfl,_,_,_,_,_,rfl,rfl,ty,h1,_,rfl,?_⟩
 cases bi with
 | true =>
  refine iteT ?_
  exact ⟨_,rfl,_,_,_,_,_,rfl,rfl,ty,h2,_,rfl,q⟩
 | false=>exact iteF q
abbrev DZ15 (K:PySem.W.Frag) (mg:Str->Option Value):=Dn K mg "is_below" a7O ["n", "thing"]
set_option maxHeartbeats 4000000 in
theorem b1J (B:Bl mg) (dZ17:DZ17 K mg) (dZ15:DZ15 K mg):FnOk P w K mg base CX0 2 dZ15.f dZ15.fd ["n", "thing"] c3A:=by
 have gZ17:FnOk P w K mg base CX0 1 _ _ _ _:=b1I B dZ17
 refine dZ15.F.ok b1H (λ vs H Q E h=>?_) (λ cdv A outer s H vs Q E hr h=>?_)
 ·obtain ⟨n,i,rfl,_⟩:=h
  rfl
 obtain ⟨n,o,rfl,q⟩:=h
 refine ⟨_,(a0D (a0M (b1V (a0G gZ17 hr rfl dZ17.m dZ17.F.kp dZ17.b .nil a0L (a0A (pv 1) a0B)) (b1U (b8F b8E b3F a0F (pv 1) (pv 0)))))),?_⟩
 cases o with
 | none=>exact ⟨_,rfl,_,_,_,_,rfl,TyOf.non,b0T,a9M,_,rfl,iteF q⟩
 | some i =>
  refine ⟨_,rfl,_,_,_,_,rfl,TyOf.int i,b0S,a9L,_,rfl,?_⟩
  refine iteT ?_
  refine ⟨_,rfl,_,_,rfl,rfl,_,rfl,?_⟩
  refine ite2 (λ c=>?_) (λ c=>?_)
  ·have c':0 <= i:=of_decide_eq_true c
   refine ⟨_,rfl,_,_,rfl,rfl,?_⟩
   have e:a6E n (some i) = decide (i < n):=by unfold a6E; simp [c']
   rw [e] at q; exact q
  ·have c':¬ 0 <= i:=of_decide_eq_false (Bool.eq_false_iff.mpr c)
   have e:a6E n (some i) = false:=by unfold a6E; simp [c']
   rw [e] at q; exact q
end
def a3X (xs ys:List Int):List Int:=xs.filter λ v=>!decide (v ∈ ys)
def a0Q (xs ys:List Int):List Int:=xs.filter λ v=>decide (v ∈ ys)
def a0R (ts:List ζζ) (v:Int):List Int :=
 (ts.filterMap λ t=>if t.2 = v then some t.1 else none) ++ ts.filterMap λ t=>if t.1 = v then some t.2 else none
def c5V (K:Φρ):Sp:=λ vs H Q _=>∃ (a b:Addr) (xs ys:List Int),vs = [.ref a,.ref b]/\SqL K H a (xs.map V.int)/\SqL K H b (ys.map V.int)/\xs.length <= 1000 /\
 ∀ H0 p H',Same H H0->New H0 p (.lst ((a3X xs ys).map V.int)) H'->Q (.ref p) H'
def b9F (K:Φρ):Sp:=λ vs H Q _=>∃ (a b:Addr) (xs ys:List Int),vs = [.ref a,.ref b]/\SqL K H a (xs.map V.int)/\SqL K H b (ys.map V.int)/\xs.length <= 1000 /\
 ∀ H0 p H',Same H H0->New H0 p (.lst ((a0Q xs ys).map V.int)) H'->Q (.ref p) H'
def b9G (K:Φρ):Sp:=λ vs H Q _=>∃ (g:V) (n:Int) (ts:List ζζ) (v:Int),vs = [g,.int v]/\GraphV K H g n ts/\0 <= v/\v < n/\ts.length <= 400 /\
 ∀ H0 p H',Same H H0->New H0 p (.lst ((a0R ts v).map V.int)) H'->Q (.ref p) H'
theorem c0X (xs:List Int) (c:Int->Bool):(xs.map V.int).filterMap (λ x=>match x with | .int v=>if c v then some (.int v) else none | _=>none) = (xs.filter c).map V.int:=by
 induction xs with
 | nil=>rfl
 | cons x r ih =>
  rw [List.map_cons,List.filter_cons]
  cases e:c x with
  | true=>rw [List.filterMap_cons_some (by simp only [e]; rfl),ih]; simp
  | false=>rw [List.filterMap_cons_none (by simp only [e]; rfl),ih]; simp
theorem a8F {α β:Type} (f:α->Option β):∀ ts:List α,(List.range ts.length).filterMap (λ j=>(ts[j]?).bind f) = ts.filterMap f
 | []=>rfl
 | t :: r=>by
  rw [List.length_cons,List.range_succ_eq_map]
  have ih:=a8F f r
  have e2:(List.map Nat.succ (List.range r.length)).filterMap (λ j=>((t :: r)[j]?).bind f) = r.filterMap f:=by
   rw [List.filterMap_map,<- ih]
   rfl
  cases e:f t with
  | none=>rw [List.filterMap_cons_none (by simpa using e),List.filterMap_cons_none e,e2]
  | some b=>rw [List.filterMap_cons_some (b:=b) (by simpa using e),List.filterMap_cons_some e,e2]
theorem b5Z {α:Type} (f:α->Option Int) (g:α->Option V) (h:∀ a,g a = (f a).map V.int) (ts:List α):ts.filterMap g = (ts.filterMap f).map V.int:=by
 rw [List.map_filterMap]
 congr 1
 exact funext h
abbrev b2K:Stmt:=top 8
theorem b6A:FnScope ["one", "other"] ["one", "other"] (a0E b2K):=⟨rfl,rfl,rfl,by decide +kernel,rfl,by decide +kernel,by decide +kernel⟩
section
variable {P:Program} {w:World} {K:Φρ} {mg:Str->Option Value} {base:Heap}
abbrev DZ21 (K:PySem.W.Frag) (mg:Str->Option Value):=Dn K mg "less" b2K ["one", "other"]
set_option maxHeartbeats 4000000 in
theorem a5C (B:Bl mg) (dZ21:DZ21 K mg):FnOk P w K mg base CX0 1 dZ21.f dZ21.fd ["one", "other"] (c5V K):=by
 refine dZ21.F.ok b6A (λ vs H Q E h=>?_) (λ cdv A outer s H vs Q E hr h=>?_)
 ·obtain ⟨a,b,xs,ys,rfl,_⟩:=h
  rfl
 obtain ⟨a,b,xs,ys,rfl,hA,hB,hz,q⟩:=h
 have hv:(A.deeper (PyProof.Rows.envOfC "less" (a0E b2K) s.heap.objs.size dZ21.f cdv)).units + 65 < cLine:=by have:=hr.un; omega
 refine ⟨_,(a0D (a0M (a9K ["v", "other"] [none,some 1]  (by kernel_rfl) rfl (a1G (K:=K) rfl (pv 0)) (λ _ _ _ _ _=>(a0H (i:=0) (show (["v", "other"]:List Str).Nodup by decide +kernel) rfl (Or.inl rfl))) (λ _ _ _ _ _=>(a2P (a1C (a3R (K:=K) rfl hv) (pv 0) (pv 1) (by with_unfolding_all rfl)))) (λ _ _ _ _ _=>(pv 0))))),?_⟩
 refine ⟨_,rfl,a,rfl,⟨_,hA⟩,?_⟩
 refine b2B (λ x=>match x with | .int v=>if !decide (v ∈ ys) then some (.int v) else none | _=>none) hA (by rw [List.length_map]; exact hz) (λ x H1 N hx sm hN=>?_) (λ H1 p H1' sm hp=>?_)
 ·obtain ⟨v,hv,rfl⟩:=List.mem_map.mp hx
  have hN':=hN H1 sm
  refine ⟨_,rfl,_,rfl,a9N (sm.seq hB) ⟨_,rfl,?_⟩⟩
  dsimp only at hN'
  cases c:decide (v ∈ ys) with
  | true=>rw [c] at hN'; exact iteF hN'
  | false=>rw [c] at hN'; exact iteT ⟨_,rfl,hN'⟩
 ·rw [c0X] at hp
  exact q _ _ _ sm hp
end
abbrev a8G:Stmt:=top 6
theorem b6B:FnScope ["one", "other"] ["one", "other"] (a0E a8G):=⟨rfl,rfl,rfl,by decide +kernel,rfl,by decide +kernel,by decide +kernel⟩
section
variable {P:Program} {w:World} {K:Φρ} {mg:Str->Option Value} {base:Heap}
abbrev DZ7 (K:PySem.W.Frag) (mg:Str->Option Value):=Dn K mg "common" a8G ["one", "other"]
set_option maxHeartbeats 4000000 in
theorem a3I (B:Bl mg) (dZ7:DZ7 K mg):FnOk P w K mg base CX0 1 dZ7.f dZ7.fd ["one", "other"] (b9F K):=by
 refine dZ7.F.ok b6B (λ vs H Q E h=>?_) (λ cdv A outer s H vs Q E hr h=>?_)
 ·obtain ⟨a,b,xs,ys,rfl,_⟩:=h
  rfl
 obtain ⟨a,b,xs,ys,rfl,hA,hB,hz,q⟩:=h
 have hv:(A.deeper (PyProof.Rows.envOfC "common" (a0E a8G) s.heap.objs.size dZ7.f cdv)).units + 65 < cLine:=by have:=hr.un; omega
 refine ⟨_,(a0D (a0M (a9K ["v", "other"] [none,some 1]  (by kernel_rfl) rfl (a1G (K:=K) rfl (pv 0)) (λ _ _ _ _ _=>(a0H (i:=0) (show (["v", "other"]:List Str).Nodup by decide +kernel) rfl (Or.inl rfl))) (λ _ _ _ _ _=>(a2P (a1C (b0U (K:=K) rfl hv) (pv 0) (pv 1) (by with_unfolding_all rfl)))) (λ _ _ _ _ _=>(pv 0))))),?_⟩
 refine ⟨_,rfl,a,rfl,⟨_,hA⟩,?_⟩
 refine b2B (λ x=>match x with | .int v=>if decide (v ∈ ys) then some (.int v) else none | _=>none) hA (by rw [List.length_map]; exact hz) (λ x H1 N hx sm hN=>?_) (λ H1 p H1' sm hp=>?_)
 ·obtain ⟨v,hv,rfl⟩:=List.mem_map.mp hx
  have hN':=hN H1 sm
  refine ⟨_,rfl,_,rfl,b5B (sm.seq hB) ⟨_,rfl,?_⟩⟩
  dsimp only at hN'
  cases c:decide (v ∈ ys) with
  | true=>rw [c] at hN'; exact iteT ⟨_,rfl,hN'⟩
  | false=>rw [c] at hN'; exact iteF hN'
 ·rw [c0X] at hp
  exact q _ _ _ sm hp
end
abbrev b6C:Stmt:=top 7
theorem b9H:FnScope ["one", "other"] ["one", "other"] (a0E b6C):=⟨rfl,rfl,rfl,by decide +kernel,rfl,by decide +kernel,by decide +kernel⟩
theorem a9U {p q:Int->Bool} (h:∀ v,0 <= v->v < 16->p v = q v):upF p = upF q:=by
 unfold upF
 refine List.filter_congr λ v hv=>?_
 obtain ⟨i,hi,rfl⟩:=List.mem_map.mp hv
 have:=List.mem_range.mp hi
 exact h _ (by omega) (by omega)
def a0N (xs ys:List Int):List Int:=upF λ v=>decide (v ∈ xs\/v ∈ ys)
def c3B (K:Φρ):Sp:=λ vs H Q _=>∃ (a b:Addr) (xs ys:List Int),vs = [.ref a,.ref b]/\SqL K H a (xs.map V.int)/\SqL K H b (ys.map V.int)/\a9R xs/\a9R ys /\
 ∀ H0 p H',Same H H0->New H0 p (.lst ((a0N xs ys).map V.int)) H'->Q (.ref p) H'
section
variable {P:Program} {w:World} {K:Φρ} {mg:Str->Option Value} {base:Heap}
abbrev DZ18 (K:PySem.W.Frag) (mg:Str->Option Value):=Dn K mg "joint" b6C ["one", "other"]
set_option maxHeartbeats 4000000 in
theorem a8H (B:Bl mg) (dZ18:DZ18 K mg):FnOk P w K mg base CX0 1 dZ18.f dZ18.fd ["one", "other"] (c3B K):=by
 refine dZ18.F.ok b9H (λ vs H Q E h=>?_) (λ cdv A outer s H vs Q E hr h=>?_)
 ·obtain ⟨a,b,xs,ys,rfl,_⟩:=h
  rfl
 obtain ⟨a,b,xs,ys,rfl,hA,hB,sA,sB,q⟩:=h
 refine ⟨_,(a0D (a0M (a0K (a9T (w:=w) rfl rfl) rfl B.sorted (by decide +kernel) (a0A (a0O (c5S (w:=w) rfl) (a2I (a4M (K:=K) (w:=w) rfl rfl rfl) rfl B.set (by decide +kernel) (a0A (pv 0) a0B)) (a2I (a4M (K:=K) (w:=w) rfl rfl rfl) rfl B.set (by decide +kernel) (a0A (pv 1) a0B))) a0B)))),?_⟩
 refine ⟨_,rfl,a,xs,rfl,hA,sA,λ p1 L1 H1 n1 m1=>?_⟩
 refine ⟨_,rfl,b,ys,rfl,n1.same.seq hB,sB,λ p2 L2 H2 n2 m2=>?_⟩
 refine ⟨p1,p2,L1,L2,rfl,rfl,n2.ne n1.here,n2.same _ _ n1.here,n2.here,λ p3 L H3 n3 m3=>?_⟩
 refine ⟨p3,false,L,rfl,n3.here,λ p4 H4 n4=>?_⟩
 have e:(upF λ v=>decide (v.toNat ∈ L)) = a0N xs ys:=a9U λ v h0 h1=>by
  have ev:((v.toNat:Nat):Int) = v:=by omega
  rw [decide_eq_decide,m3 v.toNat,m1 v.toNat,m2 v.toNat,ev]
 rw [e] at n4
 exact q H3 p4 H4 (n1.same.trans (n2.same.trans n3.same)) n4
end
abbrev b2L:Stmt:=top 10
theorem sc_around:FnScope ["graph", "v", "lesser", "greater"] ["graph", "v"] (a0E b2L):=⟨rfl,rfl,rfl,by decide +kernel,rfl,by decide +kernel,by decide +kernel⟩
section
variable {P:Program} {w:World} {K:Φρ} {mg:Str->Option Value} {base:Heap}
abbrev DZ6 (K:PySem.W.Frag) (mg:Str->Option Value):=Dn K mg "around" b2L ["graph", "v"]
set_option maxHeartbeats 4000000 in
theorem a3J (B:Bl mg) (dZ17:DZ17 K mg) (dZ15:DZ15 K mg) (dZ6:DZ6 K mg):FnOk P w K mg base CX0 3 dZ6.f dZ6.fd ["graph", "v"] (b9G K):=by
 have gZ15:FnOk P w K mg base CX0 2 _ _ _ _:=b1J B dZ17 dZ15
 refine dZ6.F.ok sc_around (λ vs H Q E h=>?_) (λ cdv A outer s H vs Q E hr h=>?_)
 ·obtain ⟨g,n,ts,v,rfl,_⟩:=h
  rfl
 obtain ⟨g,n,ts,v,rfl,hG,v0,v1,hz,q⟩:=h
 obtain ⟨pg,ta,rfl,hP,hT⟩:=hG
 obtain ⟨ys,hy,hq,hzt⟩:=id hT
 have hlt:ys.length = ts.length:=Paired.length hq
 refine ⟨_,(a0C (a3T (a7E (a0P (K:=K) rfl (a0G gZ15 hr rfl dZ15.m dZ15.F.kp dZ15.b .nil a0L (a0A (a0S (a1K (K:=K) rfl) (pv 0) a0F (λ _ _=>rfl)) (a0A (pv 1) a0B))) (λ _=>rfl)))
   (a0D b8A)
   a1S)
   (a0C (a2E (i:=2) ["a", "b", "v"] [none,none,some 1] sc_around.nd rfl rfl (by kernel_rfl) rfl (a1G (K:=K) rfl (a0S (a1K (K:=K) rfl) (pv 0) a0F (λ _ _=>rfl))) (λ _ _ _ _ _=>(a2X (K:=K) (n:=2) rfl rfl (a1B (a0H (i:=0) (show (["a", "b", "v"]:List Str).Nodup by decide +kernel) rfl (Or.inl rfl)) (a1B (a0H (i:=1) (show (["a", "b", "v"]:List Str).Nodup by decide +kernel) rfl (Or.inl rfl)) a2V)))) (λ _ _ _ _ _=>(a2P (a1C a7V (pv 1) (pv 2) (a1N _)))) (λ _ _ _ _ _=>(pv 0)) (by rfl))
   (a0C (a2E (i:=3) ["a", "b", "v"] [none,none,some 1] sc_around.nd rfl rfl (by kernel_rfl) rfl (a1G (K:=K) rfl (a0S (a1K (K:=K) rfl) (pv 0) a0F (λ _ _=>rfl))) (λ _ _ _ _ _=>(a2X (K:=K) (n:=2) rfl rfl (a1B (a0H (i:=0) (show (["a", "b", "v"]:List Str).Nodup by decide +kernel) rfl (Or.inl rfl)) (a1B (a0H (i:=1) (show (["a", "b", "v"]:List Str).Nodup by decide +kernel) rfl (Or.inl rfl)) a2V)))) (λ _ _ _ _ _=>(a2P (a1C a7V (pv 0) (pv 2) (a1N _)))) (λ _ _ _ _ _=>(pv 1)) (by rfl))
   (a0D (a0M (a0O b4X (pv 2) (pv 3))))))),?_⟩
 have hb:a6E n (some v) = true:=by unfold a6E; simp [v0,v1]
 refine ⟨_,rfl,pg,_,_,_,rfl,rfl,hP,rfl,_,rfl,n,some v,rfl,_,rfl,?_⟩
 rw [hb]
 refine iteF ?_
 refine ⟨_,rfl,pg,_,_,_,rfl,rfl,hP,rfl,ta,rfl,⟨_,hy⟩,?_⟩
 refine c0V (λ j=>(ts[j]?).bind λ t=>if t.2 = v then some (V.int t.1) else none) hy (by omega) (λ j x H3 N hj s3 hN=>?_) (λ H3 p1 H4 s3 nw=>?_)
 ·obtain ⟨t,ht,⟨pt,rfl,hTt⟩⟩:=a0V hq hj
  have hN':=hN H3 s3
  rw [ht] at hN'
  refine ⟨pt,_,rfl,s3.tupq hTt,rfl,_,_,rfl,_,_,rfl,rfl,_,rfl,_,rfl,rfl,_,rfl,?_⟩
  refine ite2 (λ c=>?_) (λ c=>?_)
  ·have c':V.int t.2 = V.int v:=of_decide_eq_true c
   have c2:t.2 = v:=by injection c'
   dsimp only [Option.bind] at hN'
   rw [if_pos c2] at hN'
   exact ⟨_,rfl,hN'⟩
  ·have c':¬ V.int t.2 = V.int v:=of_decide_eq_false (Bool.eq_false_iff.mpr c)
   have c2:¬ t.2 = v:=λ z=>c' (by rw [z])
   dsimp only [Option.bind] at hN'
   rw [if_neg c2] at hN'
   exact hN'
 rw [hlt,a8F,b5Z (λ t=>if t.2 = v then some t.1 else none) _ (λ t=>by split <;> rfl)] at nw
 have s4:=s3.trans nw.same
 refine ⟨_,rfl,pg,_,_,_,rfl,rfl,s4.tupq hP,rfl,ta,rfl,⟨_,s4.seq hy⟩,?_⟩
 refine c0V (λ j=>(ts[j]?).bind λ t=>if t.1 = v then some (V.int t.2) else none) (s4.seq hy) (by omega) (λ j x H5 N hj s5 hN=>?_) (λ H5 p2 H6 s5 nw2=>?_)
 ·obtain ⟨t,ht,⟨pt,rfl,hTt⟩⟩:=a0V hq hj
  have hN':=hN H5 s5
  rw [ht] at hN'
  refine ⟨pt,_,rfl,(s4.trans s5).tupq hTt,rfl,_,_,rfl,_,_,rfl,rfl,_,rfl,_,rfl,rfl,_,rfl,?_⟩
  refine ite2 (λ c=>?_) (λ c=>?_)
  ·have c':V.int t.1 = V.int v:=of_decide_eq_true c
   have c2:t.1 = v:=by injection c'
   dsimp only [Option.bind] at hN'
   rw [if_pos c2] at hN'
   exact ⟨_,rfl,hN'⟩
  ·have c':¬ V.int t.1 = V.int v:=of_decide_eq_false (Bool.eq_false_iff.mpr c)
   have c2:¬ t.1 = v:=λ z=>c' (by rw [z])
   dsimp only [Option.bind] at hN'
   rw [if_neg c2] at hN'
   exact hN'
 rw [hlt,a8F,b5Z (λ t=>if t.1 = v then some t.2 else none) _ (λ t=>by split <;> rfl)] at nw2
 refine ⟨_,rfl,_,rfl,p1,p2,_,_,rfl,rfl,(s5.trans nw2.same) _ _ nw.here,nw2.here,?_,λ p3 H7 nw3=>?_⟩
 ·rw [List.length_map,List.length_map]
  have h1:=List.length_filterMap_le (λ t:Int × Int=>if t.2 = v then some t.1 else none) ts
  have h2:=List.length_filterMap_le (λ t:Int × Int=>if t.1 = v then some t.2 else none) ts
  omega
 ·rw [<- List.map_append] at nw3
  exact q _ _ _ (s4.trans (s5.trans nw2.same)) nw3
end
abbrev c5W:Stmt:=top 13
theorem sc_rim:FnScope ["graph", "places", "tied", "v"] ["graph", "places"] (a0E c5W):=⟨rfl,rfl,rfl,by decide +kernel,rfl,by decide +kernel,by decide +kernel⟩
abbrev b6D:Stmt:=top 14
theorem b9I:FnScope ["graph", "one", "other"] ["graph", "one", "other"] (a0E b6D):=⟨rfl,rfl,rfl,by decide +kernel,rfl,by decide +kernel,by decide +kernel⟩
theorem tied_mem {ts:List ζζ} {u v:Int}:u ∈ a0R ts v ↔ (u,v) ∈ ts\/(v,u) ∈ ts:=by
 unfold a0R
 rw [List.mem_append,List.mem_filterMap,List.mem_filterMap]
 constructor
 ·rintro (⟨t,ht,e⟩ | ⟨t,ht,e⟩)
  ·split at e
   ·rename_i c
    injection e with e
    subst e; subst c
    exact .inl ht
   ·cases e
  ·split at e
   ·rename_i c
    injection e with e
    subst e; subst c
    exact .inr ht
   ·cases e
 ·rintro (h | h)
  ·exact .inl ⟨_,h,by simp⟩
  ·exact .inr ⟨_,h,by simp⟩
def a8I (ts:List ζζ) (ps:List Int) (u:Int):Bool:=ps.any λ v=>decide (u ∈ a0R ts v)
def rimF (ts:List ζζ) (ps:List Int):List Int:=a3X (upF (a8I ts ps)) ps
def a2K (ts:List ζζ) (xs ys:List Int):Bool:=!(a0Q xs ys).isEmpty || !(a0Q (rimF ts xs) ys).isEmpty
theorem b6E (p:Int->Bool):a9R (upF p):=λ n hn=>by
 obtain ⟨a,b,_⟩:=mem_upF.mp hn
 exact ⟨a,b⟩
theorem b1K (p:Int->Bool):(upF p).length <= 16:=by
 unfold upF
 refine Nat.le_trans (List.length_filter_le _ _) ?_
 simp
theorem a9V {ts:List ζζ} {v:Int} (h:∀ t ∈ ts,0 <= t.1/\t.1 < 16/\0 <= t.2/\t.2 < 16):a9R (a0R ts v):=λ u hu=>by
 rcases tied_mem.mp hu with c | c
 ·have:=h _ c; exact ⟨this.1,this.2.1⟩
 ·have:=h _ c; exact this.2.2
def c7W (K:Φρ):Sp:=λ vs H Q _=>∃ (g:V) (n:Int) (ts:List ζζ) (b:Addr) (ps:List Int),vs = [g,.ref b]/\GraphV K H g n ts/\n <= 16/\ts.length <= 400/\(∀ t ∈ ts,0 <= t.1/\t.1 < 16/\0 <= t.2/\t.2 < 16)/\SqL K H b (ps.map V.int)/\(∀ v ∈ ps,0 <= v/\v < n) /\
 ∀ H0 p H',Same H H0->New H0 p (.lst ((rimF ts ps).map V.int)) H'->Q (.ref p) H'
def c3C (K:Φρ):Sp:=λ vs H Q _=>∃ (g:V) (n:Int) (ts:List ζζ) (a b:Addr) (xs ys:List Int),vs = [g,.ref a,.ref b]/\GraphV K H g n ts/\n <= 16/\ts.length <= 400/\(∀ t ∈ ts,0 <= t.1/\t.1 < 16/\0 <= t.2/\t.2 < 16)/\SqL K H a (xs.map V.int)/\(∀ v ∈ xs,0 <= v/\v < n)/\xs.length <= 1000/\SqL K H b (ys.map V.int) /\
 ∀ H',Same H H'->Q (.bl (a2K ts xs ys)) H'
section
variable {P:Program} {w:World} {K:Φρ} {mg:Str->Option Value} {base:Heap}
abbrev DZ28 (K:PySem.W.Frag) (mg:Str->Option Value):=Dn K mg "rim" c5W ["graph", "places"]
set_option maxHeartbeats 4000000 in
theorem c0Y (B:Bl mg) (dZ17:DZ17 K mg) (dZ15:DZ15 K mg) (dZ21:DZ21 K mg) (dZ18:DZ18 K mg) (dZ6:DZ6 K mg) (dZ28:DZ28 K mg):FnOk P w K mg base CX0 4 dZ28.f dZ28.fd ["graph", "places"] (c7W K):=by
 have gZ18:FnOk P w K mg base CX0 3 _ _ _ _:=(a8H B dZ18).mono (by decide)
 have gZ21:FnOk P w K mg base CX0 3 _ _ _ _:=(a5C B dZ21).mono (by decide)
 have gZ6:FnOk P w K mg base CX0 3 _ _ _ _:=a3J B dZ17 dZ15 dZ6
 refine dZ28.F.ok sc_rim (λ vs H Q E h=>?_) (λ cdv A outer s H vs Q E hr h=>?_)
 ·obtain ⟨g,n,ts,b,ps,rfl,_⟩:=h
  rfl
 obtain ⟨g,n,ts,b,ps,rfl,hG,hn,hz,ht,hB,hin,q⟩:=h
 refine ⟨_,(a0C (a0J (i:=2) sc_rim.nd rfl (Or.inl rfl) (a1M a0B))
   (a0C (a1R PassesOwn.never rfl (a1G (K:=K) rfl (pv 1)) (a0H (i:=3) sc_rim.nd rfl (Or.inl rfl))
   (a0D (a0J (i:=2) sc_rim.nd rfl (Or.inl rfl) (a0G gZ18 hr rfl dZ18.m dZ18.F.kp dZ18.b .nil a0L (a0A (pv 2) (a0A (a0G gZ6 hr rfl dZ6.m dZ6.F.kp dZ6.b .nil a0L (a0A (pv 0) (a0A (pv 3) a0B))) a0B))))))
   (a0D (a0M (a0G gZ21 hr rfl dZ21.m dZ21.F.kp dZ21.b .nil a0L (a0A (pv 2) (a0A (pv 1) a0B))))))),?_⟩
 refine ⟨(by show 0 <= 1000; decide),λ p0 H0 n0=>?_⟩
 refine ⟨_,rfl,b,rfl,⟨_,n0.same.seq hB⟩,?_⟩
 refine a3Q (xs:=ps.map V.int) (λ i σ H'=>∃ (p:Addr) (pl:Option V),σ = [some g,some (.ref b),some (.ref p),pl]/\Same H H'/\H' p = some (.lst ((upF (a8I ts (ps.take i))).map V.int))) ⟨p0,none,rfl,n0.same,?_⟩ (λ i σ H' _ ⟨p,pl,_,s,_⟩=>s.seq hB) ?_ ?_
 ·rw [n0.here,List.take_zero]
  have e:upF (a8I ts []) = []:=by
   unfold upF a8I
   simp
  rw [e]
  rfl
 ·rintro i x σ H' hx ⟨p,pl,rfl,s,hp⟩
  rw [List.getElem?_map] at hx
  obtain ⟨v,hv,rfl⟩:=Option.map_eq_some_iff.mp hx
  have vm:v ∈ ps:=List.mem_of_getElem? hv
  have vi:=hin v vm
  have et:ps.take (i + 1) = ps.take i ++ [v]:=by rw [List.take_succ,hv]; rfl
  refine ⟨_,rfl,_,rfl,_,rfl,g,n,ts,v,rfl,hG.same s,vi.1,vi.2,hz,λ H1 p1 H2 s1 n1=>?_⟩
  have s2:Same H' H2:=s1.trans n1.same
  refine ⟨p,p1,_,_,rfl,SqL.of (s2 _ _ hp),SqL.of n1.here,b6E _,a9V ht,λ H3 p2 H4 s3 n3=>?_⟩
  refine ⟨p2,_,rfl,s.trans (s2.trans (s3.trans n3.same)),?_⟩
  rw [n3.here,et]
  have e:a0N (upF (a8I ts (ps.take i))) (a0R ts v) = upF (a8I ts (ps.take i ++ [v])):=a9U λ u h0 h1=>by
   unfold a8I
   rw [List.any_append,Bool.eq_iff_iff,decide_eq_true_iff,Bool.or_eq_true,mem_upF]
   simp [h0,h1]
  rw [e]
 ·rintro σ H' ⟨p,pl,rfl,s,hp⟩
  rw [List.length_map,List.take_length] at hp
  refine ⟨_,rfl,_,rfl,p,b,_,ps,rfl,SqL.of hp,s.seq hB,Nat.le_trans (b1K _) (by decide),λ H1 p1 H2 s1 n1=>?_⟩
  exact q H1 p1 H2 (s.trans s1) n1
abbrev DZ32 (K:PySem.W.Frag) (mg:Str->Option Value):=Dn K mg "touch" b6D ["graph", "one", "other"]
set_option maxHeartbeats 4000000 in
theorem b9J (B:Bl mg) (dZ17:DZ17 K mg) (dZ15:DZ15 K mg) (dZ7:DZ7 K mg) (dZ21:DZ21 K mg) (dZ18:DZ18 K mg) (dZ6:DZ6 K mg) (dZ28:DZ28 K mg) (dZ32:DZ32 K mg):FnOk P w K mg base CX0 5 dZ32.f dZ32.fd ["graph", "one", "other"] (c3C K):=by
 have gZ7:FnOk P w K mg base CX0 4 _ _ _ _:=(a3I B dZ7).mono (by decide)
 have gZ28:FnOk P w K mg base CX0 4 _ _ _ _:=c0Y B dZ17 dZ15 dZ21 dZ18 dZ6 dZ28
 refine dZ32.F.ok b9I (λ vs H Q E h=>?_) (λ cdv A outer s H vs Q E hr h=>?_)
 ·obtain ⟨g,n,ts,a,b,xs,ys,rfl,_⟩:=h
  rfl
 obtain ⟨g,n,ts,a,b,xs,ys,rfl,hG,hn,hz,ht,hA,hin,hl,hB,q⟩:=h
 refine ⟨_,(a0D (a0M (a2I (a7H (K:=K) rfl) rfl B.bool (by decide +kernel) (a0A (c5D (K:=K) rfl (a0G gZ7 hr rfl dZ7.m dZ7.F.kp dZ7.b .nil a0L (a0A (pv 1) (a0A (pv 2) a0B))) (b1U (a0G gZ7 hr rfl dZ7.m dZ7.F.kp dZ7.b .nil a0L (a0A (a0G gZ28 hr rfl dZ28.m dZ28.F.kp dZ28.b .nil a0L (a0A (pv 0) (a0A (pv 1) a0B))) (a0A (pv 2) a0B))))) a0B)))),?_⟩
 refine ⟨_,rfl,_,rfl,a,b,xs,ys,rfl,hA,hB,hl,λ H1 p1 H2 s1 n1=>?_⟩
 have s2:Same H H2:=s1.trans n1.same
 refine ⟨!((a0Q xs ys).map V.int).isEmpty,.inl ⟨_,SqL.of n1.here,rfl⟩,?_⟩
 have e1:((a0Q xs ys).map V.int).isEmpty = (a0Q xs ys).isEmpty:=List.isEmpty_map
 refine ite2 (λ c=>?_) (λ c=>?_)
 ·refine ⟨p1,_,rfl,SqL.of n1.here,?_⟩
  rw [c]
  have e:a2K ts xs ys = true:=by unfold a2K; rw [<- e1,c]; rfl
  have:=q H2 s2
  rw [e] at this
  exact this
 ·refine ⟨_,rfl,_,rfl,g,n,ts,a,xs,rfl,hG.same s2,hn,hz,ht,s2.seq hA,hin,λ H3 p3 H4 s3 n3=>?_⟩
  have s4:Same H H4:=s2.trans (s3.trans n3.same)
  refine ⟨_,rfl,p3,b,_,ys,rfl,SqL.of n3.here,s4.seq hB,?_,λ H5 p5 H6 s5 n5=>?_⟩
  ·unfold rimF a3X
   exact Nat.le_trans (List.length_filter_le _ _) (Nat.le_trans (b1K _) (by decide))
  ·refine ⟨p5,_,rfl,SqL.of n5.here,?_⟩
   have e:a2K ts xs ys = !((a0Q (rimF ts xs) ys).map V.int).isEmpty:=by unfold a2K; rw [<- e1,Bool.eq_false_iff.mpr c,List.isEmpty_map]; rfl
   have:=q H6 (s4.trans (s5.trans n5.same))
   rw [e] at this
   exact this
end
abbrev natV (l:List Nat):List V:=l.map λ (x:Nat)=>V.int (x:Int)
theorem a2Z:∀ {m:Nat} {l:List Nat},l.Nodup->(∀ x ∈ l,x < m)->l.length <= m
 | 0,l,_,lt=>by
  cases l with
  | nil=>exact Nat.le_refl _
  | cons x r=>exact absurd (lt x List.mem_cons_self) (Nat.not_lt_zero _)
 | m + 1,l,nd,lt=>by
  have ih:=a2Z (m:=m) (nd.erase m) λ x hx=>by
   obtain ⟨h1,h2⟩:=nd.mem_erase_iff.mp hx
   have:=lt x h2
   omega
  rw [List.length_erase] at ih
  split at ih <;> omega
theorem a0U (l:List Nat):natV l = (l.map λ (x:Nat)=>(x:Int)).map V.int:=by
 unfold natV
 rw [List.map_map]
 rfl
theorem b6F {f:V->Option V} {p:Nat->Bool}:∀ {l:List Nat},(∀ x ∈ l,f (.int (x:Int)) = if p x = true then some (.int (x:Int)) else none)->(natV l).filterMap f = natV (l.filter p)
 | [],_=>rfl
 | x :: r,h=>by
  have ih:=b6F (f:=f) (p:=p) (l:=r) λ y hy=>h y (List.mem_cons_of_mem _ hy)
  have hx:=h x List.mem_cons_self
  show (V.int (x:Int) :: natV r).filterMap f = _
  rw [List.filter_cons]
  by_cases c:p x = true
  ·rw [if_pos c] at hx ⊢
   rw [List.filterMap_cons_some hx,ih]; rfl
  ·rw [if_neg c] at hx ⊢
   rw [List.filterMap_cons_none hx,ih]
theorem a6N {l:List Nat} {j:Nat} (h:j < l.length):atI (natV l) (j:Int) = some (.int ((l.getD j 0:Nat):Int)):=a1F (by
 unfold natV
 rw [List.getElem?_map,List.getElem?_eq_getElem h,τα,List.getElem?_eq_getElem h]; rfl)
end K
namespace K
open PySem L2 Lw Bg
abbrev a6O:Stmt:=top 16
theorem a9W:FnScope ["mask"] ["mask"] (a0E a6O):=⟨rfl,rfl,rfl,by decide +kernel,rfl,by decide +kernel,by decide +kernel⟩
abbrev a5N:Stmt:=top 18
theorem sc_first_bags:FnScope ["graph", "bags", "a", "b"] ["graph"] (a0E a5N):=⟨rfl,rfl,rfl,by decide +kernel,rfl,by decide +kernel,by decide +kernel⟩
abbrev a6P:Stmt:=top 19
theorem sc_taken_out:FnScope ["bags", "v", "bit", "left"] ["bags", "v"] (a0E a6P):=⟨rfl,rfl,rfl,by decide +kernel,rfl,by decide +kernel,by decide +kernel⟩
theorem a1U (l:List Nat):(natV l).length = l.length:=List.length_map _
def b3V:Sp:=λ vs H Q _=>∃ (m:Nat),vs = [.int (m:Int)]/\m < 2 ^ 10/\∀ H0 p H',Same H H0->New H0 p (.lst (natV (a0X m))) H'->Q (.ref p) H'
def c3D (K:Φρ):Sp:=λ vs H Q _=>∃ (g:V) (n:Nat) (ts:List ζζ),vs = [g]/\GraphV K H g n ts/\(∀ t ∈ ts,0 <= t.1/\t.1 < t.2/\t.2 < (n:Int))/\n <= 10 /\
 ∀ p ms H',Same H H'->H p = none->H' p = some (.lst (natV ms))->BagsM n ms (a2Q n ts)->Q (.ref p) H'
def b9K (K:Φρ):Sp:=λ vs H Q _=>∃ (a:Addr) (n:Nat) (ms:List Nat) (R:Nat->Nat->Bool) (v:Nat),vs = [.ref a,.int (v:Int)]/\SqL K H a (natV ms)/\BagsM n ms R/\v < n /\
 ∀ p H',Same H H'->H p = none->H' p = some (.lst (natV (a6I v ms)))->Q (.ref p) H'
theorem shl1 (v:Nat):((1:Int) * 2 ^ ((v:Nat):Int).toNat) = ((2 ^ v:Nat):Int):=by
 rw [Int.toNat_natCast,Int.one_mul]
 exact (Int.natCast_pow 2 v).symm
theorem b6G (n:Nat) (hn:n <= 10):BagsM n ((List.range n).map λ v=>2 ^ v) (a2Q n []):=by
 refine ⟨by simp,hn,λ m hm=>?_,λ v hv u=>?_,λ v u h=>?_⟩
 ·obtain ⟨v,hv,rfl⟩:=List.mem_map.mp hm
  have:=List.mem_range.mp hv
  exact Nat.pow_lt_pow_right (by decide) (by omega)
 ·rw [τα,List.getElem?_map,List.getElem?_range hv]
  simp only [Option.map_some,Option.getD_some]
  rw [Nat.testBit_two_pow]
  unfold a2Q
  by_cases c:v = u
  ·subst c; simp [hv]
  ·rw [decide_eq_false c]
   have:¬ u = v:=λ z=>c z.symm
   simp [this]
 ·unfold a2Q at h
  rw [Bool.and_eq_true] at h
  exact of_decide_eq_true h.1
theorem b6H {n:Nat} {ms:List Nat} {ts:List ζζ} {a b:Nat} (B:BagsM n ms (a2Q n ts)) (ha:a < n) (hb:b < n) (ab:a ≠ b) :
  BagsM n ((ms.set a (ms.getD a 0 ||| 2 ^ b)).set b ((ms.set a (ms.getD a 0 ||| 2 ^ b)).getD b 0 ||| 2 ^ a)) (a2Q n (ts ++ [((a:Int),(b:Int))])):=by
 have la:a < ms.length:=by rw [B.len]; exact ha
 have lb:b < ms.length:=by rw [B.len]; exact hb
 have gb:(ms.set a (ms.getD a 0 ||| 2 ^ b)).getD b 0 = ms.getD b 0:=by
  rw [τα,List.getElem?_set_ne ab,<- τα]
 rw [gb]
 have far:∀ v u,a2Q n (ts ++ [((a:Int),(b:Int))]) v u = true->v < n/\u < n:=λ v u h=>by
  unfold a2Q at h
  rw [Bool.and_eq_true] at h
  exact of_decide_eq_true h.1
 have bit:∀ v < n,∀ u,(((ms.set a (ms.getD a 0 ||| 2 ^ b)).set b (ms.getD b 0 ||| 2 ^ a)).getD v 0).testBit u = a2Q n (ts ++ [((a:Int),(b:Int))]) v u:=λ v hv u=>by
  have old:=B.bit v hv u
  unfold a2Q at old ⊢
  by_cases cb:v = b
  ·subst cb
   rw [τα,List.getElem?_set_self (by rw [List.length_set]; exact lb)]
   simp only [Option.getD_some]
   rw [Nat.testBit_or,old,Nat.testBit_two_pow]
   by_cases cu:u < n
   ·by_cases c:a = u
    ·subst c; simp [hv,cu]
    ·have c1:¬ u = a:=λ z=>c z.symm
     have c2:¬ ((u:Int) = (a:Int)):=by omega
     have c3:¬ ((v:Int) = (a:Int)/\(u:Int) = (v:Int)):=by omega
     have c4:¬ ((v:Int) = (a:Int)):=by omega
     simp [hv,cu,c,c2,c4]
   ·have:¬ a = u:=by omega
    simp [cu,this]
  ·rw [τα,List.getElem?_set_ne (Ne.symm cb)]
   by_cases ca:v = a
   ·subst ca
    rw [List.getElem?_set_self la]
    simp only [Option.getD_some]
    rw [Nat.testBit_or,old,Nat.testBit_two_pow]
    by_cases cu:u < n
    ·by_cases c:b = u
     ·subst c; simp [hv,cu]
     ·have c2:¬ ((u:Int) = (b:Int)):=by omega
      have c4:¬ ((v:Int) = (b:Int)):=by omega
      simp [hv,cu,c,c2,c4]
    ·have:¬ b = u:=by omega
     simp [cu,this]
   ·rw [List.getElem?_set_ne (Ne.symm ca),<- τα,old]
    have c1:¬ ((v:Int) = (a:Int)):=by omega
    have c2:¬ ((v:Int) = (b:Int)):=by omega
    simp [c1,c2]
 refine ⟨by rw [List.length_set,List.length_set]; exact B.len,B.n10,λ m hm=>?_,bit,far⟩
 obtain ⟨j,hj,ej⟩:=List.getElem_of_mem hm
 have jn:j < n:=by
  rw [List.length_set,List.length_set,B.len] at hj
  exact hj
 have e:((ms.set a (ms.getD a 0 ||| 2 ^ b)).set b (ms.getD b 0 ||| 2 ^ a)).getD j 0 = m:=by rw [τα,List.getElem?_eq_getElem hj,ej]; rfl
 refine a2G λ u hu=>?_
 rw [<- e,bit j jn] at hu
 have:=far j u hu
 have:=B.n10
 omega
theorem a8J (l:List Nat) (i x:Nat):(natV l).set i (.int (x:Int)) = natV (l.set i x):=by
 unfold natV
 rw [List.map_set]
section
variable {P:Program} {w:World} {K:Φρ} {mg:Str->Option Value} {base:Heap}
abbrev DZ27 (K:PySem.W.Frag) (mg:Str->Option Value):=Dn K mg "places_of" a6O ["mask"]
set_option maxHeartbeats 4000000 in
theorem a9X (B:Bl mg) (dZ27:DZ27 K mg):FnOk P w K mg base CX0 1 dZ27.f dZ27.fd ["mask"] b3V:=by
 refine dZ27.F.ok a9W (λ vs H Q E h=>?_) (λ cdv A outer s H vs Q E hr h=>?_)
 ·obtain ⟨m,rfl,_⟩:=h
  rfl
 obtain ⟨m,rfl,hm,q⟩:=h
 refine ⟨_,(a0D (a0M (a9K ["v", "mask"] [none,some 0]  (by kernel_rfl) rfl (a1D rfl B.range (a0A (b4W (K:=K) rfl PySem.F.plainAttrs_int PySem.F.slot_int_bit_length PySem.F.type_int_bit_length b5G (pv 0)) a0B)) (λ _ _ _ _ _=>(a0H (i:=0) (show (["v", "mask"]:List Str).Nodup by decide +kernel) rfl (Or.inl rfl))) (λ _ _ _ _ _=>(a2P (a0P (K:=K) rfl (a0O c0N (pv 1) (a0O a4F a0F (pv 0))) (λ _=>rfl)))) (λ _ _ _ _ _=>(pv 0))))),?_⟩
 have hb:=b0Z hm
 refine ⟨_,rfl,rfl,m,rfl,rfl,_,rfl,by omega,by omega,?_⟩
 rw [Int.toNat_natCast]
 refine b0V (lo:=0) (n:=Builtin.Int.intBits (m:Int)) (λ j=>if m.testBit j = true then some (.int ((j:Nat):Int)) else none) (by omega) (λ j H7 N hj s7 hN=>?_) (λ H7 pd H8 s7 n8=>?_)
 ·have hN':=hN H7 s7
  have ej:(0 + (j:Int)) = ((j:Nat):Int):=by omega
  rw [ej]
  refine ⟨_,rfl,_,rfl,_,_,rfl,rfl,⟨by omega,by omega,by decide⟩,_,_,rfl,rfl,_,rfl,?_⟩
  dsimp only
  rw [shl1,b5H]
  cases c:m.testBit j with
  | true =>
   rw [if_pos c] at hN'
   have:m &&& 2 ^ j ≠ 0:=λ z=>by rw [(a8C m j).mp z] at c; cases c
   rw [show (((m &&& 2 ^ j:Nat):Int) != 0) = true by simpa using this]
   exact iteT ⟨_,rfl,hN'⟩
  | false =>
   rw [if_neg (by rw [c]; decide)] at hN'
   rw [(a8C m j).mpr c]
   exact iteF hN'
 ·have e:(List.range (Builtin.Int.intBits (m:Int))).filterMap (λ j=>if m.testBit j = true then some (V.int ((j:Nat):Int)) else none) = natV (a0X m):=by
   rw [<- b1A hm]
   unfold natV
   rw [<- List.filterMap_eq_filter,List.map_filterMap]
   congr 1
   funext j
   by_cases c:m.testBit j = true
   ·rw [if_pos c]; simp [Option.guard,c]
   ·rw [if_neg c]; simp [Option.guard,c]
  rw [e] at n8
  exact q _ _ _ s7 n8
abbrev DZ11 (K:PySem.W.Frag) (mg:Str->Option Value):=Dn K mg "first_bags" a5N ["graph"]
set_option maxHeartbeats 4000000 in
theorem a4N (B:Bl mg) (dZ11:DZ11 K mg):FnOk P w K mg base CX0 1 dZ11.f dZ11.fd ["graph"] (c3D K):=by
 refine dZ11.F.ok sc_first_bags (λ vs H Q E h=>?_) (λ cdv A outer s H vs Q E hr h=>?_)
 ·obtain ⟨g,n,ts,rfl,_⟩:=h
  rfl
 obtain ⟨g,n,ts,rfl,hG,okt,n10,q⟩:=h
 obtain ⟨pg,ta,rfl,hP,hT⟩:=hG
 obtain ⟨ys,hy,hq,hzt⟩:=id hT
 have hlt:ys.length = ts.length:=Paired.length hq
 refine ⟨_,(a0C (a2E (i:=1) ["v"] [none] sc_first_bags.nd rfl rfl (by kernel_rfl) rfl (a1D rfl B.range (a0A (a0S (a1K (K:=K) rfl) (pv 0) a0F (λ _ _=>rfl)) a0B)) (λ _ _ _ _ _=>(a0H (i:=0) (show (["v"]:List Str).Nodup by decide +kernel) rfl (Or.inl rfl))) (λ _ _ _ _ _=>a3V) (λ _ _ _ _ _=>(a0O a4F a0F (pv 0))) (by rfl))
   (a0C (a1R PassesOwn.never rfl (a1G (K:=K) rfl (a0S (a1K (K:=K) rfl) (pv 0) a0F (λ _ _=>rfl))) (a2X (K:=K) (n:=2) rfl rfl (a1B (a0H (i:=2) sc_first_bags.nd rfl (Or.inl rfl)) (a1B (a0H (i:=3) sc_first_bags.nd rfl (Or.inl rfl)) a2V)))
   (a0C (a4C (a0O b8D (a0S (a0I (K:=K) rfl) (pv 1) (pv 2) (λ _ _=>rfl)) (a0O a4F a0F (pv 3))) (a4B (pv 1) (pv 2) a1Z))
   (a0D (a4C (a0O b8D (a0S (a0I (K:=K) rfl) (pv 1) (pv 3) (λ _ _=>rfl)) (a0O a4F a0F (pv 2))) (a4B (pv 1) (pv 3) a1Z)))))
   (a0D (a0M (pv 1))))),?_⟩
 refine ⟨_,rfl,pg,_,_,_,rfl,rfl,hP,rfl,_,rfl,by omega,by omega,?_⟩
 rw [Int.toNat_natCast]
 refine b0V (lo:=0) (n:=n) (λ j=>some (.int ((2 ^ j:Nat):Int))) (by omega) (λ j H7 N hj s7 hN=>?_) (λ H7 pb H8 s7 n8=>?_)
 ·have ej:(0 + (j:Int)) = ((j:Nat):Int):=by omega
  rw [ej]
  refine ⟨_,rfl,_,_,rfl,rfl,⟨by omega,by omega,by decide⟩,?_⟩
  dsimp only
  rw [shl1]
  exact hN H7 s7
 have e8:(List.range n).filterMap (λ (j:Nat)=>some (V.int ((2 ^ j:Nat):Int))) = natV ((List.range n).map λ v=>2 ^ v):=by
  unfold natV
  rw [List.map_map]
  exact b0W λ _ _=>rfl
 rw [e8] at n8
 have s8:Same H H8:=s7.trans n8.same
 refine ⟨_,rfl,pg,_,_,_,rfl,rfl,s8.tupq hP,rfl,ta,rfl,⟨_,s8.seq hy⟩,?_⟩
 have fb:H pb = none:=s7.free n8.fresh
 refine a3Q (xs:=ys) (λ i σ H'=>∃ (aa bb:Option V) (ms:List Nat),σ = [some (.ref pg),some (.ref pb),aa,bb]/\Same H H'/\H' pb = some (.lst (natV ms))/\BagsM n ms (a2Q n (ts.take i))) ⟨none,none,_,rfl,s8,n8.here,by rw [List.take_zero]; exact b6G n n10⟩ (λ i σ H' _ ⟨_,_,_,_,s,_⟩=>s.seq hy) ?_ ?_
 ·rintro i x σ H4 hx ⟨aa,bb,ms,rfl,s4,hb4,BM⟩
  obtain ⟨t,ht,⟨pt,rfl,hTt⟩⟩:=a0V hq hx
  have tok:=okt t (List.mem_of_getElem? ht)
  obtain ⟨a,ea⟩:∃ a:Nat,t.1 = (a:Int):=⟨t.1.toNat,by omega⟩
  obtain ⟨b,eb⟩:∃ b:Nat,t.2 = (b:Int):=⟨t.2.toNat,by omega⟩
  rw [ea,eb] at hTt
  have an:a < n:=by omega
  have bn:b < n:=by omega
  have la:a < ms.length:=by rw [BM.len]; exact an
  have lb:b < ms.length:=by rw [BM.len]; exact bn
  refine ⟨pt,_,rfl,s4.tupq hTt,rfl,_,_,rfl,_,_,rfl,rfl,?_⟩
  refine ⟨_,rfl,_,rfl,pb,_,_,_,rfl,rfl,SqL.of hb4,a6N la,_,rfl,_,_,rfl,rfl,⟨by omega,by omega,by decide⟩,_,_,rfl,rfl,?_⟩
  dsimp only
  rw [shl1,b2D]
  refine ⟨_,rfl,_,rfl,pb,_,_,a,rfl,rfl,hb4,a3G (by rw [List.length_map]; exact la),λ H5 c5=>?_⟩
  rw [a8J] at c5
  have s5:Same H H5:=s4.chg fb c5
  have lb':b < (ms.set a (ms.getD a 0 ||| 2 ^ b)).length:=by rw [List.length_set]; exact lb
  refine ⟨_,rfl,_,rfl,pb,_,_,_,rfl,rfl,SqL.of c5.here,a6N lb',_,rfl,_,_,rfl,rfl,⟨by omega,by omega,by decide⟩,_,_,rfl,rfl,?_⟩
  dsimp only
  rw [shl1,b2D]
  refine ⟨_,rfl,_,rfl,pb,_,_,b,rfl,rfl,c5.here,a3G (by rw [List.length_map]; exact lb'),λ H6 c6=>?_⟩
  rw [a8J] at c6
  refine ⟨_,_,_,rfl,s5.chg fb c6,c6.here,?_⟩
  have et:ts.take (i + 1) = ts.take i ++ [((a:Int),(b:Int))]:=by
   rw [List.take_succ,ht]
   simp [<- ea,<- eb]
  rw [et]
  exact b6H BM an bn (by omega)
 ·rintro σ H4 ⟨aa,bb,ms,rfl,s4,hb4,BM⟩
  rw [hlt,List.take_length] at BM
  exact ⟨_,rfl,q pb ms H4 s4 fb hb4 BM⟩
abbrev DZ31 (K:PySem.W.Frag) (mg:Str->Option Value):=Dn K mg "taken_out" a6P ["bags", "v"]
set_option maxHeartbeats 4000000 in
theorem a5O (B:Bl mg) (dZ31:DZ31 K mg):FnOk P w K mg base CX0 1 dZ31.f dZ31.fd ["bags", "v"] (b9K K):=by
 refine dZ31.F.ok sc_taken_out (λ vs H Q E h=>?_) (λ cdv A outer s H vs Q E hr h=>?_)
 ·obtain ⟨a,n,ms,R,v,rfl,_⟩:=h
  rfl
 obtain ⟨a,n,ms,R,v,rfl,hA,BM,hv,q⟩:=h
 have lv:v < ms.length:=by rw [BM.len]; exact hv
 have n10:=BM.n10
 refine ⟨_,(a0C (a0J (i:=2) sc_taken_out.nd rfl (Or.inr rfl) (a0O a4F a0F (pv 1)))
   (a0C (a2E (i:=3) ["bag", "bit", "bags", "v"] [none,some 2,some 0,some 1] sc_taken_out.nd rfl rfl (by kernel_rfl) rfl (a1G (K:=K) rfl (pv 0)) (λ _ _ _ _ _=>(a0H (i:=0) (show (["bag", "bit", "bags", "v"]:List Str).Nodup by decide +kernel) rfl (Or.inl rfl))) (λ _ _ _ _ _=>a3V) (λ _ _ _ _ _=>(b1W (a0P (K:=K) rfl (a0O c0N (pv 0) (pv 1)) (λ _=>rfl)) (a0O a6B (a0O b8D (pv 0) (a0S (a0I (K:=K) rfl) (pv 2) (pv 3) (λ _ _=>rfl))) (pv 1)) (pv 0))) (by rfl))
   (a0C (a4C a0F (a4B (pv 3) (pv 1) a1Z))
   (a0D (a0M (pv 3)))))),?_⟩
 refine ⟨_,rfl,_,_,rfl,rfl,⟨by omega,by omega,by decide⟩,?_⟩
 dsimp only
 rw [shl1]
 refine ⟨_,rfl,a,rfl,⟨_,hA⟩,?_⟩
 refine b2B (λ x=>match x with | .int z=>some (.int ((if z.toNat &&& 2 ^ v = 0 then z.toNat else (z.toNat ||| ms.getD v 0) - 2 ^ v:Nat):Int)) | _=>none) hA (by rw [List.length_map,BM.len]; omega) (λ x H1 N hx s1 hN=>?_) (λ H1 p H2 s1 n2=>?_)
 ·obtain ⟨m,hm,rfl⟩:=List.mem_map.mp hx
  have hN':=hN H1 s1
  dsimp only at hN'
  rw [Int.toNat_natCast] at hN'
  refine ⟨_,rfl,_,rfl,_,_,rfl,rfl,_,rfl,?_⟩
  rw [b5H]
  by_cases c:m &&& 2 ^ v = 0
  ·rw [if_pos c] at hN'
   rw [c]
   exact iteF ⟨_,rfl,hN'⟩
  ·rw [if_neg c] at hN'
   rw [show (((m &&& 2 ^ v:Nat):Int) != 0) = true by simpa using c]
   refine iteT ⟨_,rfl,_,rfl,_,rfl,a,_,_,_,rfl,rfl,s1.seq hA,a6N lv,_,_,rfl,rfl,_,rfl,_,_,rfl,rfl,?_⟩
   rw [b2D]
   have tb:(m ||| ms.getD v 0).testBit v = true:=by
    rw [Nat.testBit_or]
    have:m.testBit v = true:=by
     cases e:m.testBit v with
     | true=>rfl
     | false=>exact absurd ((a8C m v).mpr e) c
    rw [this]; rfl
   have ge:=Nat.ge_two_pow_of_testBit tb
   have e:(((m ||| ms.getD v 0:Nat):Int) - ((2 ^ v:Nat):Int)) = (((m ||| ms.getD v 0) - 2 ^ v:Nat):Int):=by omega
   dsimp only
   rw [e]
   exact hN'
 have ez:(natV ms).filterMap (λ x=>match x with | .int z=>some (V.int ((if z.toNat &&& 2 ^ v = 0 then z.toNat else (z.toNat ||| ms.getD v 0) - 2 ^ v:Nat):Int)) | _=>none) = natV (ms.map λ m=>if m &&& 2 ^ v = 0 then m else (m ||| ms.getD v 0) - 2 ^ v):=by
  unfold natV
  rw [List.filterMap_map,List.map_map]
  refine b0W λ m _=>?_
  simp only [Function.comp_apply,Int.toNat_natCast]
 rw [ez] at n2
 have lz:v < (ms.map λ m=>if m &&& 2 ^ v = 0 then m else (m ||| ms.getD v 0) - 2 ^ v).length:=by rw [List.length_map]; exact lv
 refine ⟨_,rfl,_,rfl,p,_,_,v,rfl,rfl,n2.here,a3G (by rw [List.length_map]; exact lz),λ H3 c3=>?_⟩
 have c3':=c3.here
 rw [show (V.int 0) = V.int ((0:Nat):Int) from rfl,a8J] at c3'
 exact ⟨_,rfl,q p H3 ((s1.trans n2.same).chg (s1.free n2.fresh) c3) (s1.free n2.fresh) c3'⟩
end
abbrev a5P:Stmt:=top 17
theorem sc_mask_sizes:FnScope ["n", "sizes", "mask"] ["n"] (a0E a5P):=⟨rfl,rfl,rfl,by decide +kernel,rfl,by decide +kernel,by decide +kernel⟩
def popF (m:Nat):Nat:=(a0X m).length
theorem b6I:popF 0 = 0:=by decide
theorem b6J {m:Nat} (h:m < 2 ^ 10):popF m = popF (m / 2) + m % 2:=by
 have c:∀ k:Nat,popF k = (List.range 10).countP k.testBit:=λ k=>by
  unfold popF a0X
  rw [List.countP_eq_length_filter]
 rw [c m,c (m / 2)]
 have e1:(List.range 10).countP m.testBit = (if m.testBit 0 = true then 1 else 0) + (List.range 9).countP (m / 2).testBit:=by
  rw [show List.range 10 = 0 :: (List.range 9).map Nat.succ from by decide,List.countP_cons,List.countP_map]
  rw [Nat.add_comm]
  congr 1
 have e2:(List.range 10).countP (m / 2).testBit = (List.range 9).countP (m / 2).testBit:=by
  rw [show List.range 10 = List.range 9 ++ [9] from by decide,List.countP_append]
  have z:(m / 2).testBit 9 = false:=Nat.testBit_lt_two_pow (by omega)
  simp [z]
 rw [e1,e2,Nat.testBit_zero]
 by_cases d:m % 2 = 1
 ·rw [decide_eq_true d,if_pos rfl,d]; omega
 ·rw [decide_eq_false d,if_neg Bool.false_ne_true]; omega
def a2L (k:Nat):List V:=(List.range k).map λ m=>V.int ((popF m:Nat):Int)
theorem a6Q {k m:Nat} (h:m < k):atI (a2L k) (m:Int) = some (.int ((popF m:Nat):Int)):=a1F (by
 unfold a2L
 rw [List.getElem?_map,List.getElem?_range h]; rfl)
theorem b3W (k:Nat):(a2L k).length = k:=by unfold a2L; simp
def c3E:Sp:=λ vs H Q _=>∃ (n:Nat),vs = [.int n]/\n <= 10/\∀ p H',New H p (.lst (a2L (2 ^ n))) H'->Q (.ref p) H'
section
variable {P:Program} {w:World} {K:Φρ} {mg:Str->Option Value} {base:Heap}
abbrev DZ24 (K:PySem.W.Frag) (mg:Str->Option Value):=Dn K mg "mask_sizes" a5P ["n"]
set_option maxHeartbeats 4000000 in
theorem a4O (B:Bl mg) (dZ24:DZ24 K mg):FnOk P w K mg base CX0 1 dZ24.f dZ24.fd ["n"] c3E:=by
 refine dZ24.F.ok sc_mask_sizes (λ vs H Q E h=>?_) (λ cdv A outer s H vs Q E hr h=>?_)
 ·obtain ⟨n,rfl,_⟩:=h
  rfl
 obtain ⟨n,rfl,n10,q⟩:=h
 have p10:2 ^ n <= 2 ^ 10:=Nat.pow_le_pow_right (by decide) n10
 have p0:0 < 2 ^ n:=Nat.pow_pos (by decide)
 refine ⟨_,(a0C (a0J (i:=1) sc_mask_sizes.nd rfl (Or.inl rfl) (a1M (a0A a0F a0B)))
   (a0C (a1R PassesOwn.never rfl (a3D rfl B.range (a0A a0F (a0A (a0O a4F a0F (pv 0)) a0B))) (a0H (i:=2) sc_mask_sizes.nd rfl (Or.inl rfl))
   (a0D (a3C (a4I (K:=K) rfl PySem.F.plainAttrs_list PySem.F.slot_list_append PySem.F.type_list_append a7L (pv 1) (a0A (a0O a2R (a0S (a0I (K:=K) rfl) (pv 1) (a0O c4S (pv 2) a0F) (λ _ _=>rfl)) (a0O a2N (pv 2) a0F)) a0B)))))
   (a0D (a0M (pv 1))))),?_⟩
 refine ⟨(by show 1 <= 1000; decide),λ p H1 n1=>?_⟩
 have e1:[V.int 0] = a2L 1:=by
  unfold a2L
  show _ = [V.int ((popF 0:Nat):Int)]
  rw [b6I]; rfl
 rw [e1] at n1
 have sh:=shl1 n
 obtain ⟨N,hN⟩:∃ N,N = 2 ^ n - 1:=⟨_,rfl⟩
 refine ⟨_,rfl,_,_,rfl,rfl,⟨by omega,by omega,by decide⟩,_,_,rfl,⟨by decide,by decide,by rw [sh]; omega,by rw [sh]; omega⟩,?_⟩
 rw [show ((1:Int) * 2 ^ ((n:Nat):Int).toNat - 1).toNat = N by rw [sh]; omega]
 refine a1O (lo:=1) (n:=N) (λ i σ H'=>∃ m:Option V,σ = [some (.int n),some (.ref p),m]/\New H p (.lst (a2L (i + 1))) H') ⟨none,rfl,n1⟩ ?_ ?_
 ·rintro i σ H2 hi ⟨m,rfl,n2⟩
  have ei:(1:Int) + (i:Int) = ((i + 1:Nat):Int):=by omega
  rw [ei]
  have eh:((i + 1:Nat):Int) / 2 ^ (1:Int).toNat = (((i + 1) / 2:Nat):Int):=by
   rw [show (1:Int).toNat = 1 from rfl]
   omega
  have em:((popF ((i + 1) / 2):Nat):Int) + ((i + 1:Nat):Int) % 2 = ((popF (i + 1):Nat):Int):=by
   rw [b6J (m:=i + 1) (by omega)]
   omega
  refine ⟨_,rfl,.inl ⟨rfl,_,SqL.of n2.here⟩,_,rfl,_,rfl,_,_,rfl,rfl,(show (0:Int) <= 1 by decide),p,_,_,V.int ((popF ((i + 1) / 2):Nat):Int),rfl,rfl,SqL.of n2.here,(by rw [eh]; exact a6Q (by omega)),_,rfl,_,_,rfl,rfl,(show (0:Int) < _ by decide),_,_,rfl,rfl,?_⟩
  dsimp only
  rw [em]
  refine ⟨p,_,_,rfl,rfl,n2.here,by rw [b3W]; omega,λ H3 c3=>?_⟩
  refine ⟨_,rfl,n2.fresh,?_,λ b hb=>(c3.rest b hb).trans (n2.rest b hb)⟩
  rw [c3.here]
  unfold a2L
  rw [List.range_succ (n:=i + 1),List.map_append]
  rfl
 ·rintro σ H2 ⟨m,rfl,n2⟩
  rw [show N + 1 = 2 ^ n by omega] at n2
  exact ⟨_,rfl,q p H2 n2⟩
end
def runR (n:Nat) (ts:List ζζ) (os:List Nat):Nat->Nat->Bool:=os.foldl (λ R v=>a4Z v R) (a2Q n ts)
theorem a2D (n:Nat) (ts:List ζζ) (os:List Nat) (v:Nat):runR n ts (os ++ [v]) = a4Z v (runR n ts os):=by
 unfold runR
 rw [List.foldl_append]
 rfl
def a1A (n:Nat) (R:Nat->Nat->Bool) (v:Nat):List Nat:=(List.range n).filter λ u=>R v u && !decide (u = v)
def a8K (n:Nat) (ts:List ζζ) (os:List Nat) (j:Nat):List Nat:=a1A n (runR n ts (os.take j)) (os.getD j 0)
theorem b6K (n:Nat) (R:Nat->Nat->Bool) (v:Nat):(a1A n R v).length <= n:=by
 unfold a1A
 refine Nat.le_trans (List.length_filter_le _ _) ?_
 simp
theorem b9L (l:List Nat) (v:Nat):a3X (l.map λ (x:Nat)=>(x:Int)) [(v:Int)] = (l.filter λ u=>!decide (u = v)).map λ (x:Nat)=>(x:Int):=by
 unfold a3X
 induction l with
 | nil=>rfl
 | cons a r ih =>
  rw [List.map_cons,List.filter_cons,List.filter_cons,ih]
  by_cases c:a = v
  ·subst c; simp
  ·have:¬ ((a:Int) = (v:Int)):=by omega
   simp [c,this]
def tieT (ts:List ζζ) (x y:Nat):Bool:=decide (((x:Int),(y:Int)) ∈ ts) || decide (((y:Int),(x:Int)) ∈ ts)
inductive PathT (ts:List ζζ) (S:List Nat) (x:Nat):Nat->Prop
 | one {u:Nat} (h:tieT ts x u = true):PathT ts S x u
 | step {a u:Nat} (p:PathT ts S x a) (m:a ∈ S) (h:tieT ts a u = true):PathT ts S x u
theorem PathT.mono {ts:List ζζ} {S S':List Nat} {x u:Nat} (h:PathT ts S x u) (s:∀ a ∈ S,a ∈ S'):PathT ts S' x u:=by
 induction h with
 | one h=>exact .one h
 | step p m h ih=>exact .step ih (s _ m) h
theorem PathT.glue {ts:List ζζ} {S:List Nat} {x w u:Nat} (hw:w ∈ S) (a:PathT ts S x w) (b:PathT ts S w u):PathT ts S x u:=by
 induction b with
 | one h=>exact .step a hw h
 | step p m h ih=>exact .step ih m h
theorem PathT.split {ts:List ζζ} {S:List Nat} {x w u:Nat} (h:PathT ts (S ++ [w]) x u):PathT ts S x u\/(PathT ts S x w/\PathT ts S w u):=by
 induction h with
 | one h=>exact .inl (.one h)
 | @step a u p m h ih =>
  rcases List.mem_append.mp m with m | m
  ·rcases ih with ih | ⟨i1,i2⟩
   ·exact .inl (.step ih m h)
   ·exact .inr ⟨i1,.step i2 m h⟩
  ·have e:=List.mem_singleton.mp m
   subst e
   rcases ih with ih | ⟨i1,_⟩
   ·exact .inr ⟨ih,.one h⟩
   ·exact .inr ⟨i1,.one h⟩
structure RunP (n:Nat) (ts:List ζζ) (S:List Nat):Prop where
 path:∀ x u,x < n->u < n->x ∉ S->u ∉ S->(runR n ts S x u = true ↔ x = u\/PathT ts S x u)
 gone:∀ x u,x < n->x ∉ S->u ∈ S->runR n ts S x u = false
theorem b2M {n:Nat} {ts:List ζζ}:∀ (k:Nat) (S:List Nat),S.length = k->S.Nodup->(∀ a ∈ S,a < n)->RunP n ts S
 | 0,S,hl,_,_=>by
  have e:S = []:=List.eq_nil_of_length_eq_zero hl
  subst e
  refine ⟨λ x u hx hu _ _=>?_,λ x u _ _ h=>absurd h List.not_mem_nil⟩
  show a2Q n ts x u = true ↔ _
  unfold a2Q
  rw [decide_eq_true (show x < n/\u < n from ⟨hx,hu⟩),Bool.true_and,Bool.or_assoc,Bool.or_eq_true,decide_eq_true_iff]
  constructor
  ·rintro (h | h)
   ·exact .inl h.symm
   ·exact .inr (.one h)
  ·rintro (h | h)
   ·exact .inl h.symm
   ·cases h with
    | one h=>exact .inr h
    | step p m h=>exact absurd m List.not_mem_nil
 | k + 1,S,hl,nd,hn=>by
  have hne:S ≠ []:=λ z=>by rw [z] at hl; cases hl
  obtain ⟨S',w,rfl⟩:∃ S' w,S = S' ++ [w]:=⟨S.dropLast,S.getLast hne,(List.dropLast_concat_getLast hne).symm⟩
  obtain ⟨nd',_,dis⟩:=List.nodup_append.mp nd
  have wS:w ∉ S':=λ h=>dis w h w (List.mem_singleton.mpr rfl) rfl
  have wn:w < n:=hn w (List.mem_append_right _ (List.mem_singleton.mpr rfl))
  have ih:=b2M (ts:=ts) k S' (by rw [List.length_append] at hl; exact Nat.succ.inj hl) nd' λ a ha=>hn a (List.mem_append_left _ ha)
  have out:∀ {x},x ∉ S' ++ [w]->x ∉ S'/\x ≠ w:=λ {x} h=>⟨λ z=>h (List.mem_append_left _ z),λ z=>h (List.mem_append_right _ (List.mem_singleton.mpr z))⟩
  refine ⟨λ x u hx hu h1 h2=>?_,λ x u hx h1 h2=>?_⟩
  ·obtain ⟨g1,n1⟩:=out h1
   obtain ⟨g2,n2⟩:=out h2
   rw [a2D]
   have q1:=ih.path x u hx hu g1 g2
   have q2:=ih.path x w hx wn g1 wS
   have q3:=ih.path w u wn hu wS g2
   have big:∀ a ∈ S',a ∈ S' ++ [w]:=λ a ha=>List.mem_append_left _ ha
   have wm:w ∈ S' ++ [w]:=List.mem_append_right _ (List.mem_singleton.mpr rfl)
   unfold a4Z
   rw [if_neg n1]
   constructor
   ·intro h
    split at h
    ·rename_i c
     rw [Bool.and_eq_true,Bool.or_eq_true] at h
     rcases h.1 with z | z
     ·exact (q1.mp z).imp_right λ p=>p.mono big
     ·have p1:=(q2.mp c).resolve_left n1
      have p2:=(q3.mp z).resolve_left λ y=>n2 y.symm
      exact .inr (PathT.glue wm (p1.mono big) (p2.mono big))
    ·exact (q1.mp h).imp_right λ p=>p.mono big
   ·intro h
    have main:runR n ts S' x u = true\/(runR n ts S' x w = true/\runR n ts S' w u = true):=by
     rcases h with h | h
     ·exact .inl (q1.mpr (.inl h))
     ·rcases h.split with p | ⟨p1,p2⟩
      ·exact .inl (q1.mpr (.inr p))
      ·exact .inr ⟨q2.mpr (.inr p1),q3.mpr (.inr p2)⟩
    rcases main with m | ⟨m1,m2⟩
    ·rw [m]
     split
     ·rw [decide_eq_false n2]; rfl
     ·rfl
    ·rw [if_pos m1,m2,decide_eq_false n2]; simp
  ·obtain ⟨g1,n1⟩:=out h1
   rw [a2D]
   unfold a4Z
   rw [if_neg n1]
   rcases List.mem_append.mp h2 with h2 | h2
   ·rw [ih.gone x u hx g1 h2,ih.gone w u wn wS h2]
    split <;> rfl
   ·have e:=List.mem_singleton.mp h2
    subst e
    split
    ·simp
    ·rename_i c; simpa using c
theorem a3K {n:Nat} {ts:List ζζ} {S:List Nat} (nd:S.Nodup) (hn:∀ a ∈ S,a < n):RunP n ts S:=b2M S.length S rfl nd hn
theorem b3X {n:Nat} {ts:List ζζ} {S S':List Nat} {v:Nat} (nd:S.Nodup) (hn:∀ a ∈ S,a < n) (pm:S'.Perm S) (hv:v < n) (hg:v ∉ S):a1A n (runR n ts S') v = a1A n (runR n ts S) v:=by
 have R1:=a3K (ts:=ts) nd hn
 have R2:=a3K (ts:=ts) (S:=S') (pm.nodup_iff.mpr nd) λ a ha=>hn a (pm.mem_iff.mp ha)
 have hg':v ∉ S':=λ h=>hg (pm.mem_iff.mp h)
 unfold a1A
 refine List.filter_congr λ u hu=>?_
 have hun:=List.mem_range.mp hu
 congr 1
 by_cases c:u ∈ S
 ·rw [R1.gone v u hv hg c,R2.gone v u hv hg' (pm.mem_iff.mpr c)]
 ·have c':u ∉ S':=λ h=>c (pm.mem_iff.mp h)
  rw [Bool.eq_iff_iff,R1.path v u hv hun hg c,R2.path v u hv hun hg' c']
  constructor
  ·exact Or.imp_right λ p=>p.mono λ a ha=>pm.mem_iff.mp ha
  ·exact Or.imp_right λ p=>p.mono λ a ha=>pm.mem_iff.mpr ha
end K
namespace K
open PySem L2 Lw Bg
theorem b2N (p:Nat->Bool):∀ l:List Nat,l.filterMap (λ u=>if p u = true then some (V.int ((u:Nat):Int)) else none) = natV (l.filter p)
 | []=>rfl
 | a :: r=>by
  have ih:=b2N p r
  rw [List.filter_cons]
  by_cases c:p a = true
  ·rw [if_pos c,List.filterMap_cons_some (by rw [if_pos c]),ih]; rfl
  ·rw [if_neg c,List.filterMap_cons_none (by rw [if_neg c]),ih]
theorem a9Y {α β:Type} {f g:α->Option β}:∀ {l:List α},(∀ a ∈ l,f a = g a)->l.filterMap f = l.filterMap g
 | [],_=>rfl
 | a :: r,h=>by
  have ih:=a9Y (f:=f) (g:=g) (l:=r) λ x hx=>h x (List.mem_cons_of_mem _ hx)
  rw [List.filterMap_cons,List.filterMap_cons,h a List.mem_cons_self,ih]
abbrev b6L:Stmt:=top 27
theorem sc_folds:FnScope ["graph", "bags", "sizes", "steps", "v"] ["graph"] (a0E b6L):=⟨rfl,rfl,rfl,by decide +kernel,rfl,by decide +kernel,by decide +kernel⟩
abbrev a3L:Stmt:=top 28
theorem sc_first_to_fold:FnScope ["bags", "sizes", "v", "bag"] ["bags", "sizes"] (a0E a3L):=⟨rfl,rfl,rfl,by decide +kernel,rfl,by decide +kernel,by decide +kernel⟩
def a1V (ms:List Nat) (v:Nat):Bool:=decide (ms.getD v 0 ≠ 0) && decide (popF (ms.getD v 0) <= 3)
def c3F (n:Nat) (ms:List Nat) (x:V):Prop:=(∃ v:Nat,v < n/\x = .int (v:Int)/\a1V ms v = true/\∀ u < v,a1V ms u = false)\/(x = .non/\∀ u < n,a1V ms u = false)
theorem b6M {v:Nat}:∀ {l:List Nat},l.Nodup->v ∈ l->(l.filter λ u=>!decide (u = v)).length + 1 = l.length
 | [],_,h=>absurd h List.not_mem_nil
 | a :: r,nd,h=>by
  obtain ⟨n1,n2⟩:=List.nodup_cons.mp nd
  rw [List.filter_cons]
  by_cases c:a = v
  ·subst c
   have e:r.filter (λ u=>!decide (u = a)) = r:=List.filter_eq_self.mpr λ x hx=>by
    have:x ≠ a:=λ z=>n1 (by rw [<- z]; exact hx)
    simpa using this
   rw [decide_eq_true rfl,if_neg (by decide),e]; rfl
  ·have hr:v ∈ r:=(List.mem_cons.mp h).resolve_left λ z=>c z.symm
   have ih:=b6M n2 hr
   rw [decide_eq_false c,if_pos (show (!false) = true from rfl)]
   show (r.filter _).length + 1 + 1 = r.length + 1
   omega
theorem a6R {n:Nat} {ms:List Nat} {R:Nat->Nat->Bool} {v:Nat} (b:BagsM n ms R) (hv:v < n) (hR:R v v = true):popF (ms.getD v 0) = (a1A n R v).length + 1:=by
 unfold popF
 rw [a3W b hv]
 have h:=b6M (v:=v) (l:=(List.range n).filter λ u=>R v u) (List.nodup_range.sublist List.filter_sublist) (List.mem_filter.mpr ⟨List.mem_range.mpr hv,hR⟩)
 rw [List.filter_filter] at h
 have e:(List.range n).filter (λ u=>!decide (u = v) && R v u) = a1A n R v:=by
  unfold a1A
  exact List.filter_congr λ u _=>Bool.and_comm _ _
 rw [e] at h
 exact h.symm
theorem a8L {n:Nat} {ts:List ζζ}:∀ (k:Nat) (S:List Nat),S.length = k->∀ x ∈ S,∀ u,runR n ts S x u = false
 | 0,S,hl,x,hx,_=>by rw [List.eq_nil_of_length_eq_zero hl] at hx; exact absurd hx List.not_mem_nil
 | k + 1,S,hl,x,hx,u=>by
  have hne:S ≠ []:=λ z=>by rw [z] at hl; cases hl
  obtain ⟨S',w,rfl⟩:∃ S' w,S = S' ++ [w]:=⟨S.dropLast,S.getLast hne,(List.dropLast_concat_getLast hne).symm⟩
  rw [a2D]
  unfold a4Z
  by_cases c:x = w
  ·rw [if_pos c]
  ·have hx':x ∈ S':=by
    rcases List.mem_append.mp hx with h | h
    ·exact h
    ·exact absurd (List.mem_singleton.mp h) c
   have ih:=a8L (n:=n) (ts:=ts) k S' (by rw [List.length_append] at hl; exact Nat.succ.inj hl) x hx'
   rw [if_neg c,ih w,if_neg Bool.false_ne_true]
   exact ih u
theorem live {n:Nat} {ts:List ζζ} {S ms:List Nat} (b:BagsM n ms (runR n ts S)) (nd:S.Nodup) (hS:∀ x ∈ S,x < n) {v:Nat} (hv:v < n):ms.getD v 0 ≠ 0 ↔ v ∉ S:=by
 constructor
 ·intro h hm
  refine h (Nat.eq_of_testBit_eq λ i=>?_)
  rw [b.bit v hv i,a8L S.length S rfl v hm i,Nat.zero_testBit]
 ·intro h z
  have:=b.bit v hv v
  rw [z,Nat.zero_testBit,((a3K nd hS).path v v hv hv h h).mpr (.inl rfl)] at this
  cases this
theorem b2O {n:Nat} {ts:List ζζ} {S T:List Nat} {j:Nat} (h:j < S.length):a8K n ts (S ++ T) j = a8K n ts S j:=by
 unfold a8K
 rw [List.take_append_of_le_length (by omega),τα,List.getElem?_append_left h,<- τα]
theorem a9Z {n:Nat} {ts:List ζζ} {S:List Nat} {v:Nat}:a8K n ts (S ++ [v]) S.length = a1A n (runR n ts S) v:=by
 unfold a8K
 rw [List.take_left',τα,List.getElem?_append_right (Nat.le_refl _),Nat.sub_self]
 ·rfl
 ·rfl
structure StepL (H:Hp) (ps qs:List Addr) (n:Nat) (ts:List ζζ) (S:List Nat):Prop where
 lp:ps.length = S.length
 lq:qs.length = S.length
 tup:∀ (j:Nat) p,ps[j]? = some p->∀ v q,S[j]? = some v->qs[j]? = some q->H p = some (.tup [.int (v:Int),.ref q])/\H q = some (.lst (natV (a8K n ts S j)))
theorem StepL.mono {H H':Hp} {ps qs:List Addr} {n:Nat} {ts:List ζζ} {S:List Nat} (st:StepL H ps qs n ts S) (k:∀ b u,H b = some u->(∃ j:Nat,ps[j]? = some b\/qs[j]? = some b)->H' b = some u):StepL H' ps qs n ts S :=
 ⟨st.lp,st.lq,λ j p hp v q hv hq=>⟨k _ _ (st.tup j p hp v q hv hq).1 ⟨j,.inl hp⟩,k _ _ (st.tup j p hp v q hv hq).2 ⟨j,.inr hq⟩⟩⟩
theorem StepL.snoc {H:Hp} {ps qs:List Addr} {n:Nat} {ts:List ζζ} {S:List Nat} {p q:Addr} {v:Nat} (st:StepL H ps qs n ts S) (h1:H p = some (.tup [.int (v:Int),.ref q])) (h2:H q = some (.lst (natV (a1A n (runR n ts S) v)))):StepL H (ps ++ [p]) (qs ++ [q]) n ts (S ++ [v]):=by
 have lp:=st.lp
 have lq:=st.lq
 refine ⟨by rw [List.length_append,List.length_append,st.lp]; rfl,by rw [List.length_append,List.length_append,st.lq]; rfl,λ j p' hp w q' hw hq=>?_⟩
 by_cases c:j < S.length
 ·rw [List.getElem?_append_left (by omega)] at hp hw hq
  rw [b2O c]
  exact st.tup j p' hp w q' hw hq
 ·rw [List.getElem?_append_right (by omega)] at hp hw hq
  cases z:j - S.length with
  | zero =>
   rw [lp,z] at hp
   rw [z] at hw
   rw [lq,z] at hq
   simp at hp hw hq
   have:j = S.length:=by omega
   subst this
   rw [a9Z,<- hp,<- hw,<- hq]
   exact ⟨h1,h2⟩
  | succ k=>rw [z] at hw; simp at hw
def a5S (n:Nat) (S:List Nat):List Nat:=(List.range n).filter λ u=>!decide (u ∈ S)
structure FoldRun (n:Nat) (ts:List ζζ) (S:List Nat):Prop where
 nd:S.Nodup
 lt:∀ x ∈ S,x < n
 few:∀ j < S.length,(a8K n ts S j).length <= 2
 least:∀ (j v:Nat),S[j]? = some v->∀ u < v,u ∉ S.take j->3 <= (a1A n (runR n ts (S.take j)) u).length
def b1L (K:Φρ):Sp:=λ vs H Q _=>∃ (a z:Addr) (n:Nat) (ms:List Nat) (R:Nat->Nat->Bool),vs = [.ref a,.ref z]/\SqL K H a (natV ms)/\BagsM n ms R/\SqL K H z (a2L (2 ^ n))/\∀ x H',Same H H'->c3F n ms x->Q x H'
def c3G (K:Φρ):Sp:=λ vs H Q _=>∃ (g:V) (n:Nat) (ts:List ζζ),vs = [g]/\GraphV K H g n ts/\(∀ t ∈ ts,0 <= t.1/\t.1 < t.2/\t.2 < (n:Int))/\n <= 10 /\
 ∀ p pst pl ps qs S H',Same H H'->H' p = some (.tup [.ref pst,.ref pl])->H' pst = some (.lst (ps.map V.ref))->StepL H' ps qs n ts S->H' pl = some (.lst (natV (a5S n S)))->FoldRun n ts S->(∀ v < n,v ∉ S->3 <= (a1A n (runR n ts S) v).length)->(∀ q ∈ qs,H q = none)->H pl = none->Q (.ref p) H'
theorem c5X {n:Nat} {ms:List Nat} {R:Nat->Nat->Bool} (b:BagsM n ms R) {v:Nat} (hv:v < n):ms.getD v 0 < 2 ^ n:=a2G λ u hu=>by
 rw [b.bit v hv u] at hu
 exact (b.far v u hu).2
section
variable {P:Program} {w:World} {K:Φρ} {mg:Str->Option Value} {base:Heap}
abbrev DZ12 (K:PySem.W.Frag) (mg:Str->Option Value):=Dn K mg "first_to_fold" a3L ["bags", "sizes"]
set_option maxHeartbeats 4000000 in
theorem a5T (B:Bl mg) (dZ12:DZ12 K mg):FnOk P w K mg base CX0 1 dZ12.f dZ12.fd ["bags", "sizes"] (b1L K):=by
 refine dZ12.F.ok sc_first_to_fold (λ vs H Q E h=>?_) (λ cdv A outer s H vs Q E hr h=>?_)
 ·obtain ⟨a,z,n,ms,R,rfl,_⟩:=h
  rfl
 obtain ⟨a,z,n,ms,R,rfl,hA,BM,hZ,q⟩:=h
 have lm:=BM.len
 refine ⟨_,(a0C (a1R PassesOwn.never rfl (a8A (K:=K) rfl rfl B.enumerate (a0A (pv 0) a0B)) (a2X (K:=K) (n:=2) rfl rfl (a1B (a0H (i:=2) sc_first_to_fold.nd rfl (Or.inl rfl)) (a1B (a0H (i:=3) sc_first_to_fold.nd rfl (Or.inl rfl)) a2V)))
   (a0D (a3T (PW.pt (c0M (a0P (K:=K) rfl (pv 3) (λ _=>rfl)) (b4G (a1C b8E (a0S (a0I (K:=K) rfl) (pv 1) (pv 3) (λ _ _=>rfl)) a0F (a1N _)))))
   (a0D (a0M (pv 2)))
   a1S)))
   (a0D (a0M a7D))),?_⟩
 refine ⟨_,rfl,a,rfl,⟨_,hA⟩,?_⟩
 refine a8B (xs:=natV ms) (λ i σ H'=>∃ (vv bb:Option V),σ = [some (.ref a),some (.ref z),vv,bb]/\Same H H'/\∀ u < i,a1V ms u = false) ⟨none,none,rfl,Same.refl _,λ u h=>absurd h (Nat.not_lt_zero _)⟩ (λ i σ H' _ ⟨_,_,_,s,_⟩=>s.seq hA) ?_ ?_
 ·rintro i x σ H1 p H2 hx ⟨vv,bb,rfl,s1,no⟩ n2
  rw [List.getElem?_map] at hx
  obtain ⟨m,hm,rfl⟩:=Option.map_eq_some_iff.mp hx
  have il:i < ms.length:=(List.getElem?_eq_some_iff.mp hm).1
  have em:ms.getD i 0 = m:=by rw [τα,hm]; rfl
  have ml:m < 2 ^ n:=by rw [<- em]; exact c5X BM (by omega)
  have s2:=s1.trans n2.same
  refine ⟨p,_,rfl,SqT.of n2.here,rfl,_,_,rfl,_,_,rfl,rfl,?_⟩
  have next:a1V ms i = false->∀ u < i + 1,a1V ms u = false:=λ f u hu=>by
   by_cases c:u = i
   ·rw [c]; exact f
   ·exact no u (by omega)
  refine ⟨_,rfl,_,rfl,?_⟩
  by_cases c:m = 0
  ·rw [show (((m:Nat):Int) != 0) = false by rw [c]; rfl]
   exact iteF ⟨_,_,rfl,s2,next (by unfold a1V; rw [em,c]; rfl)⟩
  ·rw [show (((m:Nat):Int) != 0) = true by simpa using c]
   refine iteT ?_
   refine ⟨_,rfl,_,rfl,z,_,_,_,rfl,rfl,s2.seq hZ,a6Q ml,_,_,rfl,rfl,_,rfl,?_⟩
   refine ite2 (λ d=>?_) (λ d=>?_)
   ·have d':((popF m:Nat):Int) <= 3:=of_decide_eq_true d
    exact ⟨_,rfl,q _ H2 s2 (.inl ⟨i,by omega,rfl,by unfold a1V; rw [em,decide_eq_true c,decide_eq_true (show popF m <= 3 by omega)]; rfl,no⟩)⟩
   ·have d':¬ ((popF m:Nat):Int) <= 3:=of_decide_eq_false (Bool.eq_false_iff.mpr d)
    exact ⟨_,_,rfl,s2,next (by unfold a1V; rw [em,decide_eq_false (show ¬ popF m <= 3 by omega),Bool.and_false])⟩
 ·rintro σ H1 ⟨vv,bb,rfl,s1,no⟩
  rw [List.length_map,lm] at no
  exact q _ H1 s1 (.inr ⟨rfl,no⟩)
abbrev DZ13 (K:PySem.W.Frag) (mg:Str->Option Value):=Dn K mg "folds" b6L ["graph"]
set_option maxHeartbeats 8000000 in
theorem b2P (B:Bl mg) (dZ21:DZ21 K mg) (dZ27:DZ27 K mg) (dZ24:DZ24 K mg) (dZ11:DZ11 K mg) (dZ31:DZ31 K mg) (dZ13:DZ13 K mg) (dZ12:DZ12 K mg):FnOk P w K mg base CX0 3 dZ13.f dZ13.fd ["graph"] (c3G K):=by
 have gZ11:FnOk P w K mg base CX0 2 _ _ _ _:=(a4N B dZ11).mono (by decide)
 have gZ24:FnOk P w K mg base CX0 2 _ _ _ _:=(a4O B dZ24).mono (by decide)
 have gZ31:FnOk P w K mg base CX0 2 _ _ _ _:=(a5O B dZ31).mono (by decide)
 have gZ27:FnOk P w K mg base CX0 2 _ _ _ _:=(a9X B dZ27).mono (by decide)
 have gZ21:FnOk P w K mg base CX0 2 _ _ _ _:=(a5C B dZ21).mono (by decide)
 have gZ12:FnOk P w K mg base CX0 2 _ _ _ _:=(a5T B dZ12).mono (by decide)
 refine dZ13.F.ok sc_folds (λ vs H Q E h=>?_) (λ cdv A outer s H vs Q E hr h=>?_)
 ·obtain ⟨g,n,ts,rfl,_⟩:=h
  rfl
 obtain ⟨g,n,ts,rfl,hG,okt,n10,q⟩:=h
 obtain ⟨pg,ta,rfl,hP,hT⟩:=id hG
 refine ⟨_,(a0C (a0J (i:=1) sc_folds.nd rfl (Or.inl rfl) (a0G gZ11 hr rfl dZ11.m dZ11.F.kp dZ11.b .nil a0L (a0A (pv 0) a0B)))
   (a0C (a0J (i:=2) sc_folds.nd rfl (Or.inl rfl) (a0G gZ24 hr rfl dZ24.m dZ24.F.kp dZ24.b .nil a0L (a0A (a0S (a1K (K:=K) rfl) (pv 0) a0F (λ _ _=>rfl)) a0B)))
   (a0C (a0J (i:=3) sc_folds.nd rfl (Or.inl rfl) (a1M a0B))
   (a0C (a0J (i:=4) sc_folds.nd rfl (Or.inl rfl) (a0G gZ12 hr rfl dZ12.m dZ12.F.kp dZ12.b .nil a0L (a0A (pv 1) (a0A (pv 2) a0B))))
   (a0C (a4D PassesOwn.never (a1C c1N (pv 4) a7D (a1N _))
   (a0C (a3C (a4I (K:=K) rfl PySem.F.plainAttrs_list PySem.F.slot_list_append PySem.F.type_list_append a3S (pv 3) (a0A (a2A (a0A (pv 4) (a0A (a0G gZ21 hr rfl dZ21.m dZ21.F.kp dZ21.b .nil a0L (a0A (a0G gZ27 hr rfl dZ27.m dZ27.F.kp dZ27.b .nil a0L (a0A (a0S (a0I (K:=K) rfl) (pv 1) (pv 4) (λ _ _=>rfl)) a0B)) (a0A (a1M (a0A (pv 4) a0B)) a0B))) a0B))) a0B)))
   (a0C (a0J (i:=1) sc_folds.nd rfl (Or.inl rfl) (a0G gZ31 hr rfl dZ31.m dZ31.F.kp dZ31.b .nil a0L (a0A (pv 1) (a0A (pv 4) a0B))))
   (a0D (a0J (i:=4) sc_folds.nd rfl (Or.inl rfl) (a0G gZ12 hr rfl dZ12.m dZ12.F.kp dZ12.b .nil a0L (a0A (pv 1) (a0A (pv 2) a0B))))))))
   (a0D (a0M (a2A (a0A (pv 3) (a0A (a9K ["u", "bag"] [none,none]  (by kernel_rfl) rfl (a8A (K:=K) rfl rfl B.enumerate (a0A (pv 1) a0B)) (λ _ _ _ _ _=>(a2X (K:=K) (n:=2) rfl rfl (a1B (a0H (i:=0) (show (["u", "bag"]:List Str).Nodup by decide +kernel) rfl (Or.inl rfl)) (a1B (a0H (i:=1) (show (["u", "bag"]:List Str).Nodup by decide +kernel) rfl (Or.inl rfl)) a2V)))) (λ _ _ _ _ _=>(a2P (a0P (K:=K) rfl (pv 1) (λ _=>rfl)))) (λ _ _ _ _ _=>(pv 0))) a0B)))))))))),?_⟩
 refine ⟨_,rfl,.ref pg,n,ts,rfl,hG,okt,n10,λ pb ms H2 s2 f2 hb2 BM=>?_⟩
 refine ⟨_,rfl,pg,_,_,_,rfl,rfl,s2.tupq hP,rfl,n,rfl,n10,λ pz H3 n3=>?_⟩
 refine ⟨(by show 0 <= 1000; decide),λ pst H4 n4=>?_⟩
 have s4:Same H H4:=s2.trans (n3.same.trans n4.same)
 have hz4:H4 pz = some (.lst (a2L (2 ^ n))):=n4.same _ _ n3.here
 have hb4:H4 pb = some (.lst (natV ms)):=n4.same _ _ (n3.same _ _ hb2)
 have fst:H pst = none:=(s2.trans n3.same).free n4.fresh
 have nzs:pz ≠ pst:=n4.ne n3.here
 refine ⟨_,rfl,_,rfl,pb,pz,n,ms,_,rfl,SqL.of hb4,BM,SqL.of hz4,λ x0 H5 s5 fr5=>?_⟩
 refine ⟨λ m σ H'=>∃ (pb:Addr) (x:V) (S ms:List Nat) (ps qs:List Addr),m = n - S.length/\σ = [some (.ref pg),some (.ref pb),some (.ref pz),some (.ref pst),some x]/\Same H H'/\H' pb = some (.lst (natV ms))/\pb ≠ pst/\BagsM n ms (runR n ts S)/\FoldRun n ts S/\c3F n ms x /\
   H' pz = some (.lst (a2L (2 ^ n)))/\H' pst = some (.lst (ps.map V.ref))/\StepL H' ps qs n ts S/\(∀ p ∈ ps,p ≠ pst)/\∀ p ∈ qs,p ≠ pst/\H p = Option.none,
  ⟨_,pb,x0,[],ms,[],[],rfl,rfl,s4.trans s5,s5 _ _ hb4,n4.ne (n3.same _ _ hb2),BM,⟨.nil,λ x h=>absurd h List.not_mem_nil,λ j h=>absurd h (Nat.not_lt_zero _),λ j v e=>by simp at e⟩,fr5,s5 _ _ hz4,s5 _ _ n4.here,⟨rfl,rfl,λ j p e=>by simp at e⟩,λ p h=>absurd h List.not_mem_nil,λ p h=>absurd h List.not_mem_nil⟩,?_⟩
 rintro m σ H6 ⟨pb,x,S,ms,ps,qs,rfl,rfl,s6,hb6,nbs,BM,FR,fr,hz6,hst6,st,pps,pqs⟩
 have nd:=FR.nd
 have hS:=FR.lt
 have few:=FR.few
 refine ⟨_,rfl,rfl,_,rfl,?_⟩
 rcases fr with ⟨v,vn,rfl,fv,leastv⟩ | ⟨rfl,nofold⟩
 ·refine iteT ?_
  unfold a1V at fv
  rw [Bool.and_eq_true,decide_eq_true_iff,decide_eq_true_iff] at fv
  have vS:v ∉ S:=(live BM nd hS vn).mp fv.1
  have hR:runR n ts S v v = true:=((a3K nd hS).path v v vn vn vS vS).mpr (.inl rfl)
  have pl:=a6R BM vn hR
  have BM0:=BM
  have nd':(S ++ [v]).Nodup:=List.nodup_append.mpr ⟨nd,List.nodup_cons.mpr ⟨List.not_mem_nil,.nil⟩,λ a ha b hb z=>vS (by rw [<- List.mem_singleton.mp hb,<- z]; exact ha)⟩
  have hS':∀ x ∈ S ++ [v],x < n:=λ x hx=>by
   rcases List.mem_append.mp hx with h | h
   ·exact hS x h
   ·rw [List.mem_singleton.mp h]; exact vn
  have ln':=a2Z nd' hS'
  rw [List.length_append] at ln'
  have ln'':S.length + 1 <= n:=ln'
  refine ⟨λ σ' H'=>∃ (pb:Addr) (x:V) (ms:List Nat) (ps qs:List Addr),σ' = [some (.ref pg),some (.ref pb),some (.ref pz),some (.ref pst),some x]/\Same H H'/\H' pb = some (.lst (natV ms))/\pb ≠ pst/\BagsM n ms (runR n ts (S ++ [v]))/\c3F n ms x /\
   H' pz = some (.lst (a2L (2 ^ n)))/\H' pst = some (.lst (ps.map V.ref))/\StepL H' ps qs n ts (S ++ [v])/\(∀ p ∈ ps,p ≠ pst)/\∀ p ∈ qs,p ≠ pst/\H p = Option.none,?_,?_⟩
  ·rintro σ' H' ⟨pb,x,ms,ps,qs,rfl,h1,h2,h3,h4,h5,h6,h7,h8,h9,h10⟩
   refine ⟨n - (S ++ [v]).length,by rw [List.length_append]; show n - (S.length + 1) < n - S.length; omega,pb,x,S ++ [v],ms,ps,qs,rfl,rfl,h1,h2,h3,h4,⟨nd',hS',λ j hj=>?_,λ j w hw u hu hg=>?_⟩,h5,h6,h7,h8,h9,h10⟩
   ·by_cases c:j < S.length
    ·rw [b2O c]; exact few j c
    ·rw [List.length_append] at hj
     have:j = S.length:=by
      have:j < S.length + 1:=hj
      omega
     rw [this,a9Z]
     omega
   ·by_cases c:j < S.length
    ·rw [List.take_append_of_le_length (by omega)] at hg ⊢
     rw [List.getElem?_append_left c] at hw
     exact FR.least j w hw u hu hg
    ·have hj2:=(List.getElem?_eq_some_iff.mp hw).1
     rw [List.length_append] at hj2
     have ej:j = S.length:=by
      have:j < S.length + 1:=hj2
      omega
     subst ej
     rw [List.take_left' rfl] at hg ⊢
     rw [List.getElem?_append_right (Nat.le_refl _),Nat.sub_self] at hw
     simp at hw
     subst hw
     have un:u < n:=by omega
     have hRu:runR n ts S u u = true:=((a3K nd hS).path u u un un hg hg).mpr (.inl rfl)
     have plu:=a6R BM0 un hRu
     have nf:=leastv u hu
     unfold a1V at nf
     rw [decide_eq_true ((live BM0 nd hS un).mpr hg),Bool.true_and] at nf
     have:=of_decide_eq_false nf
     omega
  have lv:v < ms.length:=by rw [BM.len]; exact vn
  refine ⟨_,rfl,.inl ⟨rfl,_,SqL.of hst6⟩,_,rfl,_,rfl,_,rfl,pb,_,_,_,rfl,rfl,SqL.of hb6,a6N lv,_,rfl,BM.mlt vn,λ H7 pp H8 s7 n8=>?_⟩
  refine ⟨_,rfl,(by show 1 <= 1000; decide),λ p9 H9 n9=>?_⟩
  have hpp:SqL K H9 pp ((a0X (ms.getD v 0)).map (λ (x:Nat)=>(x:Int)) |>.map V.int):=by rw [<- a0U]; exact SqL.of (n9.same _ _ n8.here)
  have hz:(a0X (ms.getD v 0)).length <= 10:=by
   unfold a0X
   refine Nat.le_trans (List.length_filter_le _ _) ?_
   simp
  refine ⟨pp,p9,_,[(v:Int)],rfl,hpp,SqL.of n9.here,by rw [List.length_map]; omega,λ H10 pq H11 s10 n11=>?_⟩
  rw [b9L,a3W BM vn,List.filter_filter,<- a0U] at n11
  have el:(List.range n).filter (λ u=>!decide (u = v) && runR n ts S v u) = a1A n (runR n ts S) v:=by
   unfold a1A
   exact List.filter_congr λ u _=>Bool.and_comm _ _
  rw [el] at n11
  refine ⟨(by show 2 <= 1000; decide),λ pt H12 n12=>?_⟩
  have s612:Same H6 H12:=s7.trans (n8.same.trans (n9.same.trans (s10.trans (n11.same.trans n12.same))))
  have hst12:=s612 _ _ hst6
  have lps:=st.lp
  refine ⟨pst,_,_,rfl,rfl,hst12,by rw [List.length_map]; omega,λ H13 c13=>?_⟩
  have keep:∀ b u,b ≠ pst->H6 b = some u->H13 b = some u:=λ b u hb e=>(c13.rest b hb).trans (s612 _ _ e)
  have s13:Same H H13:=(s6.trans s612).chg fst c13
  have npq:pq ≠ pst:=(n11.ne (s10 _ _ (n9.same _ _ (n8.same _ _ (s7 _ _ hst6))))).symm
  have npt:pt ≠ pst:=(n12.ne (n11.same _ _ (s10 _ _ (n9.same _ _ (n8.same _ _ (s7 _ _ hst6)))))).symm
  refine ⟨_,rfl,_,rfl,pb,n,ms,_,v,rfl,SqL.of (keep _ _ nbs hb6),BM,vn,λ pb2 H14 s14 f14 hb14=>?_⟩
  have BM2:BagsM n (a6I v ms) (runR n ts (S ++ [v])):=by rw [a2D]; exact b5I BM vn
  have hz14:=s14 _ _ (keep _ _ nzs hz6)
  refine ⟨_,rfl,_,rfl,pb2,pz,n,a6I v ms,_,rfl,SqL.of hb14,BM2,SqL.of hz14,λ x1 H15 s15 fr15=>?_⟩
  have s1315:=s14.trans s15
  refine ⟨pb2,x1,a6I v ms,ps ++ [pt],qs ++ [pq],rfl,s13.trans s1315,s15 _ _ hb14,λ z=>?_,BM2,fr15,s15 _ _ hz14,?_,?_,λ p hp=>?_,λ p hp=>?_⟩
  ·rw [z,c13.here] at f14; cases f14
  ·rw [s1315 _ _ c13.here,List.map_append]; rfl
  ·refine StepL.snoc (st.mono λ b u e hj=>?_) (s1315 _ _ ((c13.rest pt npt).trans n12.here)) (s1315 _ _ ((c13.rest pq npq).trans (n12.same _ _ n11.here)))
   refine s1315 _ _ (keep b u ?_ e)
   obtain ⟨j,hj | hj⟩:=hj
   ·exact pps b (List.mem_of_getElem? hj)
   ·exact (pqs b (List.mem_of_getElem? hj)).1
  ·rcases List.mem_append.mp hp with h | h
   ·exact pps p h
   ·rw [List.mem_singleton.mp h]; exact npt
  ·rcases List.mem_append.mp hp with h | h
   ·exact pqs p h
   ·rw [List.mem_singleton.mp h]; exact ⟨npq,(s6.trans (s7.trans (n8.same.trans (n9.same.trans s10)))).free n11.fresh⟩
 ·refine iteF ?_
  refine ⟨_,rfl,_,rfl,pb,rfl,⟨_,SqL.of hb6⟩,?_⟩
  refine c2E (λ i x=>if decide (x ≠ .int 0) = true then some (.int ((i:Nat):Int)) else none) (SqL.of hb6) (by rw [List.length_map,BM.len]; omega) (λ i x H7 p H8 N hx s7 n8 hN=>?_) (λ H7 pl H8 s7 n8=>?_)
  ·rw [List.getElem?_map] at hx
   obtain ⟨y,hy,rfl⟩:=Option.map_eq_some_iff.mp hx
   have hN':=hN H8 (s7.trans n8.same)
   refine ⟨p,_,rfl,SqT.of n8.here,rfl,_,_,rfl,_,_,rfl,rfl,?_⟩
   refine ⟨_,rfl,_,rfl,?_⟩
   by_cases c:y = 0
   ·rw [show decide (V.int ((y:Nat):Int) ≠ .int 0) = false by rw [c]; decide] at hN'
    rw [show (((y:Nat):Int) != 0) = false by rw [c]; rfl]
    exact iteF hN'
   ·rw [show decide (V.int ((y:Nat):Int) ≠ .int 0) = true from decide_eq_true λ z=>c (by have:=V.int.inj z; omega)] at hN'
    rw [show (((y:Nat):Int) != 0) = true by simpa using c]
    exact iteT ⟨_,rfl,hN'⟩
  ·have e8:(List.range (natV ms).length).filterMap (λ i=>((natV ms)[i]?).bind ((λ (i:Nat) (x:V)=>if decide (x ≠ .int 0) = true then some (V.int ((i:Nat):Int)) else none) i)) = natV (a5S n S):=by
    rw [List.length_map,BM.len]
    unfold a5S
    rw [<- b2N]
    refine a9Y λ i hi=>?_
    have hin:=List.mem_range.mp hi
    have hl:i < ms.length:=by rw [BM.len]; exact hin
    rw [List.getElem?_map,List.getElem?_eq_getElem hl]
    show (if decide (V.int ((ms[i]:Nat):Int) ≠ .int 0) = true then some (V.int ((i:Nat):Int)) else none) = _
    have eg:ms.getD i 0 = ms[i]:=by rw [τα,List.getElem?_eq_getElem hl]; rfl
    have lv:=live BM nd hS hin
    rw [eg] at lv
    have ed:decide (V.int ((ms[i]:Nat):Int) ≠ .int 0) = !decide (i ∈ S):=by
     rw [Bool.eq_iff_iff,decide_eq_true_iff]
     constructor
     ·intro h
      have:i ∉ S:=lv.mp λ z=>h (by rw [z]; rfl)
      simpa using this
     ·intro h z
      have h1:i ∉ S:=by simpa using h
      exact lv.mpr h1 (by have:=V.int.inj z; omega)
    rw [ed]
   rw [e8] at n8
   refine ⟨(by show 2 <= 1000; decide),λ p9 H9 n9=>?_⟩
   have s69:Same H6 H9:=s7.trans (n8.same.trans n9.same)
   refine q p9 pst pl ps qs S H9 (s6.trans s69) n9.here (s69 _ _ hst6) (st.mono λ b u e _=>s69 _ _ e) (n9.same _ _ n8.here) FR (λ v vn vS=>?_) (λ p hp=>(pqs p hp).2) ((s6.trans s7).free n8.fresh)
   have hR:runR n ts S v v = true:=((a3K nd hS).path v v vn vn vS vS).mpr (.inl rfl)
   have pl:=a6R BM vn hR
   have nf:=nofold v vn
   unfold a1V at nf
   rw [decide_eq_true ((live BM nd hS vn).mpr vS),Bool.true_and] at nf
   have:=of_decide_eq_false nf
   omega
end
end K
namespace K
open PySem L2 Lw Bg
theorem b0A {α β:Type} {l:List α} {f:α->β} (nd:l.Nodup) (inj:∀ x y,x ∈ l->y ∈ l->f x = f y->x = y):(l.map f).Nodup:=by
 induction l with
 | nil=>exact .nil
 | cons a r ih =>
  obtain ⟨n1,n2⟩:=List.nodup_cons.mp nd
  refine List.nodup_cons.mpr ⟨λ z=>?_,ih n2 λ x y hx hy=>inj x y (List.mem_cons_of_mem _ hx) (List.mem_cons_of_mem _ hy)⟩
  obtain ⟨b,hb,e⟩:=List.mem_map.mp z
  have:=inj b a (List.mem_cons_of_mem _ hb) List.mem_cons_self e
  exact n1 (this ▸ hb)
theorem pigN {α:Type} [DecidableEq α] {l U:List α} (nd:l.Nodup) (h:∀ x ∈ l,x ∈ U):l.length <= U.length:=by
 induction l generalizing U with
 | nil=>exact Nat.zero_le _
 | cons a r ih =>
  obtain ⟨n1,n2⟩:=List.nodup_cons.mp nd
  have am:=h a List.mem_cons_self
  have:=ih (U:=U.erase a) n2 λ x hx=>(List.mem_erase_of_ne (λ e=>n1 (by rw [<- e]; exact hx))).mpr (h x (List.mem_cons_of_mem _ hx))
  rw [List.length_erase_of_mem am] at this
  have:=List.length_pos_of_mem am
  rw [List.length_cons]; omega
theorem b6N {α:Type} [DecidableEq α] {l:List α} {v:α} (nd:l.Nodup):l.length <= (l.filter λ x=>!decide (x = v)).length + 1:=by
 have:=pigN (l:=l) (U:=v :: l.filter λ x=>!decide (x = v)) nd λ x hx=>by
  by_cases c:x = v
  ·rw [c]; exact List.mem_cons_self
  ·exact List.mem_cons_of_mem _ (List.mem_filter.mpr ⟨hx,by simp [c]⟩)
 rwa [List.length_cons] at this
section
variable {α β:Type} [DecidableEq α] [DecidableEq β]
def Few (V:α->Prop) (R:α->α->Prop) (v:α):Prop:=∀ U:List α,U.Nodup->(∀ u ∈ U,V u/\u ≠ v/\R v u)->U.length <= 2
def Wo (V:α->Prop) (v:α):α->Prop:=λ x=>V x/\x ≠ v
def El (R:α->α->Prop) (v:α):α->α->Prop:=λ x y=>R x y\/(R x v/\R v y)
def Mg (R:α->α->Prop) (a b:α):α->α->Prop:=λ x y=>R x y\/(x = a/\R b y)\/(y = a/\R x b)
inductive Fo:(α->Prop)->(α->α->Prop)->Prop
 | nil {V:α->Prop} {R:α->α->Prop}:(∀ x,¬ V x)->Fo V R
 | step {V:α->Prop} {R:α->α->Prop} (v:α):V v->Few V R v->Fo (Wo V v) (El R v)->Fo V R
theorem Fo.map {V:α->Prop} {R:α->α->Prop} (h:Fo V R):∀ {V':β->Prop} {R':β->β->Prop} (f:β->α),(∀ x,V' x->V (f x))->(∀ x y,V' x->V' y->f x = f y->x = y)->(∀ x y,V' x->V' y->x ≠ y->R' x y->R (f x) (f y))->Fo V' R':=by
 induction h with
 | nil e=>exact λ f hv _ _=>.nil λ x hx=>e _ (hv x hx)
 | @step V R v hv few _ ih =>
  intro V' R' f fV inj fR
  by_cases c:∃ x,V' x/\f x = v
  ·obtain ⟨x0,hx0,e0⟩:=c
   refine .step x0 hx0 (λ U nd hU=>?_) (ih f (λ x hx=>⟨fV x hx.1,λ z=>hx.2 (inj x x0 hx.1 hx0 (z.trans e0.symm))⟩) (λ x y hx hy=>inj x y hx.1 hy.1) λ x y hx hy ne h=>?_)
   ·have:=few (U.map f) (b0A nd λ a b ha hb=>inj a b (hU a ha).1 (hU b hb).1) λ u hu=>by
     obtain ⟨w,hw,rfl⟩:=List.mem_map.mp hu
     obtain ⟨w1,w2,w3⟩:=hU w hw
     exact ⟨fV w w1,λ z=>w2 (inj w x0 w1 hx0 (z.trans e0.symm)),e0 ▸ fR x0 w hx0 w1 (Ne.symm w2) w3⟩
    rwa [List.length_map] at this
   ·rcases h with h | ⟨h1,h2⟩
    ·exact .inl (fR x y hx.1 hy.1 ne h)
    ·exact .inr ⟨e0 ▸ fR x x0 hx.1 hx0 hx.2 h1,e0 ▸ fR x0 y hx0 hy.1 (Ne.symm hy.2) h2⟩
  ·refine ih f (λ x hx=>⟨fV x hx,λ z=>c ⟨x,hx,z⟩⟩) inj λ x y hx hy ne h=>.inl (fR x y hx hy ne h)
theorem Fo.sub {V V':α->Prop} {R R':α->α->Prop} (h:Fo V R) (hV:∀ x,V' x->V x) (hR:∀ x y,V' x->V' y->x ≠ y->R' x y->R x y):Fo V' R' :=
 h.map id hV (λ _ _ _ _ e=>e) hR
theorem Fo.merge {V:α->Prop} {R:α->α->Prop} (h:Fo V R):∀ {a b:α},(∀ x y,R x y->R y x)->V a->V b->a ≠ b->R a b->Fo (Wo V b) (Mg R a b):=by
 induction h with
 | nil e=>exact λ _ ha=>absurd ha (e _)
 | @step V R v hv few hF ih =>
  intro a b sym ha hb ne hab
  by_cases vb:v = b
  ·subst vb
   refine hF.sub (λ x hx=>hx) λ x y hx hy nxy h=>?_
   rcases h with h | ⟨rfl,h⟩ | ⟨rfl,h⟩
   ·exact .inl h
   ·exact .inr ⟨hab,h⟩
   ·exact .inr ⟨h,sym _ _ hab⟩
  by_cases va:v = a
  ·subst va
   refine hF.map (λ x=>if x = v then b else x) (λ x hx=>?_) (λ x y hx hy e=>?_) λ x y hx hy nxy h=>?_
   ·skip
    split
    ·exact ⟨hb,Ne.symm ne⟩
    ·rename_i c
     exact ⟨hx.1,c⟩
   ·skip
    split at e <;> split at e
    ·rename_i c d; rw [c,d]
    ·exact absurd e.symm hy.2
    ·exact absurd e hx.2
    ·exact e
   ·skip
    by_cases c:x = v
    ·rw [if_pos c]
     have ny:y ≠ v:=λ z=>nxy (c.trans z.symm)
     rw [if_neg ny]
     rcases h with h | ⟨_,h⟩ | ⟨h,_⟩
     ·rw [c] at h
      exact .inr ⟨sym _ _ hab,h⟩
     ·exact .inl h
     ·exact absurd h ny
    ·rw [if_neg c]
     by_cases d:y = v
     ·rw [if_pos d]
      rcases h with h | ⟨h,_⟩ | ⟨_,h⟩
      ·rw [d] at h
       exact .inr ⟨h,hab⟩
      ·exact absurd h c
      ·exact .inl h
     ·rw [if_neg d]
      rcases h with h | ⟨h,_⟩ | ⟨h,_⟩
      ·exact .inl h
      ·exact absurd h c
      ·exact absurd h d
  ·have symE:∀ x y,El R v x y->El R v y x:=λ x y h=>by
    rcases h with h | ⟨h1,h2⟩
    ·exact .inl (sym _ _ h)
    ·exact .inr ⟨sym _ _ h2,sym _ _ h1⟩
   have F1:=ih symE ⟨ha,Ne.symm va⟩ ⟨hb,Ne.symm vb⟩ ne (.inl hab)
   refine .step v ⟨hv,vb⟩ (λ U nd hU=>?_) (F1.sub (λ x hx=>⟨⟨hx.1.1,hx.2⟩,hx.1.2⟩) λ x y hx hy nxy h=>?_)
   ·by_cases c:R v a
    ·refine few U nd λ u hu=>?_
     obtain ⟨⟨u1,u2⟩,u3,u4⟩:=hU u hu
     refine ⟨u1,u3,?_⟩
     rcases u4 with h | ⟨h,_⟩ | ⟨h,_⟩
     ·exact h
     ·exact absurd h va
     ·rw [h]; exact c
    ·have:=few (U.map λ x=>if x = a then b else x) (b0A nd λ x y hx hy e=>?_) λ u hu=>?_
     ·rwa [List.length_map] at this
     ·obtain ⟨⟨_,x2⟩,_,_⟩:=hU x hx
      obtain ⟨⟨_,y2⟩,_,_⟩:=hU y hy
      split at e <;> split at e
      ·rename_i c d; rw [c,d]
      ·exact absurd e.symm y2
      ·exact absurd e x2
      ·exact e
     ·obtain ⟨x,hx,rfl⟩:=List.mem_map.mp hu
      obtain ⟨⟨x1,x2⟩,x3,x4⟩:=hU x hx
      split
      ·rename_i d
       refine ⟨hb,Ne.symm vb,?_⟩
       rcases x4 with h | ⟨h,_⟩ | ⟨_,h⟩
       ·rw [d] at h; exact absurd h c
       ·exact absurd h va
       ·exact h
      ·rename_i d
       refine ⟨x1,x3,?_⟩
       rcases x4 with h | ⟨h,_⟩ | ⟨h,_⟩
       ·exact h
       ·exact absurd h va
       ·exact absurd h d
   ·rcases h with h | ⟨h1,h2⟩
    ·rcases h with h | ⟨e,h⟩ | ⟨e,h⟩
     ·exact .inl (.inl h)
     ·exact .inr (.inl ⟨e,.inl h⟩)
     ·exact .inr (.inr ⟨e,.inl h⟩)
    ·have h1':R x v\/(x = a/\R b v):=by
      rcases h1 with h | h | ⟨h,_⟩
      ·exact .inl h
      ·exact .inr h
      ·exact absurd h va
     have h2':R v y\/(y = a/\R v b):=by
      rcases h2 with h | ⟨h,_⟩ | h
      ·exact .inl h
      ·exact absurd h va
      ·exact .inr h
     rcases h1' with h1 | ⟨ex,h1⟩
     ·rcases h2' with h2 | ⟨ey,h2⟩
      ·exact .inl (.inr ⟨h1,h2⟩)
      ·exact .inr (.inr ⟨ey,.inr ⟨h1,h2⟩⟩)
     ·rcases h2' with h2 | ⟨ey,h2⟩
      ·exact .inr (.inl ⟨ex,.inr ⟨h1,h2⟩⟩)
      ·exact absurd (ex.trans ey.symm) nxy
theorem Fo.out {V:α->Prop} {R:α->α->Prop} {v:α} (h:Fo V R) (sym:∀ x y,R x y->R y x) (hv:V v) (few:Few V R v):Fo (Wo V v) (El R v):=by
 by_cases c:∃ a,V a/\a ≠ v/\R v a
 ·obtain ⟨a,ha,na,hR⟩:=c
  refine (h.merge sym ha hv na (sym _ _ hR)).sub (λ x hx=>hx) λ x y hx hy nxy e=>?_
  rcases e with e | ⟨e1,e2⟩
  ·exact .inl e
  by_cases xa:x = a
  ·exact .inr (.inl ⟨xa,e2⟩)
  by_cases ya:y = a
  ·exact .inr (.inr ⟨ya,e1⟩)
  have:=few [a,x,y] (by simp [Ne.symm xa,Ne.symm ya,nxy]) λ u hu=>by
   rcases List.mem_cons.mp hu with rfl | hu
   ·exact ⟨ha,na,hR⟩
   rcases List.mem_cons.mp hu with rfl | hu
   ·exact ⟨hx.1,hx.2,sym _ _ e1⟩
   ·rw [List.mem_singleton.mp hu]; exact ⟨hy.1,hy.2,e2⟩
  exact absurd this (by simp)
 ·refine h.sub (λ x hx=>hx.1) λ x y hx hy nxy e=>?_
  rcases e with e | ⟨e1,e2⟩
  ·exact e
  ·exact absurd ⟨y,hy.1,hy.2,e2⟩ c
theorem Fo.some_few {V:α->Prop} {R:α->α->Prop} (h:Fo V R) {x:α} (hx:V x):∃ v,V v/\Few V R v:=by
 cases h with
 | nil e=>exact absurd hx (e x)
 | step v hv few _=>exact ⟨v,hv,few⟩
theorem Fo.two {V:α->Prop} {R:α->α->Prop} (h:Fo V R):(∀ x y,R x y->R y x)->(∃ L:List α,L.Nodup/\L.length = 4/\∀ x ∈ L,V x)->∃ x y,V x/\V y/\x ≠ y/\¬ R x y/\Few V R x/\Few V R y:=by
 induction h with
 | nil e =>
  rintro _ ⟨L,_,l,hL⟩
  match L,l with
  | a :: _,_=>exact absurd (hL a List.mem_cons_self) (e a)
 | @step V R v hv few hF ih =>
  intro sym hL
  have symE:∀ x y,El R v x y->El R v y x:=λ x y h=>by
   rcases h with h | ⟨h1,h2⟩
   ·exact .inl (sym _ _ h)
   ·exact .inr ⟨sym _ _ h2,sym _ _ h1⟩
  by_cases c:∃ L:List α,L.Nodup/\L.length = 4/\∀ x ∈ L,Wo V v x
  ·obtain ⟨x,y,hx,hy,nxy,nR,fx,fy⟩:=ih symE c
   have one:∀ z,Wo V v z->¬ R v z->Few (Wo V v) (El R v) z->∃ x y,V x/\V y/\x ≠ y/\¬ R x y/\Few V R x/\Few V R y:=λ z hz nz fz=>by
    refine ⟨v,z,hv,hz.1,Ne.symm hz.2,nz,few,λ U nd hU=>fz U nd λ u hu=>?_⟩
    obtain ⟨u1,u2,u3⟩:=hU u hu
    exact ⟨⟨u1,λ e=>nz (sym _ _ (e ▸ u3))⟩,u2,.inl u3⟩
   by_cases d:R v x
   ·by_cases e:R v y
    ·exact absurd (.inr ⟨sym _ _ d,e⟩) nR
    ·exact one y hy e fy
   ·exact one x hx d fx
  ·obtain ⟨L,nd,l,hL⟩:=hL
   have l3:3 <= (L.filter λ x=>!decide (x = v)).length:=by
    have:L.length <= (L.filter λ x=>!decide (x = v)).length + 1:=b6N nd
    omega
   obtain ⟨p,hp,np⟩:∃ p,Wo V v p/\¬ R v p:=by
    refine Classical.byContradiction λ no=>?_
    have:=few (L.filter λ x=>!decide (x = v)) (nd.sublist List.filter_sublist) λ u hu=>by
     rw [List.mem_filter] at hu
     have uv:u ≠ v:=by simpa using hu.2
     refine ⟨hL u hu.1,uv,Classical.byContradiction λ nu=>no ⟨u,⟨hL u hu.1,uv⟩,nu⟩⟩
    omega
   refine ⟨v,p,hv,hp.1,Ne.symm hp.2,np,few,λ U ndU hU=>?_⟩
   refine Classical.byContradiction λ big=>c ⟨p :: U.take 3,?_,?_,λ x hx=>?_⟩
   ·refine List.nodup_cons.mpr ⟨λ z=>(hU p (List.mem_of_mem_take z)).2.1 rfl,ndU.sublist (List.take_sublist _ _)⟩
   ·rw [List.length_cons,List.length_take]; omega
   ·rcases List.mem_cons.mp hx with rfl | hx
    ·exact hp
    ·obtain ⟨u1,u2,u3⟩:=hU x (List.mem_of_mem_take hx)
     exact ⟨u1,λ e=>np (sym _ _ (e ▸ u3))⟩
theorem b6O {V:α->Prop} {R:α->α->Prop} (sym:∀ x y,R x y->R y x) (hF:¬ Fo V R) (del:∀ v,V v->Fo (Wo V v) R) (con:∀ a b,V a->V b->a ≠ b->R a b->Fo (Wo V b) (Mg R a b)) {L:List α} (nd:L.Nodup) (mem:∀ x,x ∈ L ↔ V x):L.length = 4/\∀ x ∈ L,∀ y ∈ L,x ≠ y->R x y:=by
 have nofew:∀ v,V v->¬ Few V R v:=λ v hv few=>by
  refine hF (.step v hv few ?_)
  by_cases c:∃ a,V a/\a ≠ v/\R v a
  ·obtain ⟨a,ha,na,hR⟩:=c
   refine (con a v ha hv na (sym _ _ hR)).sub (λ x hx=>hx) λ x y hx hy nxy e=>?_
   rcases e with e | ⟨e1,e2⟩
   ·exact .inl e
   by_cases xa:x = a
   ·exact .inr (.inl ⟨xa,e2⟩)
   by_cases ya:y = a
   ·exact .inr (.inr ⟨ya,e1⟩)
   have:=few [a,x,y] (by simp [Ne.symm xa,Ne.symm ya,nxy]) λ u hu=>by
    rcases List.mem_cons.mp hu with rfl | hu
    ·exact ⟨ha,na,hR⟩
    rcases List.mem_cons.mp hu with rfl | hu
    ·exact ⟨hx.1,hx.2,sym _ _ e1⟩
    ·rw [List.mem_singleton.mp hu]; exact ⟨hy.1,hy.2,e2⟩
   exact absurd this (by simp)
  ·refine (del v hv).sub (λ x hx=>hx) λ x y hx hy nxy e=>?_
   rcases e with e | ⟨e1,e2⟩
   ·exact e
   ·exact absurd ⟨y,hy.1,hy.2,e2⟩ c
 have three:∀ v,V v->∃ U:List α,U.Nodup/\U.length = 3/\∀ u ∈ U,V u/\u ≠ v/\R v u:=λ v hv=>by
  refine Classical.byContradiction λ no=>nofew v hv λ U ndU hU=>?_
  refine Classical.byContradiction λ big=>no ⟨U.take 3,ndU.sublist (List.take_sublist _ _),by rw [List.length_take]; omega,λ u hu=>hU u (List.mem_of_mem_take hu)⟩
 have no5:¬ 5 <= L.length:=λ l5=>by
  have T:∀ u v,V u->V v->u ≠ v->R u v->∃ x y,V x/\V y/\x ≠ y/\x ≠ u/\x ≠ v/\y ≠ u/\y ≠ v/\¬ R x y/\R x u/\R x v/\R y u/\R y v/\(∀ U:List α,U.Nodup->(∀ w ∈ U,V w/\w ≠ x/\R x w)->U.length <= 3):=λ u v hu hv nuv hR=>by
   have F:=con u v hu hv nuv hR
   have symM:∀ x y,Mg R u v x y->Mg R u v y x:=λ x y h=>by
    rcases h with h | ⟨e,h⟩ | ⟨e,h⟩
    ·exact .inl (sym _ _ h)
    ·exact .inr (.inr ⟨e,sym _ _ h⟩)
    ·exact .inr (.inl ⟨e,sym _ _ h⟩)
   obtain ⟨x,y,hx,hy,nxy,nR,fx,fy⟩:=F.two symM ⟨(L.filter λ x=>!decide (x = v)).take 4,(nd.sublist List.filter_sublist).sublist (List.take_sublist _ _),by
    have:L.length <= (L.filter λ x=>!decide (x = v)).length + 1:=b6N nd
    rw [List.length_take]; omega,λ z hz=>by
    have:=List.mem_filter.mp (List.mem_of_mem_take hz)
    exact ⟨(mem z).mp this.1,by simpa using this.2⟩⟩
   have notu:∀ p q,Wo V v p->Wo V v q->p ≠ q->¬ Mg R u v p q->Few (Wo V v) (Mg R u v) q->p ≠ u:=λ p q hp hq npq nM fq e=>by
    subst e
    refine nofew q hq.1 λ U ndU hU=>fq U ndU λ w hw=>?_
    obtain ⟨w1,w2,w3⟩:=hU w hw
    exact ⟨⟨w1,λ z=>nM (.inr (.inl ⟨rfl,sym _ _ (z ▸ w3)⟩))⟩,w2,.inl w3⟩
   have xu:=notu x y hx hy nxy nR fy
   have yu:=notu y x hy hx (Ne.symm nxy) (λ h=>nR (symM _ _ h)) fx
   have both:∀ p,Wo V v p->p ≠ u->Few (Wo V v) (Mg R u v) p->R p u/\R p v/\∀ U:List α,U.Nodup->(∀ w ∈ U,V w/\w ≠ p/\R p w)->U.length <= 3:=λ p hp pu fp=>by
    obtain ⟨U,ndU,lU,hU⟩:=three p hp.1
    have hv:v ∈ U:=Classical.byContradiction λ c=>by
     have:=fp U ndU λ w hw=>⟨⟨(hU w hw).1,λ z=>c (z ▸ hw)⟩,(hU w hw).2.1,.inl (hU w hw).2.2⟩
     omega
    have hRv:=(hU v hv).2.2
    have hu':u ∈ U:=Classical.byContradiction λ c=>by
     have:=fp (U.map λ w=>if w = v then u else w) (b0A ndU λ a b ha hb e=>by
      split at e <;> split at e
      ·rename_i c1 c2; rw [c1,c2]
      ·exact absurd (e ▸ hb) c
      ·exact absurd (e ▸ ha) c
      ·exact e) λ w hw=>by
      obtain ⟨z,hz,rfl⟩:=List.mem_map.mp hw
      split
      ·exact ⟨⟨hu,nuv⟩,Ne.symm pu,.inr (.inr ⟨rfl,hRv⟩)⟩
      ·rename_i zc
       exact ⟨⟨(hU z hz).1,zc⟩,(hU z hz).2.1,.inl (hU z hz).2.2⟩
     rw [List.length_map] at this
     omega
    refine ⟨(hU u hu').2.2,hRv,λ W ndW hW=>?_⟩
    have:=fp (W.filter λ w=>!decide (w = v)) (ndW.sublist List.filter_sublist) λ w hw=>by
     rw [List.mem_filter] at hw
     exact ⟨⟨(hW w hw.1).1,by simpa using hw.2⟩,(hW w hw.1).2.1,.inl (hW w hw.1).2.2⟩
    have l2:W.length <= (W.filter λ x=>!decide (x = v)).length + 1:=b6N ndW
    omega
   obtain ⟨a1,a2,a3⟩:=both x hx xu fx
   obtain ⟨b1,b2,b3⟩:=both y hy yu fy
   exact ⟨x,y,hx.1,hy.1,nxy,xu,hx.2,yu,hy.2,λ h=>nR (.inl h),a1,a2,b1,b2,a3⟩
  obtain ⟨v0,hv0⟩:∃ v,V v:=by
   match L,l5 with
   | a :: _,_=>exact ⟨a,(mem a).mp List.mem_cons_self⟩
  obtain ⟨U0,nd0,l0,hU0⟩:=three v0 hv0
  obtain ⟨u0,hu0⟩:∃ u,u ∈ U0:=by
   match U0,l0 with
   | a :: _,_=>exact ⟨a,List.mem_cons_self⟩
  obtain ⟨u01,u02,u03⟩:=hU0 u0 hu0
  obtain ⟨x,y,hx,hy,nxy,xu,xv,yu,yv,nR,Rxu,Rxv,Ryu,Ryv,D⟩:=T u0 v0 u01 hv0 u02 (sym _ _ u03)
  obtain ⟨U,ndU,lU,hU⟩:=three x hx
  obtain ⟨z,hz,zu,zv⟩:∃ z ∈ U,z ≠ u0/\z ≠ v0:=by
   refine Classical.byContradiction λ no=>?_
   have sub:∀ w ∈ U,w ∈ [u0,v0]:=λ w hw=>Classical.byContradiction λ c=>no ⟨w,hw,λ e=>c (by rw [e]; exact List.mem_cons_self),λ e=>c (by rw [e]; simp)⟩
   have:=pigN ndU sub
   rw [lU] at this
   exact absurd this (by simp)
  obtain ⟨hz1,hz2,hz3⟩:=hU z hz
  have only:∀ w,V w->w ≠ x->R x w->w = u0\/w = v0\/w = z:=λ w w1 w2 w3=>by
   refine Classical.byContradiction λ c=>?_
   have c1:w ≠ u0:=λ e=>c (.inl e)
   have c2:w ≠ v0:=λ e=>c (.inr (.inl e))
   have c3:w ≠ z:=λ e=>c (.inr (.inr e))
   have:=D [w,z,u0,v0] (by simp [c1,c2,c3,zu,zv,u02]) λ q hq=>by
    rcases List.mem_cons.mp hq with rfl | hq
    ·exact ⟨w1,w2,w3⟩
    rcases List.mem_cons.mp hq with rfl | hq
    ·exact ⟨hz1,hz2,hz3⟩
    rcases List.mem_cons.mp hq with rfl | hq
    ·exact ⟨u01,Ne.symm xu,Rxu⟩
    ·rw [List.mem_singleton.mp hq]; exact ⟨hv0,Ne.symm xv,Rxv⟩
   exact absurd this (by simp)
  obtain ⟨p,q,hp,hq,npq,px,pu,qx,qu,nRpq,Rpx,Rpu,Rqx,Rqu,_⟩:=T x u0 hx u01 xu Rxu
  have Rzu:R z u0:=by
   rcases only p hp px (sym _ _ Rpx) with e | e | e
   ·exact absurd e pu
   ·rcases only q hq qx (sym _ _ Rqx) with f | f | f
    ·exact absurd f qu
    ·exact absurd (e.trans f.symm) npq
    ·exact f ▸ Rqu
   ·exact e ▸ Rpu
  obtain ⟨p,q,hp,hq,npq,px,pu,qx,qu,nRpq,Rpx,Rpu,Rqx,Rqu,_⟩:=T x v0 hx hv0 xv Rxv
  rcases only p hp px (sym _ _ Rpx) with e | e | e
  ·rcases only q hq qx (sym _ _ Rqx) with f | f | f
   ·exact npq (e.trans f.symm)
   ·exact qu f
   ·rw [e,f] at nRpq; exact nRpq (sym _ _ Rzu)
  ·exact pu e
  ·rcases only q hq qx (sym _ _ Rqx) with f | f | f
   ·rw [e,f] at nRpq; exact nRpq Rzu
   ·exact qu f
   ·exact npq (e.trans f.symm)
 have pos:∃ v,V v:=Classical.byContradiction λ no=>hF (.nil λ x hx=>no ⟨x,hx⟩)
 have l4:4 <= L.length:=by
  obtain ⟨v,hv⟩:=pos
  obtain ⟨U,ndU,lU,hU⟩:=three v hv
  have:=pigN (l:=v :: U) (U:=L) (List.nodup_cons.mpr ⟨λ z=>(hU v z).2.1 rfl,ndU⟩) λ w hw=>by
   rcases List.mem_cons.mp hw with rfl | hw
   ·exact (mem _).mpr hv
   ·exact (mem _).mpr (hU w hw).1
  rw [List.length_cons] at this
  omega
 refine ⟨by omega,λ x hx y hy nxy=>Classical.byContradiction λ c=>?_⟩
 obtain ⟨U,ndU,lU,hU⟩:=three x ((mem x).mp hx)
 have:=pigN (l:=x :: y :: U) (U:=L) (List.nodup_cons.mpr ⟨λ z=>?_,List.nodup_cons.mpr ⟨λ z=>c (hU y z).2.2,ndU⟩⟩) λ w hw=>by
  rcases List.mem_cons.mp hw with rfl | hw
  ·exact hx
  rcases List.mem_cons.mp hw with rfl | hw
  ·exact hy
  ·exact (mem _).mpr (hU w hw).1
 ·rw [List.length_cons,List.length_cons] at this
  omega
 ·rcases List.mem_cons.mp z with z | z
  ·exact nxy z
  ·exact (hU x z).2.1 rfl
end
theorem c3H (p:Int->Bool):(upF p).Pairwise (· < ·):=by
 unfold upF
 refine List.Pairwise.filter _ ?_
 rw [List.pairwise_map]
 exact List.pairwise_lt_range.imp λ h=>by omega
theorem a8M {n:Nat} {ts:List ζζ}:∀ (k:Nat) (S:List Nat),S.length = k->∀ x y,runR n ts S x y = true->runR n ts S y x = true
 | 0,S,hl,x,y,h=>by
  rw [List.eq_nil_of_length_eq_zero hl] at h ⊢
  have h':a2Q n ts x y = true:=h
  show a2Q n ts y x = true
  unfold a2Q at h' ⊢
  rw [Bool.and_eq_true,decide_eq_true_iff,Bool.or_eq_true,Bool.or_eq_true,decide_eq_true_iff,decide_eq_true_iff,decide_eq_true_iff] at h' ⊢
  obtain ⟨⟨a,b⟩,h⟩:=h'
  refine ⟨⟨b,a⟩,?_⟩
  rcases h with (h | h) | h
  ·exact .inl (.inl h.symm)
  ·exact .inr h
  ·exact .inl (.inr h)
 | k + 1,S,hl,x,y,h=>by
  have hne:S ≠ []:=λ z=>by rw [z] at hl; cases hl
  obtain ⟨S',w,rfl⟩:∃ S' w,S = S' ++ [w]:=⟨S.dropLast,S.getLast hne,(List.dropLast_concat_getLast hne).symm⟩
  have ih:=a8M (n:=n) (ts:=ts) k S' (by rw [List.length_append] at hl; exact Nat.succ.inj hl)
  rw [a2D] at h ⊢
  generalize runR n ts S' = R at ih h ⊢
  have sy:∀ a b,R a b = R b a:=λ a b=>by
   rw [Bool.eq_iff_iff]
   exact ⟨ih a b,ih b a⟩
  unfold a4Z at h ⊢
  by_cases xw:x = w
  ·rw [if_pos xw] at h; cases h
  by_cases yw:y = w
  ·rw [if_neg xw,yw] at h
   by_cases c:R x w = true
   ·rw [if_pos c] at h; simp at h
   ·rw [if_neg c] at h; exact absurd h c
  rw [if_neg xw] at h
  rw [if_neg yw]
  rw [sy y w,sy y x,sy w x]
  by_cases c:R x w = true
  ·rw [if_pos c,Bool.and_eq_true,Bool.or_eq_true] at h
   by_cases d:R w y = true
   ·rw [if_pos d,Bool.and_eq_true,Bool.or_eq_true]
    exact ⟨.inr c,by simpa using xw⟩
   ·rw [if_neg d]
    rcases h.1 with h | h
    ·exact h
    ·exact absurd h d
  ·rw [if_neg c] at h
   by_cases d:R w y = true
   ·rw [if_pos d,Bool.and_eq_true,Bool.or_eq_true]
    exact ⟨.inl h,by simpa using xw⟩
   ·rw [if_neg d]; exact h
def RnP (n:Nat) (ts:List ζζ) (S:List Nat):Nat->Nat->Prop:=λ x y=>runR n ts S x y = true
def a3Y (n:Nat) (S:List Nat):Nat->Prop:=λ x=>x < n/\x ∉ S
theorem b6P {n:Nat} {ts:List ζζ} {S:List Nat} {v:Nat} (l:(a1A n (runR n ts S) v).length <= 2):Few (a3Y n S) (RnP n ts S) v:=λ U nd hU=>by
 refine Nat.le_trans (pigN nd λ u hu=>?_) l
 obtain ⟨⟨u1,_⟩,u2,u3⟩:=hU u hu
 unfold a1A
 refine List.mem_filter.mpr ⟨List.mem_range.mpr u1,?_⟩
 rw [Bool.and_eq_true]
 exact ⟨u3,by simpa using u2⟩
theorem b6Q {n:Nat} {ts:List ζζ} {S:List Nat} {v:Nat} (few:Few (a3Y n S) (RnP n ts S) v):(a1A n (runR n ts S) v).length <= 2:=by
 refine few _ (List.nodup_range.sublist List.filter_sublist) λ u hu=>?_
 unfold a1A at hu
 rw [List.mem_filter,List.mem_range,Bool.and_eq_true] at hu
 obtain ⟨un,hr,hv⟩:=hu
 refine ⟨⟨un,λ z=>?_⟩,by simpa using hv,hr⟩
 have:=a8M S.length S rfl v u hr
 rw [a8L S.length S rfl u z] at this
 cases this
theorem b6R {n:Nat} {ts:List ζζ} {S:List Nat} {v:Nat} (vn:v < n) (vS:v ∉ S) (l:(a1A n (runR n ts S) v).length <= 2):Fo (a3Y n S) (RnP n ts S) ↔ Fo (a3Y n (S ++ [v])) (RnP n ts (S ++ [v])):=by
 have few:=b6P l
 have e1:∀ x y,x ≠ v->y ≠ v->(RnP n ts (S ++ [v]) x y ↔ El (RnP n ts S) v x y):=λ x y xv yv=>by
  unfold RnP El
  rw [a2D]
  unfold a4Z
  rw [if_neg xv]
  by_cases c:runR n ts S x v = true
  ·rw [if_pos c,Bool.and_eq_true,Bool.or_eq_true]
   constructor
   ·rintro ⟨h | h,_⟩
    ·exact .inl h
    ·exact .inr ⟨c,h⟩
   ·rintro (h | ⟨_,h⟩)
    ·exact ⟨.inl h,by simpa using yv⟩
    ·exact ⟨.inr h,by simpa using yv⟩
  ·rw [if_neg c]
   exact ⟨λ h=>.inl h,λ h=>h.resolve_right λ z=>c z.1⟩
 have e2:∀ x,a3Y n (S ++ [v]) x ↔ Wo (a3Y n S) v x:=λ x=>by
  unfold a3Y Wo
  rw [List.mem_append,List.mem_singleton]
  constructor
  ·rintro ⟨a,b⟩
   exact ⟨⟨a,λ z=>b (.inl z)⟩,λ z=>b (.inr z)⟩
  ·rintro ⟨⟨a,b⟩,c⟩
   exact ⟨a,λ z=>z.elim b c⟩
 constructor
 ·intro h
  refine (h.out (λ x y=>a8M S.length S rfl x y) ⟨vn,vS⟩ few).sub (λ x hx=>(e2 x).mp hx) λ x y hx hy _ r=>?_
  exact (e1 x y ((e2 x).mp hx).2 ((e2 y).mp hy).2).mp r
 ·intro h
  refine .step v ⟨vn,vS⟩ few (h.sub (λ x hx=>(e2 x).mpr hx) λ x y hx hy _ r=>?_)
  exact (e1 x y hx.2 hy.2).mpr r
theorem c0Z {n:Nat} {ts:List ζζ} {S:List Nat} (R:FoldRun n ts S):∀ j,j <= S.length->(Fo (a3Y n []) (RnP n ts []) ↔ Fo (a3Y n (S.take j)) (RnP n ts (S.take j)))
 | 0,_=>Iff.rfl
 | j + 1,jl=>by
  have hv:S[j]? = some (S[j]'(by omega)):=List.getElem?_eq_getElem (by omega)
  have et:S.take (j + 1) = S.take j ++ [S[j]'(by omega)]:=by rw [List.take_succ,hv]; rfl
  have nd:=R.nd
  have ns:S[j]'(by omega) ∉ S.take j:=λ z=>by
   have h2:(S.take (j + 1)).Nodup:=nd.sublist (List.take_sublist _ _)
   rw [et] at h2
   exact (List.nodup_append.mp h2).2.2 _ z _ List.mem_cons_self rfl
  have few:=R.few j (by omega)
  unfold a8K at few
  rw [τα,hv] at few
  rw [c0Z R j (by omega),et]
  exact b6R (R.lt _ (List.getElem_mem _)) ns few
theorem b6S {n:Nat} {ts:List ζζ} {S:List Nat} (R:FoldRun n ts S) (st:∀ v < n,v ∉ S->3 <= (a1A n (runR n ts S) v).length):a5S n S = [] ↔ Fo (a3Y n []) (RnP n ts []):=by
 rw [c0Z R S.length (Nat.le_refl _),List.take_length]
 constructor
 ·intro h
  refine .nil λ x hx=>?_
  have:x ∈ a5S n S:=by
   unfold a5S
   exact List.mem_filter.mpr ⟨List.mem_range.mpr hx.1,by simpa using hx.2⟩
  rw [h] at this
  exact absurd this List.not_mem_nil
 ·intro h
  refine List.eq_nil_iff_forall_not_mem.mpr λ x hx=>?_
  unfold a5S at hx
  rw [List.mem_filter,List.mem_range] at hx
  have hx':a3Y n S x:=⟨hx.1,by simpa using hx.2⟩
  obtain ⟨v,hv,few⟩:=h.some_few hx'
  have:=b6Q few
  have:=st v hv.1 hv.2
  omega
def Adj (ts:List ζζ) (a b:Int):Prop:=(a,b) ∈ ts\/(b,a) ∈ ts
theorem Adj.symm {ts:List ζζ} {a b:Int} (h:Adj ts a b):Adj ts b a:=Or.symm h
def TR (ts:List ζζ) (p q:List Int):Prop:=∃ a ∈ p,∃ b ∈ q,a = b\/Adj ts a b
theorem TR.symm {ts:List ζζ} {p q:List Int} (h:TR ts p q):TR ts q p:=by
 obtain ⟨a,ha,b,hb,h⟩:=h
 exact ⟨b,hb,a,ha,h.elim (λ e=>.inl e.symm) λ e=>.inr e.symm⟩
theorem TR.mono {ts:List ζζ} {p q p' q':List Int} (h:TR ts p q) (hp:∀ v ∈ p,v ∈ p') (hq:∀ v ∈ q,v ∈ q'):TR ts p' q':=by
 obtain ⟨a,ha,b,hb,h⟩:=h
 exact ⟨a,hp a ha,b,hq b hb,h⟩
def Jn (ts:List ζζ) (p:List Int):Prop:=∀ A:Int->Prop,(∃ a ∈ p,A a)->(∀ a b,a ∈ p->b ∈ p->Adj ts a b->A a->A b)->∀ b ∈ p,A b
theorem Jn.one {ts:List ζζ} (v:Int):Jn ts [v]:=λ A h _ b hb=>by
 obtain ⟨a,ha,h⟩:=h
 rw [List.mem_singleton.mp hb,<- List.mem_singleton.mp ha]
 exact h
theorem Jn.both {ts:List ζζ} {p q j:List Int} (hp:Jn ts p) (hq:Jn ts q) (t:TR ts p q) (m:∀ v,v ∈ j ↔ v ∈ p\/v ∈ q):Jn ts j:=λ A h cl b hb=>by
 have cp:∀ a b,a ∈ p->b ∈ p->Adj ts a b->A a->A b:=λ a b ha hb=>cl a b ((m a).mpr (.inl ha)) ((m b).mpr (.inl hb))
 have cq:∀ a b,a ∈ q->b ∈ q->Adj ts a b->A a->A b:=λ a b ha hb=>cl a b ((m a).mpr (.inr ha)) ((m b).mpr (.inr hb))
 obtain ⟨x,hx,y,hy,e⟩:=t
 have xy:A x ↔ A y:=by
  rcases e with e | e
  ·rw [e]
  ·exact ⟨cl x y ((m x).mpr (.inl hx)) ((m y).mpr (.inr hy)) e,cl y x ((m y).mpr (.inr hy)) ((m x).mpr (.inl hx)) e.symm⟩
 have all:(∀ b ∈ p,A b)/\∀ b ∈ q,A b:=by
  obtain ⟨a,ha,hA⟩:=h
  rcases (m a).mp ha with ha | ha
  ·have h1:=hp A ⟨a,ha,hA⟩ cp
   exact ⟨h1,hq A ⟨y,hy,xy.mp (h1 x hx)⟩ cq⟩
  ·have h1:=hq A ⟨a,ha,hA⟩ cq
   exact ⟨hp A ⟨x,hx,xy.mpr (h1 y hy)⟩ cp,h1⟩
 rcases (m b).mp hb with hb | hb
 ·exact all.1 b hb
 ·exact all.2 b hb
abbrev Ones (V:List Int->Prop) (p q j:List Int):List Int->Prop:=λ r=>(V r/\r ≠ p/\r ≠ q)\/r = j
theorem Fo.join {ts:List ζζ} {V:List Int->Prop} (h:Fo V (TR ts)) {p q j:List Int} (hp:V p) (hq:V q) (ne:p ≠ q) (t:TR ts p q) (m:∀ v ∈ j,v ∈ p\/v ∈ q):Fo (Ones V p q j) (TR ts):=by
 have sp:∀ {r},TR ts j r->TR ts p r\/TR ts q r:=λ {r} ⟨a,ha,b,hb,e⟩=>(m a ha).elim (λ z=>.inl ⟨a,z,b,hb,e⟩) λ z=>.inr ⟨a,z,b,hb,e⟩
 refine (h.merge (a:=p) (b:=q) (λ _ _ z=>z.symm) hp hq ne t).map (λ r=>if r = j then p else r) (λ x hx=>?_) (λ x y hx hy e=>?_) λ x y hx hy nxy e=>?_
 ·by_cases c:x = j
  ·rw [if_pos c]; exact ⟨hp,ne⟩
  ·rw [if_neg c]
   have:=hx.resolve_right c
   exact ⟨this.1,this.2.2⟩
 ·by_cases c:x = j
  ·by_cases d:y = j
   ·rw [c,d]
   ·rw [if_pos c,if_neg d] at e
    exact absurd e.symm (hy.resolve_right d).2.1
  ·by_cases d:y = j
   ·rw [if_neg c,if_pos d] at e
    exact absurd e (hx.resolve_right c).2.1
   ·rwa [if_neg c,if_neg d] at e
 ·by_cases c:x = j
  ·have d:y ≠ j:=λ d=>nxy (c.trans d.symm)
   rw [if_pos c,if_neg d]
   rw [c] at e
   rcases sp e with e | e
   ·exact .inl e
   ·exact .inr (.inl ⟨rfl,e⟩)
  ·rw [if_neg c]
   by_cases d:y = j
   ·rw [if_pos d]
    rw [d] at e
    rcases sp e.symm with e | e
    ·exact .inl e.symm
    ·exact .inr (.inr ⟨rfl,e.symm⟩)
   ·rw [if_neg d]
    exact .inl e
theorem Fo.apart {ts:List ζζ} {V:List Int->Prop} {p q j:List Int} (h:Fo (Ones V p q j) (TR ts)) (m:∀ v,v ∈ p\/v ∈ q->v ∈ j) (nj:∀ s,V s->s ≠ p->s ≠ q->s ≠ j):Fo (Wo V q) (Mg (TR ts) p q):=by
 refine h.map (λ r=>if r = p then j else r) (λ x hx=>?_) (λ x y hx hy e=>?_) λ x y hx hy nxy e=>?_
 ·by_cases c:x = p
  ·rw [if_pos c]; exact .inr rfl
  ·rw [if_neg c]; exact .inl ⟨hx.1,c,hx.2⟩
 ·by_cases c:x = p
  ·by_cases d:y = p
   ·rw [c,d]
   ·rw [if_pos c,if_neg d] at e
    exact absurd e.symm (nj y hy.1 d hy.2)
  ·by_cases d:y = p
   ·rw [if_neg c,if_pos d] at e
    exact absurd e (nj x hx.1 c hx.2)
   ·rwa [if_neg c,if_neg d] at e
 ·by_cases c:x = p
  ·have d:y ≠ p:=λ d=>nxy (c.trans d.symm)
   rw [if_pos c,if_neg d]
   rcases e with e | ⟨_,e⟩ | ⟨e,_⟩
   ·rw [c] at e
    exact e.mono (λ v hv=>m v (.inl hv)) λ v hv=>hv
   ·exact e.mono (λ v hv=>m v (.inr hv)) λ v hv=>hv
   ·exact absurd e d
  ·rw [if_neg c]
   by_cases d:y = p
   ·rw [if_pos d]
    rcases e with e | ⟨e,_⟩ | ⟨_,e⟩
    ·rw [d] at e
     exact e.mono (λ v hv=>hv) λ v hv=>m v (.inl hv)
    ·exact absurd e c
    ·exact e.mono (λ v hv=>hv) λ v hv=>m v (.inr hv)
   ·rw [if_neg d]
    rcases e with e | ⟨e,_⟩ | ⟨e,_⟩
    ·exact e
    ·exact absurd e c
    ·exact absurd e d
structure Prt (n:Nat) (ts:List ζζ) (P:List (List Int)):Prop where
 ne:∀ p ∈ P,p ≠ []
 asc:∀ p ∈ P,p.Pairwise (· < ·)
 lt:∀ p ∈ P,∀ v ∈ p,0 <= v/\v < (n:Int)
 dj:P.Pairwise λ p q=>∀ v ∈ p,v ∉ q
 jn:∀ p ∈ P,Jn ts p
section
variable {n:Nat} {ts:List ζζ} {P:List (List Int)}
theorem Prt.nd (G:Prt n ts P):P.Nodup:=by
 have ne:=G.ne
 have dj:=G.dj
 clear G
 induction P with
 | nil=>exact .nil
 | cons p r ih =>
  obtain ⟨d1,d2⟩:=List.pairwise_cons.mp dj
  refine List.nodup_cons.mpr ⟨λ z=>?_,ih (λ q hq=>ne q (List.mem_cons_of_mem _ hq)) d2⟩
  obtain ⟨v,hv⟩:=List.exists_mem_of_ne_nil p (ne p List.mem_cons_self)
  exact d1 p z v hv hv
theorem Prt.same (G:Prt n ts P) {p q:List Int} {v:Int} (hp:p ∈ P) (hq:q ∈ P) (h1:v ∈ p) (h2:v ∈ q):p = q:=by
 have dj:=G.dj
 clear G
 induction P with
 | nil=>exact absurd hp List.not_mem_nil
 | cons r P ih =>
  obtain ⟨d1,d2⟩:=List.pairwise_cons.mp dj
  rcases List.mem_cons.mp hp with e | hp
  ·rcases List.mem_cons.mp hq with f | hq
   ·rw [e,f]
   ·exact absurd h2 (d1 q hq v (e ▸ h1))
  ·rcases List.mem_cons.mp hq with f | hq
   ·exact absurd h1 (d1 p hp v (f ▸ h2))
   ·exact ih hp hq d2
theorem Prt.sub (G:Prt n ts P) {P':List (List Int)} (s:P'.Sublist P):Prt n ts P':=⟨λ p hp=>G.ne p (s.subset hp),λ p hp=>G.asc p (s.subset hp),λ p hp=>G.lt p (s.subset hp),G.dj.sublist s,λ p hp=>G.jn p (s.subset hp)⟩
def a3U (P:List (List Int)) (D:List (List Int)):List (List Int):=P.filter λ p=>!decide (p ∈ D)
theorem mem_lessLL {D:List (List Int)} {p:List Int}:p ∈ a3U P D ↔ p ∈ P/\p ∉ D:=by
 unfold a3U
 rw [List.mem_filter]
 simp
theorem a2H (n10:n <= 10) {p q:List Int} (hp:∀ v ∈ p,0 <= v/\v < (n:Int)) (hq:∀ v ∈ q,0 <= v/\v < (n:Int)) {v:Int}:v ∈ a0N p q ↔ v ∈ p\/v ∈ q:=by
 unfold a0N
 rw [mem_upF,decide_eq_true_iff]
 refine ⟨λ h=>h.2.2,λ h=>?_⟩
 have:0 <= v/\v < (n:Int):=h.elim (hp v) (hq v)
 exact ⟨this.1,by omega,h⟩
theorem a2B (p q:List Int):a0N p q = a0N q p:=by
 unfold a0N
 congr 1
 funext v
 rw [Bool.eq_iff_iff,decide_eq_true_iff,decide_eq_true_iff]
 exact Or.comm
abbrev FoP (ts:List ζζ) (P:List (List Int)):Prop:=Fo (λ p=>p ∈ P) (TR ts)
def I1 (ts:List ζζ) (P:List (List Int)) (v:Int):Prop:=(∃ p ∈ P,v ∈ p)->Fo (λ p=>p ∈ P/\v ∉ p) (TR ts)
def I2 (ts:List ζζ) (P:List (List Int)) (a b:Int):Prop:=∀ p q,p ∈ P->q ∈ P->a ∈ p->b ∈ q->p ≠ q->Fo (Ones (λ r=>r ∈ P) p q (a0N p q)) (TR ts)
theorem I1.sub {v:Int} (h:I1 ts P v) {P':List (List Int)} (s:∀ p ∈ P',p ∈ P):I1 ts P' v:=λ ⟨p,hp,hv⟩=>(h ⟨p,s p hp,hv⟩).sub (λ x hx=>⟨s x hx.1,hx.2⟩) λ _ _ _ _ _ e=>e
abbrev oneP (P:List (List Int)) (p q:List Int):List (List Int):=a3U P [p,q] ++ [a0N p q]
theorem mem_oneP {p q r:List Int}:r ∈ oneP P p q ↔ Ones (λ r=>r ∈ P) p q (a0N p q) r:=by
 unfold Ones
 rw [List.mem_append,mem_lessLL,List.mem_singleton]
 simp [not_or]
theorem a8N (G:Prt n ts P) (n10:n <= 10) {p q:List Int} (hp:p ∈ P) (hq:q ∈ P) (ne:p ≠ q) (t:TR ts p q):Prt n ts (oneP P p q)/\(∀ v,I1 ts P v->I1 ts (oneP P p q) v)/\∀ a b,I2 ts P a b->I2 ts (oneP P p q) a b:=by
 have mj:∀ {v},v ∈ a0N p q ↔ v ∈ p\/v ∈ q:=a2H n10 (G.lt p hp) (G.lt q hq)
 have ltj:∀ v ∈ a0N p q,0 <= v/\v < (n:Int):=λ v hv=>(mj.mp hv).elim (G.lt p hp v) (G.lt q hq v)
 have G':Prt n ts (oneP P p q):=by
  refine ⟨λ r hr=>?_,λ r hr=>?_,λ r hr=>?_,?_,λ r hr=>?_⟩
  ·rcases mem_oneP.mp hr with h | h
   ·exact G.ne r h.1
   ·obtain ⟨v,hv⟩:=List.exists_mem_of_ne_nil p (G.ne p hp)
    rw [h]
    exact List.ne_nil_of_mem (mj.mpr (.inl hv))
  ·rcases mem_oneP.mp hr with h | h
   ·exact G.asc r h.1
   ·rw [h]; exact c3H _
  ·rcases mem_oneP.mp hr with h | h
   ·exact G.lt r h.1
   ·rw [h]; exact ltj
  ·refine List.pairwise_append.mpr ⟨G.dj.sublist List.filter_sublist,List.pairwise_singleton _ _,λ r hr s hs v hv hw=>?_⟩
   rw [List.mem_singleton.mp hs] at hw
   have hr':=mem_lessLL.mp hr
   rcases mj.mp hw with z | z
   ·exact hr'.2 (by rw [G.same hr'.1 hp hv z]; exact List.mem_cons_self)
   ·exact hr'.2 (by rw [G.same hr'.1 hq hv z]; simp)
  ·rcases mem_oneP.mp hr with h | h
   ·exact G.jn r h.1
   ·rw [h]; exact Jn.both (G.jn p hp) (G.jn q hq) t λ v=>mj
 refine ⟨G',λ v h ⟨r,hr,hv⟩=>?_,λ a b h r s hr hs ha hb nrs=>?_⟩
 ·by_cases c:v ∈ a0N p q
  ·have:∃ p ∈ P,v ∈ p:=(mj.mp c).elim (λ z=>⟨p,hp,z⟩) λ z=>⟨q,hq,z⟩
   refine (h this).sub (λ x hx=>?_) λ _ _ _ _ _ e=>e
   rcases mem_oneP.mp hx.1 with z | z
   ·exact ⟨z.1,hx.2⟩
   ·exact absurd (z ▸ c) hx.2
  ·have vp:v ∉ p:=λ z=>c (mj.mpr (.inl z))
   have vq:v ∉ q:=λ z=>c (mj.mpr (.inr z))
   have hr':∃ p ∈ P,v ∈ p:=by
    rcases mem_oneP.mp hr with z | z
    ·exact ⟨r,z.1,hv⟩
    ·exact absurd (z ▸ hv) c
   refine ((h hr').join ⟨hp,vp⟩ ⟨hq,vq⟩ ne t (j:=a0N p q) λ v hv=>mj.mp hv).sub (λ x hx=>?_) λ _ _ _ _ _ e=>e
   rcases mem_oneP.mp hx.1 with z | z
   ·exact .inl ⟨⟨z.1,hx.2⟩,z.2.1,z.2.2⟩
   ·exact .inr z
 ·-- two others made one besides
  have three:∀ {x s:List Int},(x = p\/x = q)->s ∈ P->s ≠ p->s ≠ q->Fo (Ones (λ r=>r ∈ P) x s (a0N x s)) (TR ts)->Fo (Ones (λ r=>r ∈ oneP P p q) (a0N p q) s (a0N (a0N p q) s)) (TR ts):=λ {x s} hx hs sp sq F=>by
   obtain ⟨y,hy,hyP,hxP,nxy,txy,mx⟩:∃ y,(y = p\/y = q)/\y ∈ P/\x ∈ P/\x ≠ y/\TR ts x y/\∀ v,v ∈ a0N p q ↔ v ∈ x\/v ∈ y:=by
    rcases hx with rfl | rfl
    ·exact ⟨q,.inr rfl,hq,hp,ne,t,λ v=>mj⟩
    ·exact ⟨p,.inl rfl,hp,hq,Ne.symm ne,t.symm,λ v=>mj.trans Or.comm⟩
   have sy:s ≠ y:=by rcases hy with rfl | rfl <;> assumption
   have sx:s ≠ x:=by rcases hx with rfl | rfl <;> assumption
   have mxs:∀ {v},v ∈ a0N x s ↔ v ∈ x\/v ∈ s:=a2H n10 (G.lt x hxP) (G.lt s hs)
   have mjs:∀ {v},v ∈ a0N (a0N p q) s ↔ v ∈ a0N p q\/v ∈ s:=a2H n10 ltj (G.lt s hs)
   have nj:a0N x s ≠ y:=λ e=>by
    obtain ⟨v,hv⟩:=List.exists_mem_of_ne_nil s (G.ne s hs)
    exact sy (G.same hs hyP hv (e ▸ mxs.mpr (.inr hv)))
   refine (F.join (p:=a0N x s) (q:=y) (j:=a0N (a0N p q) s) (.inr rfl) (.inl ⟨hyP,Ne.symm nxy,Ne.symm sy⟩) nj (txy.mono (λ v hv=>mxs.mpr (.inl hv)) λ v hv=>hv) λ v hv=>?_).sub (λ r hr=>?_) λ _ _ _ _ _ e=>e
   ·rcases mjs.mp hv with z | z
    ·exact ((mx v).mp z).elim (λ z=>.inl (mxs.mpr (.inl z))) .inr
    ·exact .inl (mxs.mpr (.inr z))
   ·rcases hr with ⟨h1,h2,h3⟩ | h
    ·rcases mem_oneP.mp h1 with z | z
     ·refine .inl ⟨.inl ⟨z.1,?_,h3⟩,λ e=>?_,?_⟩
      ·rcases hx with rfl | rfl
       ·exact z.2.1
       ·exact z.2.2
      ·obtain ⟨v,hv⟩:=List.exists_mem_of_ne_nil s (G.ne s hs)
       exact h3 (G.same z.1 hs (e ▸ mxs.mpr (.inr hv)) hv)
      ·rcases hy with rfl | rfl
       ·exact z.2.1
       ·exact z.2.2
     ·exact absurd z h2
    ·exact .inr h
  rcases mem_oneP.mp hr with ⟨r1,r2,r3⟩ | er
  ·rcases mem_oneP.mp hs with ⟨s1,s2,s3⟩ | es
   ·have F:=h r s r1 s1 ha hb nrs
    have nrsj:∀ {x},x ∈ P->x ≠ r->x ≠ a0N r s:=λ {x} hx xr e=>by
     obtain ⟨v,hv⟩:=List.exists_mem_of_ne_nil r (G.ne r r1)
     exact xr (G.same hx r1 (e ▸ (a2H n10 (G.lt r r1) (G.lt s s1)).mpr (.inl hv)) hv)
    refine (F.join (p:=p) (q:=q) (j:=a0N p q) (.inl ⟨hp,Ne.symm r2,Ne.symm s2⟩) (.inl ⟨hq,Ne.symm r3,Ne.symm s3⟩) ne t λ v hv=>mj.mp hv).sub (λ x hx=>?_) λ _ _ _ _ _ e=>e
    rcases hx with ⟨h1,h2,h3⟩ | h
    ·rcases mem_oneP.mp h1 with z | z
     ·exact .inl ⟨.inl ⟨z.1,h2,h3⟩,z.2.1,z.2.2⟩
     ·exact .inr z
    ·refine .inl ⟨.inr h,?_,?_⟩
     ·rw [h]; exact (nrsj hp (Ne.symm r2)).symm
     ·rw [h]; exact (nrsj hq (Ne.symm r3)).symm
   ·subst es
    rcases mj.mp hb with z | z
    ·have F:=three (x:=p) (.inl rfl) r1 r2 r3 (by rw [a2B]; exact (h r p r1 hp ha z r2).sub (λ x hx=>hx.elim (λ y=>.inl ⟨y.1,y.2.2,y.2.1⟩) .inr) λ _ _ _ _ _ e=>e)
     exact F.sub (λ x hx=>hx.elim (λ y=>.inl ⟨y.1,y.2.2,y.2.1⟩) λ y=>.inr (by rw [y,a2B])) λ _ _ _ _ _ e=>e
    ·have F:=three (x:=q) (.inr rfl) r1 r2 r3 (by rw [a2B]; exact (h r q r1 hq ha z r3).sub (λ x hx=>hx.elim (λ y=>.inl ⟨y.1,y.2.2,y.2.1⟩) .inr) λ _ _ _ _ _ e=>e)
     exact F.sub (λ x hx=>hx.elim (λ y=>.inl ⟨y.1,y.2.2,y.2.1⟩) λ y=>.inr (by rw [y,a2B])) λ _ _ _ _ _ e=>e
  ·subst er
   rcases mem_oneP.mp hs with ⟨s1,s2,s3⟩ | es
   ·rcases mj.mp ha with z | z
    ·exact three (x:=p) (.inl rfl) s1 s2 s3 (h p s hp s1 z hb (Ne.symm s2))
    ·exact three (x:=q) (.inr rfl) s1 s2 s3 (h q s hq s1 z hb (Ne.symm s3))
   ·exact absurd es.symm nrs
theorem b3Y (G:Prt n ts P) (n10:n <= 10) (firm:¬ FoP ts P) (h1:∀ v:Int,0 <= v->v < (n:Int)->I1 ts P v) (h2:∀ t ∈ ts,I2 ts P t.1 t.2):P.length = 4/\∀ p ∈ P,∀ q ∈ P,p ≠ q->TR ts p q:=by
 refine b6O (V:=λ p=>p ∈ P) (R:=TR ts) (λ _ _ z=>z.symm) firm (λ p hp=>?_) (λ p q hp hq ne t=>?_) G.nd λ x=>Iff.rfl
 ·obtain ⟨v,hv⟩:=List.exists_mem_of_ne_nil p (G.ne p hp)
  have b:=G.lt p hp v hv
  exact (h1 v b.1 b.2 ⟨p,hp,hv⟩).sub (λ x hx=>⟨hx.1,λ z=>hx.2 (G.same hx.1 hp z hv)⟩) λ _ _ _ _ _ e=>e
 ·have mj:∀ {v},v ∈ a0N p q ↔ v ∈ p\/v ∈ q:=a2H n10 (G.lt p hp) (G.lt q hq)
  have F:Fo (Ones (λ r=>r ∈ P) p q (a0N p q)) (TR ts):=by
   obtain ⟨a,ha,b,hb,e⟩:=t
   rcases e with e | e | e
   ·exact absurd (G.same hp hq ha (e ▸ hb)) ne
   ·exact h2 _ e p q hp hq ha hb ne
   ·have:=h2 _ e q p hq hp hb ha (Ne.symm ne)
    exact this.sub (λ x hx=>hx.elim (λ y=>.inl ⟨y.1,y.2.2,y.2.1⟩) λ y=>.inr (by rw [y,a2B])) λ _ _ _ _ _ e=>e
  refine F.apart (λ v hv=>mj.mpr hv) λ s hs sp sq e=>?_
  obtain ⟨v,hv⟩:=List.exists_mem_of_ne_nil p (G.ne p hp)
  exact sp (G.same hs hp (e ▸ mj.mpr (.inl hv)) hv)
end
end K
namespace K
open PySem L2 Lw Bg
abbrev b0B:Stmt:=top 30
theorem sc_is_firm:FnScope ["graph", "parts", "ties", "k"] ["graph", "parts"] (a0E b0B):=⟨rfl,rfl,rfl,by decide +kernel,rfl,by decide +kernel,by decide +kernel⟩
theorem b6T {n:Nat} {ts:List ζζ} (n10:n <= 10) {xs ys:List Int} (hy:∀ v ∈ ys,0 <= v/\v < (n:Int)):a2K ts xs ys = true ↔ TR ts xs ys:=by
 have ne:∀ {l:List Int},(!l.isEmpty) = true ↔ ∃ v,v ∈ l:=λ {l}=>by
  cases l with
  | nil=>simp
  | cons a r=>exact ⟨λ _=>⟨a,List.mem_cons_self⟩,λ _=>rfl⟩
 unfold a2K
 rw [Bool.or_eq_true,ne,ne]
 unfold a0Q rimF a3X a8I
 constructor
 ·rintro (⟨v,hv⟩ | ⟨v,hv⟩)
  ·rw [List.mem_filter,decide_eq_true_iff] at hv
   exact ⟨v,hv.1,v,hv.2,.inl rfl⟩
  ·rw [List.mem_filter,List.mem_filter,decide_eq_true_iff,mem_upF,List.any_eq_true] at hv
   obtain ⟨⟨⟨_,_,a,ha,h⟩,_⟩,hvy⟩:=hv
   rw [decide_eq_true_iff,tied_mem] at h
   exact ⟨a,ha,v,hvy,.inr (Or.symm h)⟩
 ·rintro ⟨a,ha,b,hb,h⟩
  by_cases c:b ∈ xs
  ·exact .inl ⟨b,List.mem_filter.mpr ⟨c,decide_eq_true hb⟩⟩
  ·rcases h with h | h
   ·exact absurd (h ▸ ha) c
   ·have bb:=hy b hb
    refine .inr ⟨b,List.mem_filter.mpr ⟨List.mem_filter.mpr ⟨mem_upF.mpr ⟨bb.1,by omega,List.any_eq_true.mpr ⟨a,ha,decide_eq_true (tied_mem.mpr (Or.symm h))⟩⟩,by simpa using c⟩,decide_eq_true hb⟩⟩
def qTk (ts:List ζζ) (P:List (List Int)) (k:Nat):List ζζ:=((List.range k).filter λ j=>a2K ts (P.getD j []) (P.getD k [])).map λ j=>(((j:Nat):Int),((k:Nat):Int))
def qT (ts:List ζζ) (P:List (List Int)):Nat->List ζζ
 | 0=>[]
 | k + 1=>qT ts P k ++ qTk ts P k
theorem b6U (ts:List ζζ) (P:List (List Int)) (k:Nat):(qTk ts P k).length <= k:=by
 unfold qTk
 rw [List.length_map]
 refine Nat.le_trans (List.length_filter_le _ _) ?_
 simp
theorem b6V (ts:List ζζ) (P:List (List Int)):∀ k,(qT ts P k).length <= k * k
 | 0=>Nat.le_refl _
 | k + 1=>by
  show (qT ts P k ++ qTk ts P k).length <= _
  rw [List.length_append]
  have h1:=b6V ts P k
  have h2:=b6U ts P k
  have:(k + 1) * (k + 1) = k * k + k + (k + 1):=by rw [Nat.add_mul,Nat.mul_add,Nat.one_mul,Nat.mul_one]
  omega
theorem mem_qT {ts:List ζζ} {P:List (List Int)}:∀ {k:Nat} {t:Int × Int},t ∈ qT ts P k ↔ ∃ i j:Nat,i < j/\j < k/\t = ((i:Int),(j:Int))/\a2K ts (P.getD i []) (P.getD j []) = true
 | 0,t=>⟨λ h=>absurd h List.not_mem_nil,λ ⟨_,j,_,h,_⟩=>absurd h (Nat.not_lt_zero _)⟩
 | k + 1,t=>by
  show t ∈ qT ts P k ++ qTk ts P k ↔ _
  rw [List.mem_append,mem_qT]
  constructor
  ·rintro (⟨i,j,a,b,c,d⟩ | h)
   ·exact ⟨i,j,a,by omega,c,d⟩
   ·unfold qTk at h
    obtain ⟨i,hi,rfl⟩:=List.mem_map.mp h
    rw [List.mem_filter,List.mem_range] at hi
    exact ⟨i,k,hi.1,by omega,rfl,hi.2⟩
  ·rintro ⟨i,j,a,b,c,d⟩
   by_cases e:j = k
   ·subst e
    refine .inr ?_
    unfold qTk
    exact List.mem_map.mpr ⟨i,List.mem_filter.mpr ⟨List.mem_range.mpr a,d⟩,c.symm⟩
   ·exact .inl ⟨i,j,a,by omega,c,d⟩
theorem a3A {P:List (List Int)} {i:Nat} (h:i < P.length):P.getD i [] ∈ P:=by
 rw [τα,List.getElem?_eq_getElem h]; exact List.getElem_mem h
theorem a7P:∀ {P:List (List Int)} {i j:Nat},P.Nodup->i < P.length->j < P.length->P.getD i [] = P.getD j []->i = j
 | [],i,_,_,h,_,_=>absurd h (Nat.not_lt_zero _)
 | p :: P,0,0,_,_,_,_=>rfl
 | p :: P,0,j + 1,nd,_,hj,e=>by
  have hj':j < P.length:=Nat.lt_of_succ_lt_succ hj
  have e':p = P.getD j []:=e
  exact absurd (e' ▸ a3A hj') (List.nodup_cons.mp nd).1
 | p :: P,i + 1,0,nd,hi,_,e=>by
  have hi':i < P.length:=Nat.lt_of_succ_lt_succ hi
  have e':P.getD i [] = p:=e
  exact absurd (e' ▸ a3A hi') (List.nodup_cons.mp nd).1
 | p :: P,i + 1,j + 1,nd,hi,hj,e=>by
  have:=a7P (List.nodup_cons.mp nd).2 (Nat.lt_of_succ_lt_succ hi) (Nat.lt_of_succ_lt_succ hj) e
  omega
theorem c3I {P:List (List Int)} {p:List Int} (h:p ∈ P):∃ i,i < P.length/\P.getD i [] = p:=by
 obtain ⟨i,il,e⟩:=List.getElem_of_mem h
 exact ⟨i,il,by rw [τα,List.getElem?_eq_getElem il,e]; rfl⟩
theorem b9M {n:Nat} {ts:List ζζ} {P:List (List Int)} (n10:n <= 10) (G:Prt n ts P):Fo (a3Y P.length []) (RnP P.length (qT ts P P.length) []) ↔ FoP ts P:=by
 have tch:∀ {i j:Nat},i < P.length->j < P.length->(a2K ts (P.getD i []) (P.getD j []) = true ↔ TR ts (P.getD i []) (P.getD j [])):=λ {i j} _ hj=>b6T n10 (G.lt _ (a3A hj))
 have rel:∀ {i j:Nat},i < P.length->j < P.length->i ≠ j->(RnP P.length (qT ts P P.length) [] i j ↔ TR ts (P.getD i []) (P.getD j [])):=λ {i j} hi hj ne=>by
  show a2Q P.length (qT ts P P.length) i j = true ↔ _
  unfold a2Q
  rw [Bool.and_eq_true,decide_eq_true_iff,Bool.or_eq_true,Bool.or_eq_true,decide_eq_true_iff,decide_eq_true_iff,decide_eq_true_iff,mem_qT,mem_qT]
  constructor
  ·rintro ⟨_,(h | ⟨a,b,ab,bl,e,t⟩) | ⟨a,b,ab,bl,e,t⟩⟩
   ·exact absurd h.symm ne
   ·have e1:=congrArg Prod.fst e
    have e2:=congrArg Prod.snd e
    dsimp only at e1 e2
    obtain rfl:i = a:=by omega
    obtain rfl:j = b:=by omega
    exact (tch hi hj).mp t
   ·have e1:=congrArg Prod.fst e
    have e2:=congrArg Prod.snd e
    dsimp only at e1 e2
    obtain rfl:j = a:=by omega
    obtain rfl:i = b:=by omega
    exact ((tch hj hi).mp t).symm
  ·intro t
   refine ⟨⟨hi,hj⟩,?_⟩
   rcases Nat.lt_or_ge i j with c | c
   ·exact .inl (.inr ⟨i,j,c,hj,rfl,(tch hi hj).mpr t⟩)
   ·exact .inr ⟨j,i,by omega,hi,rfl,(tch hj hi).mpr t.symm⟩
 constructor
 ·intro h
  have sp:∀ p,∃ i,p ∈ P->i < P.length/\P.getD i [] = p:=λ p=>by
   by_cases c:p ∈ P
   ·obtain ⟨i,a,b⟩:=c3I c; exact ⟨i,λ _=>⟨a,b⟩⟩
   ·exact ⟨0,λ z=>absurd z c⟩
  refine h.map (λ p=>(sp p).choose) (λ p hp=>⟨((sp p).choose_spec hp).1,List.not_mem_nil⟩) (λ p q hp hq e=>?_) λ p q hp hq ne t=>?_
  ·have h1:=((sp p).choose_spec hp).2
   have h2:=((sp q).choose_spec hq).2
   rw [<- h1,<- h2]
   exact congrArg (λ i=>P.getD i []) e
  ·obtain ⟨a1,a2⟩:=(sp p).choose_spec hp
   obtain ⟨b1,b2⟩:=(sp q).choose_spec hq
   refine (rel a1 b1 λ z=>ne ?_).mpr (by rw [a2,b2]; exact t)
   rw [<- a2,<- b2,z]
 ·intro h
  refine h.map (λ i=>P.getD i []) (λ i hi=>a3A hi.1) (λ i j hi hj e=>a7P G.nd hi.1 hj.1 e) λ i j hi hj ne t=>(rel hi.1 hj.1 ne).mp t
theorem a2S {α β:Type} {R:α->β->Prop}:∀ {xs xs':List α} {ys ys':List β},Paired R xs ys->Paired R xs' ys'->Paired R (xs ++ xs') (ys ++ ys')
 | _,_,_,_,.nil,h=>h
 | _,_,_,_,.cons a b,h=>.cons a (a2S b h)
theorem c5Y {n:Nat} {b:List Int} (n10:n <= 10) (nd:b.Nodup) (bd:∀ v ∈ b,0 <= v/\v < (n:Int)):b.length <= 10:=by
 have:=pigN (U:=(List.range 10).map λ i=>((i:Nat):Int)) nd λ v hv=>by
  have:=bd v hv
  exact List.mem_map.mpr ⟨v.toNat,List.mem_range.mpr (by omega),by omega⟩
 rwa [List.length_map,List.length_range] at this
def c5Z (K:Φρ):Sp:=λ vs H Q _=>∃ (g:V) (n:Nat) (ts:List ζζ) (a:Addr) (xs:List V) (P:List (List Int)),vs = [g,.ref a]/\GraphV K H g n ts/\n <= 10/\ts.length <= 400/\(∀ t ∈ ts,0 <= t.1/\t.1 < 16/\0 <= t.2/\t.2 < 16)/\SqL K H a xs/\Paired (LstV K H) xs P/\Prt n ts P/\P.length <= 10 /\
 ∀ H' b,Same H H'->(b = true ↔ ¬ FoP ts P)->Q (.bl b) H'
section
variable {P:Program} {w:World} {K:Φρ} {mg:Str->Option Value} {base:Heap}
abbrev DZ16 (K:PySem.W.Frag) (mg:Str->Option Value):=Dn K mg "is_firm" b0B ["graph", "parts"]
set_option maxHeartbeats 8000000 in
theorem a7Q (B:Bl mg) (dZ17:DZ17 K mg) (dZ15:DZ15 K mg) (dZ7:DZ7 K mg) (dZ21:DZ21 K mg) (dZ18:DZ18 K mg) (dZ6:DZ6 K mg) (dZ28:DZ28 K mg) (dZ32:DZ32 K mg) (dZ27:DZ27 K mg) (dZ24:DZ24 K mg) (dZ11:DZ11 K mg) (dZ31:DZ31 K mg) (dZ13:DZ13 K mg) (dZ12:DZ12 K mg) (dZ16:DZ16 K mg):FnOk P w K mg base CX0 6 dZ16.f dZ16.fd ["graph", "parts"] (c5Z K):=by
 have gZ32:FnOk P w K mg base CX0 5 _ _ _ _:=b9J B dZ17 dZ15 dZ7 dZ21 dZ18 dZ6 dZ28 dZ32
 have gZ13:FnOk P w K mg base CX0 5 _ _ _ _:=(b2P B dZ21 dZ27 dZ24 dZ11 dZ31 dZ13 dZ12).mono (by decide)
 refine dZ16.F.ok sc_is_firm (λ vs H Q E h=>?_) (λ cdv A outer s H vs Q E hr h=>?_)
 ·obtain ⟨g,n,ts,a,xs,P,rfl,_⟩:=h
  rfl
 obtain ⟨g,n,ts,a,xs,P',rfl,hG,n10,l400,t16,hA,pA,G,P10,q⟩:=h
 have lx:=Paired.length pA
 refine ⟨_,(a0C (a0J (i:=2) sc_is_firm.nd rfl (Or.inl rfl) (a1M a0B))
   (a0C (a1R PassesOwn.never rfl (a1D rfl B.range (a0A (a0K (a1E (K:=K) rfl) rfl B.len (by decide +kernel) (a0A (pv 1) a0B)) a0B)) (a0H (i:=3) sc_is_firm.nd rfl (Or.inr rfl))
   (a0D (a3C (a4I (K:=K) rfl PySem.F.plainAttrs_list PySem.F.slot_list_extend PySem.F.type_list_extend b3L (pv 2) (a0A (a9K ["j", "k", "graph", "parts"] [none,some 3,some 0,some 1]  (by kernel_rfl) rfl (a1D rfl B.range (a0A (pv 3) a0B)) (λ _ _ _ _ _=>(a0H (i:=0) (show (["j", "k", "graph", "parts"]:List Str).Nodup by decide +kernel) rfl (Or.inl rfl))) (λ _ _ _ _ _=>(a2P (a0P (K:=K) rfl (a0G gZ32 hr rfl dZ32.m dZ32.F.kp dZ32.b .nil a0L (a0A (pv 2) (a0A (a0S (a0I (K:=K) rfl) (pv 3) (pv 0) (λ _ _=>rfl)) (a0A (a0S (a0I (K:=K) rfl) (pv 3) (pv 1) (λ _ _=>rfl)) a0B)))) (λ _=>rfl)))) (λ _ _ _ _ _=>(a2A (a0A (pv 0) (a0A (pv 1) a0B))))) a0B)))))
   (a0D (a0M (a2I (a7H (K:=K) rfl) rfl B.bool (by decide +kernel) (a0A (a0S (a1K (K:=K) rfl) (a0G gZ13 hr rfl dZ13.m dZ13.F.kp dZ13.b .nil a0L (a0A (a2A (a0A (a0K (a1E (K:=K) rfl) rfl B.len (by decide +kernel) (a0A (pv 1) a0B)) (a0A (pv 2) a0B))) a0B)) a0F (λ _ _=>rfl)) a0B)))))),?_⟩
 refine ⟨(by show 0 <= 1000; decide),λ p1 H1 n1=>?_⟩
 refine ⟨_,rfl,a,_,rfl,.inl (n1.same.seq hA),_,rfl,by omega,by omega,?_⟩
 rw [Int.toNat_natCast]
 refine a1O (n:=xs.length) (λ k σ H'=>(∃ kk:Option V,σ = [some g,some (.ref a),some (.ref p1),kk])/\Same H H'/\∃ ys,H' p1 = some (.lst ys)/\Paired (TieL H') ys (qT ts P' k)) ⟨⟨none,rfl⟩,n1.same,[],n1.here,.nil⟩ ?_ ?_
 ·rintro k σ H2 hk ⟨⟨kk,rfl⟩,s2,ys,hy,py⟩
  have ek:(0:Int) + (k:Int) = ((k:Nat):Int):=by omega
  rw [ek]
  have kl:k < P'.length:=by omega
  refine ⟨_,rfl,.inl ⟨rfl,_,SqL.of hy⟩,?_⟩
  refine ⟨_,rfl,_,rfl,by omega,by omega,?_⟩
  rw [Int.toNat_natCast]
  have bagA:∀ {i:Nat} {H':Hp},Same H H'->i < P'.length->∃ b,xs[i]? = some (.ref b)/\SqL K H' b ((P'.getD i []).map V.int):=λ {i H'} s' il=>by
   obtain ⟨v,hv,b,rfl,hb⟩:=a6F pA (List.getElem?_eq_getElem il)
   refine ⟨b,hv,?_⟩
   rw [τα,List.getElem?_eq_getElem il]
   exact s'.seq hb
  refine a5W (λ i zs H'=>Same H2 H'/\Paired (TieL H') zs (((List.range i).filter λ j=>a2K ts (P'.getD j []) (P'.getD k [])).map λ j=>(((j:Nat):Int),((k:Nat):Int)))) ⟨Same.refl _,.nil⟩ (λ i zs H' hi ⟨_,p⟩=>?_) (λ i zs H3 hi ⟨s3,p3⟩=>?_) (λ zs H3 ⟨s3,p3⟩ p4 hp4=>?_)
  ·have e:=Paired.length p
   rw [List.length_map] at e
   have:=List.length_filter_le (λ j=>a2K ts (P'.getD j []) (P'.getD k [])) (List.range i)
   rw [List.length_range] at this
   exact Nat.le_of_lt (a0W (by omega))
  ·have e0:(0:Int) + (i:Int) = ((i:Nat):Int):=by omega
   rw [e0]
   obtain ⟨bi,hbi,hi'⟩:=bagA (i:=i) (s2.trans s3) (by omega)
   obtain ⟨bk,hbk,hk'⟩:=bagA (i:=k) (s2.trans s3) kl
   have s03:=s2.trans s3
   refine ⟨_,rfl,_,rfl,_,rfl,a,_,_,_,rfl,rfl,s03.seq hA,a1F hbi,_,rfl,_,rfl,a,_,_,_,rfl,rfl,s03.seq hA,a1F hbk,g,n,ts,bi,bk,P'.getD i [],P'.getD k [],rfl,hG.same s03,by omega,l400,t16,hi',G.lt _ (a3A (by omega)),?_,hk',λ H4 s4=>?_⟩
   ·have:=c5Y n10 ((G.asc _ (a3A (show i < P'.length by omega))).imp λ h=>by omega) (G.lt _ (a3A (show i < P'.length by omega)))
    omega
   ·refine ⟨_,rfl,?_⟩
    rw [List.range_succ,List.filter_append,List.map_append]
    have s34:=s3.trans s4
    cases c:a2K ts (P'.getD i []) (P'.getD k []) with
    | true =>
     refine iteT ⟨_,rfl,_,rfl,(by show 2 <= 1000; decide),λ p5 H5 n5=>⟨s34.trans n5.same,?_⟩⟩
     rw [List.filter_cons,c]
     exact a1P (Paired.mapP p3 λ _ _ h=>TieL.same (s4.trans n5.same) h) ⟨p5,rfl,n5.here⟩
    | false =>
     refine iteF ⟨s34,?_⟩
     rw [List.filter_cons,c,show ((if (false = true) then i :: List.filter (λ j=>a2K ts (P'.getD j []) (P'.getD k [])) [] else List.filter (λ j=>a2K ts (P'.getD j []) (P'.getD k [])) [])) = [] from rfl,List.map_nil,List.append_nil]
     exact Paired.mapP p3 λ _ _ h=>TieL.same s4 h
  ·have n4:New H3 p4 (.lst zs) (upd H3 p4 (.lst zs)):=New.mk0 hp4
   generalize upd H3 p4 (.lst zs) = H4 at n4 ⊢
   have s24:=s3.trans n4.same
   have ly:=Paired.length py
   have lz:=Paired.length p3
   have q1:=b6V ts P' k
   have q2:=b6U ts P' k
   have kk10:k * k <= 10 * 10:=Nat.mul_le_mul (by omega) (by omega)
   have q3:zs.length <= k:=by rw [lz]; exact q2
   refine ⟨p1,p4,ys,zs,rfl,rfl,s24 _ _ hy,n4.here,(by omega),λ H5 c5=>⟨⟨_,rfl⟩,(s2.trans s24).chg n1.fresh c5,ys ++ zs,c5.here,?_⟩⟩
   show Paired (TieL H5) (ys ++ zs) (qT ts P' k ++ qTk ts P' k)
   exact a2S (Paired.mapP py λ _ _ h=>(TieL.same s24 h).chg (s24 _ _ hy) c5) (Paired.mapP p3 λ _ _ h=>(TieL.same n4.same h).chg (s24 _ _ hy) c5)
 ·rintro σ H2 ⟨⟨kk,rfl⟩,s2,ys,hy,py⟩
  rw [lx] at py
  dsimp only
  have ly:=Paired.length py
  have q1:=b6V ts P' P'.length
  have mm:P'.length * P'.length <= 10 * 10:=Nat.mul_le_mul P10 P10
  refine ⟨_,rfl,a,_,rfl,.inl (s2.seq hA),_,rfl,(by show 2 <= 1000; decide),λ p3 H3 n3=>?_⟩
  rw [lx] at n3
  refine ⟨.ref p3,P'.length,qT ts P' P'.length,rfl,⟨p3,p1,rfl,SqT.of n3.here,ys,SqL.of (n3.same _ _ hy),Paired.mapP py λ _ _ h=>(TieL.same n3.same h).v,by omega⟩,(λ t ht=>?_),P10,λ p pst pl ps qs S H4 s4 hp hst stp hpl FR st _ _=>?_⟩
  ·obtain ⟨i,j,a,b,e,_⟩:=mem_qT.mp ht
   rw [e]
   dsimp only
   omega
  ·refine ⟨p,_,_,_,rfl,rfl,SqT.of hp,rfl,pl,_,rfl,SqL.of hpl,?_⟩
   refine q H4 _ (s2.trans (n3.same.trans s4)) ?_
   rw [<- b9M n10 G,<- b6S FR st]
   cases a5S P'.length S with
   | nil=>exact ⟨λ h=>(by cases h),λ h=>absurd rfl h⟩
   | cons x r=>exact ⟨λ _ h=>(by cases h),λ _=>rfl⟩
end
end K
namespace K
open PySem L2 Lw Bg
theorem c3J {ta tb:TT} {σ:St} {H:Hp} {b1 b2:Bool} {Q:Bool->Hp->Prop} (h1:∀ Q:Bool->Hp->Prop,Q b1 H->ta σ H Q) (h2:∀ Q:Bool->Hp->Prop,Q b2 H->tb σ H Q) (h:Q (b1 || b2) H):tOr ta tb σ H Q:=by
 refine h1 _ ?_
 cases b1 with
 | true=>exact iteT h
 | false=>exact iteF (h2 _ h)
abbrev c1A:Stmt:=top 29
theorem sc_four:FnScope ["graph", "parts", "v", "a", "b"] ["graph"] (a0E c1A):=⟨rfl,rfl,rfl,by decide +kernel,rfl,by decide +kernel,by decide +kernel⟩
abbrev b0C:Stmt:=top 31
theorem b3Z:FnScope ["graph", "fewer", "parts"] ["graph", "fewer", "parts"] (a0E b0C):=⟨rfl,rfl,rfl,by decide +kernel,rfl,by decide +kernel,by decide +kernel⟩
abbrev a5D:Stmt:=top 32
theorem sc_made_one:FnScope ["parts", "a", "b", "met"] ["parts", "a", "b"] (a0E a5D):=⟨rfl,rfl,rfl,by decide +kernel,rfl,by decide +kernel,by decide +kernel⟩
def bagD (b:List Int):PyData:=.list (b.map PyData.int)
theorem c3K (b:List Int):(bagD b).canLay0 = true:=by
 have h:=a2Y b
 unfold SeqAt.shaped at h
 rw [Bool.and_eq_true] at h
 exact h.1
theorem b6W (b:List Int):(bagD b).depth <= 1:=by
 unfold bagD
 rw [PyData.depth]
 have:=a3H (k:=0) (f:=PyData.int) (λ b=>by simp [PyData.depth]) b
 omega
theorem b1M (bs:List (List Int)):SeqAt.shaped (.list (bs.map bagD)) = true:=by
 unfold SeqAt.shaped
 rw [PyData.canLay0,b0X c3K,PyData.depth,Bool.true_and]
 exact decide_eq_true (by have:=a3H b6W bs; omega)
theorem b2Q {K:Φρ} {H:Hp} {v:V} {s:List Int} (h:LstV K H v s):IsD K H v (bagD s):=by
 obtain ⟨p,rfl,h⟩:=h
 exact .lst h (IsDs.ints _)
theorem b6X {K:Φρ} {H:Hp} {xs:List V} {P:List (List Int)} (h:Paired (LstV K H) xs P):IsDs K H xs (P.map bagD):=by
 induction h with
 | nil=>exact .nil
 | cons a _ ih=>exact .cons (b2Q a) ih
theorem c3L (D:List (List Int)) (p:List Int):(D.map bagD).any (λ e=>PyData.eqv e (bagD p)) = decide (p ∈ D):=by
 rw [List.any_map,Bool.eq_iff_iff,List.any_eq_true,decide_eq_true_iff]
 have e:∀ x:List Int,PyData.eqv (bagD x) (bagD p) = decide (x = p):=λ x=>b8M x p
 constructor
 ·rintro ⟨x,hx,h⟩
  have h':PyData.eqv (bagD x) (bagD p) = true:=h
  rw [e] at h'
  exact of_decide_eq_true h' ▸ hx
 ·exact λ h=>⟨p,h,by show PyData.eqv (bagD p) (bagD p) = true; rw [e]; exact decide_eq_true rfl⟩
theorem b6Y {K:Φρ} {H:Hp} {b:Addr} {v:V} {ys:List V} {D:List (List Int)} {p:List Int} {Q:VK} (hv:LstV K H v p) (hB:SqL K H b ys) (pB:Paired (LstV K H) ys D) (q:Q (.bl (!decide (p ∈ D))) H):rInD K true v (.ref b) H Q :=
 ⟨_,_,b2Q hv,.lst hB (b6X pB),a2Y p,b1M D,by rw [c3L]; exact q⟩
def c3M (K:Φρ):Sp:=λ vs H Q _=>∃ (a b:Addr) (xs ys:List V) (P D:List (List Int)),vs = [.ref a,.ref b]/\SqL K H a xs/\Paired (LstV K H) xs P/\SqL K H b ys/\Paired (LstV K H) ys D/\P.length <= 900 /\
 ∀ H0 p zs H',Same H H0->New H0 p (.lst zs) H'->(∀ R:V->List Int->Prop,Paired R xs P->Paired R zs (a3U P D))->Q (.ref p) H'
section
variable {P:Program} {w:World} {K:Φρ} {mg:Str->Option Value} {base:Heap}
set_option maxHeartbeats 4000000 in
theorem b2R (B:Bl mg) (dZ21:DZ21 K mg):FnOk P w K mg base CX0 1 dZ21.f dZ21.fd ["one", "other"] (c3M K):=by
 refine dZ21.F.ok b6A (λ vs H Q E h=>?_) (λ cdv A outer s H vs Q E hr h=>?_)
 ·obtain ⟨a,b,xs,ys,P',D,rfl,_⟩:=h
  rfl
 obtain ⟨a,b,xs,ys,P',D,rfl,hA,pA,hB,pB,hz,q⟩:=h
 have hv:(A.deeper (PyProof.Rows.envOfC "less" (a0E b2K) s.heap.objs.size dZ21.f cdv)).units + 65 < cLine:=by have:=hr.un; omega
 have lx:=Paired.length pA
 refine ⟨_,(a0D (a0M (a9K ["v", "other"] [none,some 1]  (by kernel_rfl) rfl (a1G (K:=K) rfl (pv 0)) (λ _ _ _ _ _=>(a0H (i:=0) (show (["v", "other"]:List Str).Nodup by decide +kernel) rfl (Or.inl rfl))) (λ _ _ _ _ _=>(a2P (a1C (a3R (K:=K) rfl hv) (pv 0) (pv 1) (by with_unfolding_all rfl)))) (λ _ _ _ _ _=>(pv 0))))),?_⟩
 refine ⟨_,rfl,a,rfl,⟨_,hA⟩,?_⟩
 refine a7Z (K:=K) (a:=a) (xs:=xs) (λ i zs H'=>H' = H/\zs.length <= i/\∀ R:V->List Int->Prop,Paired R xs P'->Paired R zs (a3U (P'.take i) D)) ⟨rfl,Nat.le_refl _,λ _ _=>.nil⟩ (λ i zs H' hi ⟨e,l,_⟩=>⟨e ▸ hA,Nat.le_of_lt (a0W (by omega))⟩) (λ i x zs H3 hx ⟨e3,l3,r3⟩=>?_) (λ zs H3 ⟨e3,l3,r3⟩ p4 hp4=>?_)
 ·subst e3
  obtain ⟨p,hp,hl⟩:=a0V pA hx
  have et:P'.take (i + 1) = P'.take i ++ [p]:=by rw [List.take_succ,hp]; rfl
  refine ⟨_,rfl,_,rfl,b6Y hl hB pB ⟨_,rfl,?_⟩⟩
  rw [et]
  unfold a3U
  rw [List.filter_append,List.filter_cons]
  cases c:decide (p ∈ D) with
  | true=>exact iteF ⟨rfl,by omega,λ R h=>by
    have:=r3 R h
    unfold a3U at this
    rw [show (if (!true) = true then p :: List.filter (λ p=>!decide (p ∈ D)) [] else List.filter (λ p=>!decide (p ∈ D)) []) = [] from rfl,List.append_nil]
    exact this⟩
  | false=>exact iteT ⟨_,rfl,rfl,by rw [List.length_append]; show zs.length + 1 <= _; omega,λ R h=>by
    have:=r3 R h
    obtain ⟨p',hp',hR⟩:=a0V h hx
    rw [hp] at hp'
    cases hp'
    exact a1P this hR⟩
 ·subst e3
  refine q _ _ zs _ (Same.refl _) (New.mk0 hp4) λ R h=>?_
  have:=r3 R h
  rwa [lx,List.take_length] at this
end
def PtL (H0 H:Hp) (v:V) (b:List Int):Prop:=∃ p,v = .ref p/\H p = some (.lst (b.map V.int))/\H0 p = none
theorem PtL.same {H0 H H':Hp} {v:V} {b:List Int} (s:Same H H') (h:PtL H0 H v b):PtL H0 H' v b:=by
 obtain ⟨p,e,q,f⟩:=h
 exact ⟨p,e,s _ _ q,f⟩
theorem PtL.l {K:Φρ} {H0 H:Hp} {v:V} {b:List Int} (h:PtL H0 H v b):LstV K H v b:=by
 obtain ⟨p,e,q,f⟩:=h
 exact ⟨p,e,SqL.of q⟩
theorem Prt.len {n:Nat} {ts:List ζζ} {P:List (List Int)} (G:Prt n ts P) (n10:n <= 10):P.length <= 10:=by
 have h:∀ p ∈ P,p.headD 0 ∈ p:=λ p hp=>by
  have:=G.ne p hp
  cases p with
  | nil=>exact absurd rfl this
  | cons a r=>exact List.mem_cons_self
 have nd:(P.map λ p=>p.headD 0).Nodup:=b0A G.nd λ p q hp hq e=>G.same hp hq (h p hp) (by rw [e]; exact h q hq)
 have:=c5Y n10 nd λ v hv=>by
  obtain ⟨p,hp,rfl⟩:=List.mem_map.mp hv
  exact G.lt p hp _ (h p hp)
 rwa [List.length_map] at this
inductive MdO (P:List (List Int)) (a b:Int):List (List Int)->Prop
 | no:(∀ p q,p ∈ P->q ∈ P->a ∈ p->b ∈ q->p = q)->MdO P a b P
 | yes {p q:List Int}:p ∈ P->q ∈ P->p ≠ q->((a ∈ p/\b ∈ q)\/(b ∈ p/\a ∈ q))->MdO P a b (oneP P p q)
def metP (P:List (List Int)) (a b:Int):List (List Int):=P.filter λ p=>decide (a ∈ p) || decide (b ∈ p)
theorem mem_metP {P:List (List Int)} {a b:Int} {p:List Int}:p ∈ metP P a b ↔ p ∈ P/\(a ∈ p\/b ∈ p):=by
 unfold metP
 rw [List.mem_filter,Bool.or_eq_true,decide_eq_true_iff,decide_eq_true_iff]
theorem c3N {n:Nat} {ts:List ζζ} {P:List (List Int)} {a b:Int} (G:Prt n ts P) (l:¬ (metP P a b).length < 2):∃ p q,metP P a b = [p,q]/\p ∈ P/\q ∈ P/\p ≠ q/\((a ∈ p/\b ∈ q)\/(b ∈ p/\a ∈ q)):=by
 have nd:(metP P a b).Nodup:=G.nd.sublist List.filter_sublist
 have mm:∀ p ∈ metP P a b,p ∈ P/\(a ∈ p\/b ∈ p):=λ p hp=>mem_metP.mp hp
 match e:metP P a b,l with
 | [],l=>exact absurd (by decide) l
 | [_],l=>exact absurd (by simp) l
 | p :: q :: r,_ =>
  rw [e] at nd mm
  obtain ⟨n1,n2⟩:=List.nodup_cons.mp nd
  obtain ⟨n3,_⟩:=List.nodup_cons.mp n2
  obtain ⟨hp,ap⟩:=mm p List.mem_cons_self
  obtain ⟨hq,aq⟩:=mm q (by simp)
  have npq:p ≠ q:=λ z=>n1 (by rw [z]; exact List.mem_cons_self)
  have er:r = []:=by
   cases r with
   | nil=>rfl
   | cons s r =>
    obtain ⟨hs,as⟩:=mm s (by simp)
    have nps:p ≠ s:=λ z=>n1 (by rw [z]; simp)
    have nqs:q ≠ s:=λ z=>n3 (by rw [z]; simp)
    rcases ap with x | x <;> rcases aq with y | y <;> rcases as with z | z
    ·exact absurd (G.same hp hq x y) npq
    ·exact absurd (G.same hp hq x y) npq
    ·exact absurd (G.same hp hs x z) nps
    ·exact absurd (G.same hq hs y z) nqs
    ·exact absurd (G.same hq hs y z) nqs
    ·exact absurd (G.same hp hs x z) nps
    ·exact absurd (G.same hp hq x y) npq
    ·exact absurd (G.same hp hq x y) npq
  refine ⟨p,q,by rw [er],hp,hq,npq,?_⟩
  rcases ap with x | x <;> rcases aq with y | y
  ·exact absurd (G.same hp hq x y) npq
  ·exact .inl ⟨x,y⟩
  ·exact .inr ⟨x,y⟩
  ·exact absurd (G.same hp hq x y) npq
def b6Z (K:Φρ):Sp:=λ vs H Q _=>∃ (H0:Hp) (l:Addr) (xs:List V) (P:List (List Int)) (a b:Int) (n:Nat) (ts:List ζζ),vs = [.ref l,.int a,.int b]/\Same H0 H/\H l = some (.lst xs)/\H0 l = none/\Paired (PtL H0 H) xs P/\Prt n ts P/\n <= 10 /\
 ∀ l' xs' P' H',Same H H'->H' l' = some (.lst xs')->H0 l' = none->Paired (PtL H0 H') xs' P'->MdO P a b P'->Q (.ref l') H'
def b9N (K:Φρ):Sp:=λ vs H Q _=>∃ (g:V) (n:Nat) (ts:List ζζ) (f p:Addr) (xs:List V) (P:List (List Int)),vs = [g,.ref f,.ref p]/\GraphV K H g n ts/\n <= 10/\ts.length <= 400/\(∀ t ∈ ts,0 <= t.1/\t.1 < 16/\0 <= t.2/\t.2 < 16)/\SqL K H f xs/\Paired (LstV K H) xs P/\Prt n ts P /\
 ∀ H',Same H H'->(FoP ts P->Q (.ref p) H')/\(¬ FoP ts P->Q (.ref f) H')
section
variable {P:Program} {w:World} {K:Φρ} {mg:Str->Option Value} {base:Heap}
abbrev DZ23 (K:PySem.W.Frag) (mg:Str->Option Value):=Dn K mg "made_one" a5D ["parts", "a", "b"]
set_option maxHeartbeats 8000000 in
theorem b1N (B:Bl mg) (dZ18:DZ18 K mg) (dZ21:DZ21 K mg) (dZ23:DZ23 K mg):FnOk P w K mg base CX0 2 dZ23.f dZ23.fd ["parts", "a", "b"] (b6Z K):=by
 have gZ21:FnOk P w K mg base CX0 1 _ _ _ _:=b2R B dZ21
 have gZ18:FnOk P w K mg base CX0 1 _ _ _ _:=a8H B dZ18
 refine dZ23.F.ok sc_made_one (λ vs H Q E h=>?_) (λ cdv A outer s H vs Q E hr h=>?_)
 ·obtain ⟨H0,l,xs,P',a,b,n,ts,rfl,_⟩:=h
  rfl
 obtain ⟨H0,l,xs,P',a,b,n,ts,rfl,s0,hL,f0,pX,G,n10,q⟩:=h
 have hv:(A.deeper (PyProof.Rows.envOfC "made_one" (a0E a5D) s.heap.objs.size dZ23.f cdv)).units + 65 < cLine:=by have:=hr.un; omega
 have lx:=Paired.length pX
 have P10:=G.len n10
 refine ⟨_,(a0C (a2E (i:=3) ["part", "a", "b"] [none,some 1,some 2] sc_made_one.nd rfl rfl (by kernel_rfl) rfl (a1G (K:=K) rfl (pv 0)) (λ _ _ _ _ _=>(a0H (i:=0) (show (["part", "a", "b"]:List Str).Nodup by decide +kernel) rfl (Or.inl rfl))) (λ _ _ _ _ _=>(a2P (PW.pt (b0N (a1C (b0U (K:=K) rfl hv) (pv 1) (pv 0) (by with_unfolding_all rfl)) (a8V (a1C (b0U (K:=K) rfl hv) (pv 2) (pv 0) (by with_unfolding_all rfl))))))) (λ _ _ _ _ _=>(pv 0)) (by rfl))
   (a0C (a3T (a1C b3F (a0K (a1E (K:=K) rfl) rfl B.len (by decide +kernel) (a0A (pv 3) a0B)) a0F (a1N _))
   (a0D (a0M (pv 0)))
   a1S)
   (a0D (a0M (a0O b4X (a0G gZ21 hr rfl dZ21.m dZ21.F.kp dZ21.b .nil a0L (a0A (pv 0) (a0A (pv 3) a0B))) (a1M (a0A (a0G gZ18 hr rfl dZ18.m dZ18.F.kp dZ18.b .nil a0L (a0A (a0S (a0I (K:=K) rfl) (pv 3) a0F (λ _ _=>rfl)) (a0A (a0S (a0I (K:=K) rfl) (pv 3) a0F (λ _ _=>rfl)) a0B))) a0B))))))),?_⟩
 refine ⟨_,rfl,l,rfl,⟨_,SqL.of hL⟩,?_⟩
 refine a7Z (K:=K) (a:=l) (xs:=xs) (λ i zs H'=>H' = H/\zs.length <= i/\Paired (PtL H0 H) zs (metP (P'.take i) a b)) ⟨rfl,Nat.le_refl _,.nil⟩ (λ i zs H' hi ⟨e,l',_⟩=>⟨e ▸ SqL.of hL,Nat.le_of_lt (a0W (by omega))⟩) (λ i x zs H3 hx ⟨e3,l3,r3⟩=>?_) (λ zs H3 ⟨e3,l3,r3⟩ p4 hp4=>?_)
 ·subst e3
  obtain ⟨p,hp,hl⟩:=a0V pX hx
  have et:P'.take (i + 1) = P'.take i ++ [p]:=by rw [List.take_succ,hp]; rfl
  obtain ⟨b',rfl,hb',fb'⟩:=id hl
  refine c3J (b1:=decide (a ∈ p)) (b2:=decide (b ∈ p)) (λ Q h=>⟨_,rfl,_,rfl,b5B (SqL.of hb') ⟨_,rfl,h⟩⟩) (λ Q h=>⟨_,rfl,_,rfl,b5B (SqL.of hb') ⟨_,rfl,h⟩⟩) ?_
  rw [et]
  unfold metP
  rw [List.filter_append,List.filter_cons]
  cases c:(decide (a ∈ p) || decide (b ∈ p)) with
  | true=>exact iteT ⟨_,rfl,rfl,by rw [List.length_append]; show zs.length + 1 <= _; omega,a1P r3 hl⟩
  | false =>
   refine iteF ⟨rfl,by omega,?_⟩
   rw [show (if (false = true) then p :: List.filter (λ p=>decide (a ∈ p) || decide (b ∈ p)) [] else List.filter (λ p=>decide (a ∈ p) || decide (b ∈ p)) []) = [] from rfl,List.append_nil]
   exact r3
 ·subst e3
  rw [lx,List.take_length] at r3
  have n4:New H3 p4 (.lst zs) (upd H3 p4 (.lst zs)):=New.mk0 hp4
  generalize upd H3 p4 (.lst zs) = H4 at n4 ⊢
  have lz:=Paired.length r3
  refine ⟨_,rfl,p4,_,rfl,.inl (SqL.of n4.here),_,_,rfl,rfl,_,rfl,ite2 (λ c=>?_) (λ c=>?_)⟩
  ·have c':((zs.length:Nat):Int) < 2:=of_decide_eq_true c
   refine ⟨_,rfl,q l xs P' H4 n4.same (n4.same _ _ hL) f0 (Paired.mapP pX λ _ _ h=>h.same n4.same) (.no λ p r hp hr ha hb=>Classical.byContradiction λ ne=>?_)⟩
   have:=pigN (l:=[p,r]) (U:=metP P' a b) (by simp [ne]) λ x hx=>by
    rcases List.mem_cons.mp hx with rfl | hx
    ·exact mem_metP.mpr ⟨hp,.inl ha⟩
    ·rw [List.mem_singleton.mp hx]; exact mem_metP.mpr ⟨hr,.inr hb⟩
   rw [<- lz] at this
   have:2 <= zs.length:=this
   omega
  ·have c':¬ ((zs.length:Nat):Int) < 2:=of_decide_eq_false (Bool.eq_false_iff.mpr c)
   obtain ⟨p,r,em,hp,hr',ne,ab⟩:=c3N (a:=a) (b:=b) G (by rw [<- lz]; omega)
   rw [em] at r3
   cases r3 with
   | @cons v1 _ z1 _ h1 t1 =>
   cases t1 with
   | @cons v2 _ z2 _ h2 t2 =>
   cases t2
   obtain ⟨a1,rfl,k1,f1⟩:=id h1
   obtain ⟨a2,rfl,k2,f2⟩:=id h2
   have pX4:=Paired.mapP pX λ _ _ h=>PtL.same n4.same h
   refine ⟨_,rfl,_,rfl,l,p4,xs,_,P',[p,r],rfl,SqL.of (n4.same _ _ hL),Paired.mapP pX4 λ _ _ h=>h.l,SqL.of n4.here,.cons (h1.same n4.same).l (.cons (h2.same n4.same).l .nil),by omega,λ H5 p6 ws H6 s5 n6 hR=>?_⟩
   have s46:=s5.trans n6.same
   have s36:=n4.same.trans s46
   have sm:∀ {x},x ∈ P'->a9R x:=λ hx v hv=>by have:=G.lt _ hx v hv; exact ⟨this.1,by omega⟩
   refine ⟨_,rfl,p4,_,_,_,rfl,rfl,SqL.of (s46 _ _ n4.here),rfl,_,rfl,p4,_,_,_,rfl,rfl,SqL.of (s46 _ _ n4.here),rfl,a1,a2,p,r,rfl,SqL.of (s36 _ _ k1),SqL.of (s36 _ _ k2),sm hp,sm hr',λ H7 p8 H8 s7 n8=>⟨(by show 1 <= 1000; decide),λ p9 H9 n9=>?_⟩⟩
   have s69:=s7.trans (n8.same.trans n9.same)
   have pw:=hR _ pX
   have lw:=Paired.length pw
   have lw2:(a3U P' [p,r]).length <= P'.length:=List.length_filter_le _ _
   refine ⟨p6,p9,_,_,rfl,rfl,s69 _ _ n6.here,n9.here,(by show ws.length + 1 <= 1000; omega),λ p10 H10 n10'=>?_⟩
   have s610:=s69.trans n10'.same
   have s310:=s36.trans s610
   have f8:H0 p8 = none:=s0.free (s36.free (s7.free n8.fresh))
   have f10:H0 p10 = none:=s0.free (s36.free (s69.free n10'.fresh))
   refine q p10 _ (oneP P' p r) H10 s310 n10'.here f10 (a1P (Paired.mapP pw λ _ _ h=>h.same s310) ⟨p8,rfl,n10'.same _ _ (n9.same _ _ n8.here),f8⟩) (.yes hp hr' ne ab)
abbrev DZ10 (K:PySem.W.Frag) (mg:Str->Option Value):=Dn K mg "firm_of" b0C ["graph", "fewer", "parts"]
set_option maxHeartbeats 8000000 in
theorem b4A (B:Bl mg) (dZ17:DZ17 K mg) (dZ15:DZ15 K mg) (dZ7:DZ7 K mg) (dZ21:DZ21 K mg) (dZ18:DZ18 K mg) (dZ6:DZ6 K mg) (dZ28:DZ28 K mg) (dZ32:DZ32 K mg) (dZ27:DZ27 K mg) (dZ24:DZ24 K mg) (dZ11:DZ11 K mg) (dZ31:DZ31 K mg) (dZ13:DZ13 K mg) (dZ12:DZ12 K mg) (dZ16:DZ16 K mg) (dZ10:DZ10 K mg):FnOk P w K mg base CX0 7 dZ10.f dZ10.fd ["graph", "fewer", "parts"] (b9N K):=by
 have gZ16:FnOk P w K mg base CX0 6 _ _ _ _:=a7Q B dZ17 dZ15 dZ7 dZ21 dZ18 dZ6 dZ28 dZ32 dZ27 dZ24 dZ11 dZ31 dZ13 dZ12 dZ16
 refine dZ10.F.ok b3Z (λ vs H Q E h=>?_) (λ cdv A outer s H vs Q E hr h=>?_)
 ·obtain ⟨g,n,ts,f,p,xs,P',rfl,_⟩:=h
  rfl
 obtain ⟨g,n,ts,f,p,xs,P',rfl,hG,n10,l400,t16,hF,pF,G,q⟩:=h
 refine ⟨_,(a0D (a0M (b1W (a0P (K:=K) rfl (a0G gZ16 hr rfl dZ16.m dZ16.F.kp dZ16.b .nil a0L (a0A (pv 0) (a0A (pv 1) a0B))) (λ _=>rfl)) (pv 1) (pv 2)))),?_⟩
 refine ⟨_,rfl,_,rfl,g,n,ts,f,xs,P',rfl,hG,n10,l400,t16,hF,pF,G,G.len n10,λ H1 b s1 hb=>?_⟩
 refine ⟨_,rfl,?_⟩
 cases b with
 | true=>exact iteT ⟨_,rfl,(q H1 s1).2 (hb.mp rfl)⟩
 | false=>exact iteF ⟨_,rfl,(q H1 s1).1 (Classical.byContradiction λ z=>by have:=hb.mpr z; cases this)⟩
end
end K
namespace K
open PySem L2 Lw Bg
def sgl (n:Nat):List (List Int):=(List.range n).map λ v=>[((v:Nat):Int)]
theorem mem_sgl {n:Nat} {p:List Int}:p ∈ sgl n ↔ ∃ v:Nat,v < n/\p = [(v:Int)]:=by
 unfold sgl
 rw [List.mem_map]
 exact ⟨λ ⟨v,h,e⟩=>⟨v,List.mem_range.mp h,e.symm⟩,λ ⟨v,h,e⟩=>⟨v,List.mem_range.mpr h,e.symm⟩⟩
theorem c3O (n:Nat) (ts:List ζζ):Prt n ts (sgl n):=by
 refine ⟨λ p hp=>?_,λ p hp=>?_,λ p hp=>?_,?_,λ p hp=>?_⟩
 ·obtain ⟨v,_,rfl⟩:=mem_sgl.mp hp
  exact List.cons_ne_nil _ _
 ·obtain ⟨v,_,rfl⟩:=mem_sgl.mp hp
  exact List.pairwise_singleton _ _
 ·obtain ⟨v,h,rfl⟩:=mem_sgl.mp hp
  intro x hx
  rw [List.mem_singleton.mp hx]
  omega
 ·unfold sgl
  rw [List.pairwise_map]
  refine List.pairwise_lt_range.imp λ {a b} h v hv hw=>?_
  have:=List.mem_singleton.mp hv
  have:=List.mem_singleton.mp hw
  omega
 ·obtain ⟨v,_,rfl⟩:=mem_sgl.mp hp
  exact Jn.one _
def FoG (n:Nat) (ts:List ζζ):Prop:=Fo (λ x:Int=>0 <= x/\x < (n:Int)) (Adj ts)
theorem fo_sgl {n:Nat} {ts:List ζζ}:FoP ts (sgl n) ↔ FoG n ts:=by
 have tr:∀ {x y:Int},x ≠ y->(TR ts [x] [y] ↔ Adj ts x y):=λ {x y} ne=>by
  constructor
  ·rintro ⟨a,ha,b,hb,h⟩
   rw [List.mem_singleton.mp ha,List.mem_singleton.mp hb] at h
   exact h.resolve_left ne
  ·exact λ h=>⟨x,List.mem_cons_self,y,List.mem_cons_self,.inr h⟩
 constructor
 ·intro h
  refine h.map (λ x=>[x]) (λ x hx=>mem_sgl.mpr ⟨x.toNat,by omega,by rw [Int.toNat_of_nonneg hx.1]⟩) (λ x y _ _ e=>List.singleton_inj.mp e) λ x y _ _ ne h=>(tr ne).mpr h
 ·intro h
  refine h.map (λ p=>p.headD 0) (λ p hp=>?_) (λ p q hp hq e=>?_) λ p q hp hq ne h=>?_
  ·obtain ⟨v,hv,rfl⟩:=mem_sgl.mp hp
   show (0:Int) <= (v:Int)/\(v:Int) < n
   omega
  ·obtain ⟨v,hv,rfl⟩:=mem_sgl.mp hp
   obtain ⟨u,hu,rfl⟩:=mem_sgl.mp hq
   exact congrArg (λ z=>[z]) e
  ·obtain ⟨v,hv,rfl⟩:=mem_sgl.mp hp
   obtain ⟨u,hu,rfl⟩:=mem_sgl.mp hq
   exact (tr λ e=>ne (congrArg (λ z=>[z]) e)).mp h
def c6A (K:Φρ):Sp:=λ vs H Q _=>∃ (g:V) (n:Nat) (ts:List ζζ),vs = [g]/\GraphV K H g n ts/\n <= 10/\ts.length <= 400/\(∀ t ∈ ts,0 <= t.1/\t.1 < t.2/\t.2 < (n:Int)) /\
 (FoG n ts->∀ H',Same H H'->Q .non H')/\(¬ FoG n ts->∀ l xs F H',Same H H'->H l = none->H' l = some (.lst xs)->Paired (PtL H H') xs F->Prt n ts F->F.length = 4->(∀ p ∈ F,∀ q ∈ F,p ≠ q->TR ts p q)->Q (.ref l) H')
section
variable {P:Program} {w:World} {K:Φρ} {mg:Str->Option Value} {base:Heap}
abbrev DZ14 (K:PySem.W.Frag) (mg:Str->Option Value):=Dn K mg "four" c1A ["graph"]
set_option maxHeartbeats 8000000 in
theorem c3P (B:Bl mg) (dZ17:DZ17 K mg) (dZ15:DZ15 K mg) (dZ7:DZ7 K mg) (dZ21:DZ21 K mg) (dZ18:DZ18 K mg) (dZ6:DZ6 K mg) (dZ28:DZ28 K mg) (dZ32:DZ32 K mg) (dZ27:DZ27 K mg) (dZ24:DZ24 K mg) (dZ11:DZ11 K mg) (dZ31:DZ31 K mg) (dZ13:DZ13 K mg) (dZ12:DZ12 K mg) (dZ16:DZ16 K mg) (dZ10:DZ10 K mg) (dZ23:DZ23 K mg) (dZ14:DZ14 K mg):FnOk P w K mg base CX0 8 dZ14.f dZ14.fd ["graph"] (c6A K):=by
 have gZ16:FnOk P w K mg base CX0 7 _ _ _ _:=(a7Q B dZ17 dZ15 dZ7 dZ21 dZ18 dZ6 dZ28 dZ32 dZ27 dZ24 dZ11 dZ31 dZ13 dZ12 dZ16).mono (by decide)
 have gZ10:FnOk P w K mg base CX0 7 _ _ _ _:=b4A B dZ17 dZ15 dZ7 dZ21 dZ18 dZ6 dZ28 dZ32 dZ27 dZ24 dZ11 dZ31 dZ13 dZ12 dZ16 dZ10
 have gZ21:FnOk P w K mg base CX0 7 _ _ _ _:=(b2R B dZ21).mono (by decide)
 have gZ23:FnOk P w K mg base CX0 7 _ _ _ _:=(b1N B dZ18 dZ21 dZ23).mono (by decide)
 refine dZ14.F.ok sc_four (λ vs H Q E h=>?_) (λ cdv A outer s H vs Q E hr h=>?_)
 ·obtain ⟨g,n,ts,rfl,_⟩:=h
  rfl
 obtain ⟨g,n,ts,rfl,hG,n10,l400,okt,q1,q2⟩:=h
 obtain ⟨pg,rt,rfl,hgT,tx,hTx,pTx,lTx⟩:=id hG
 have t16:∀ t ∈ ts,0 <= t.1/\t.1 < 16/\0 <= t.2/\t.2 < 16:=λ t ht=>by have:=okt t ht; omega
 refine ⟨_,(a0C (a2E (i:=1) ["v"] [none] sc_four.nd rfl rfl (by kernel_rfl) rfl (a1D rfl B.range (a0A (a0S (a1K (K:=K) rfl) (pv 0) a0F (λ _ _=>rfl)) a0B)) (λ _ _ _ _ _=>(a0H (i:=0) (show (["v"]:List Str).Nodup by decide +kernel) rfl (Or.inl rfl))) (λ _ _ _ _ _=>a3V) (λ _ _ _ _ _=>(a1M (a0A (pv 0) a0B))) (by rfl))
   (a0C (a3T (a7E (a0P (K:=K) rfl (a0G gZ16 hr rfl dZ16.m dZ16.F.kp dZ16.b .nil a0L (a0A (pv 0) (a0A (pv 1) a0B))) (λ _=>rfl)))
   (a0D (a0M a7D))
   a1S)
   (a0C (a1R PassesOwn.never rfl (a1D rfl B.range (a0A (a0S (a1K (K:=K) rfl) (pv 0) a0F (λ _ _=>rfl)) a0B)) (a0H (i:=2) sc_four.nd rfl (Or.inl rfl))
   (a0D (a0J (i:=1) sc_four.nd rfl (Or.inl rfl) (a0G gZ10 hr rfl dZ10.m dZ10.F.kp dZ10.b .nil a0L (a0A (pv 0) (a0A (a0G gZ21 hr rfl dZ21.m dZ21.F.kp dZ21.b .nil a0L (a0A (pv 1) (a0A (a1M (a0A (a1M (a0A (pv 2) a0B)) a0B)) a0B))) (a0A (pv 1) a0B)))))))
   (a0C (a1R PassesOwn.never rfl (a1G (K:=K) rfl (a0S (a1K (K:=K) rfl) (pv 0) a0F (λ _ _=>rfl))) (a2X (K:=K) (n:=2) rfl rfl (a1B (a0H (i:=3) sc_four.nd rfl (Or.inl rfl)) (a1B (a0H (i:=4) sc_four.nd rfl (Or.inl rfl)) a2V)))
   (a0D (a0J (i:=1) sc_four.nd rfl (Or.inl rfl) (a0G gZ10 hr rfl dZ10.m dZ10.F.kp dZ10.b .nil a0L (a0A (pv 0) (a0A (a0G gZ23 hr rfl dZ23.m dZ23.F.kp dZ23.b .nil a0L (a0A (pv 1) (a0A (pv 3) (a0A (pv 4) a0B)))) (a0A (pv 1) a0B)))))))
   (a0D (a0M (pv 1))))))),?_⟩
 refine ⟨_,rfl,pg,_,_,_,rfl,rfl,hgT,rfl,_,rfl,by omega,by omega,?_⟩
 rw [Int.toNat_natCast]
 refine a5W (lo:=0) (n:=n) (λ i zs H'=>Same H H'/\Paired (PtL H H') zs (sgl i)) ⟨Same.refl _,.nil⟩ (λ i zs H' hi ⟨_,p⟩=>?_) (λ i zs H3 hi ⟨s3,p3⟩=>?_) (λ zs H3 ⟨s3,p3⟩ p4 hp4=>?_)
 ·have:=Paired.length p
  unfold sgl at this
  rw [List.length_map,List.length_range] at this
  exact Nat.le_of_lt (a0W (by omega))
 ·have e0:(0:Int) + (i:Int) = ((i:Nat):Int):=by omega
  rw [e0]
  refine ⟨_,rfl,(by show 1 <= 1000; decide),λ p5 H5 n5=>⟨s3.trans n5.same,?_⟩⟩
  unfold sgl
  rw [List.range_succ,List.map_append]
  exact a1P (Paired.mapP p3 λ _ _ h=>PtL.same n5.same h) ⟨p5,rfl,n5.here,s3.free n5.fresh⟩
 have n4:New H3 p4 (.lst zs) (upd H3 p4 (.lst zs)):=New.mk0 hp4
 generalize upd H3 p4 (.lst zs) = H4 at n4 ⊢
 have s4:=s3.trans n4.same
 have f4:H p4 = none:=s3.free n4.fresh
 have p4':=Paired.mapP p3 λ _ _ h=>PtL.same n4.same h
 have G0:=c3O n ts
 refine ⟨_,rfl,_,rfl,.ref pg,n,ts,p4,zs,sgl n,rfl,hG.same s4,n10,l400,t16,SqL.of n4.here,Paired.mapP p4' λ _ _ h=>h.l,G0,G0.len n10,λ H5 b s5 hb=>?_⟩
 cases b with
 | false =>
  refine ⟨_,rfl,iteT (q1 (fo_sgl.mp (Classical.byContradiction λ z=>by have:=hb.mpr z; cases this)) H5 (s4.trans s5))⟩
 | true =>
  have firm:=hb.mp rfl
  refine ⟨_,rfl,iteF ?_⟩
  refine ⟨_,rfl,pg,_,_,_,rfl,rfl,(s4.trans s5).tupq hgT,rfl,_,rfl,by omega,by omega,?_⟩
  rw [Int.toNat_natCast]
  refine a1O (n:=n) (λ i σ H'=>∃ (l:Addr) (xs:List V) (F:List (List Int)) (v2:Option V),σ = [some (.ref pg),some (.ref l),v2,none,none]/\Same H H'/\H l = none/\H' l = some (.lst xs)/\Paired (PtL H H') xs F/\Prt n ts F/\¬ FoP ts F/\(∀ p ∈ F,∃ v,p = [v])/\∀ u:Nat,u < i->I1 ts F (u:Int)) ⟨p4,zs,sgl n,none,rfl,s4.trans s5,f4,s5 _ _ n4.here,Paired.mapP p4' λ _ _ h=>PtL.same s5 h,G0,firm,(λ p hp=>by obtain ⟨v,_,e⟩:=mem_sgl.mp hp; exact ⟨_,e⟩),λ u hu=>absurd hu (Nat.not_lt_zero _)⟩ ?_ ?_
  ·rintro i σ H6 hi ⟨l,xs,F,v2,rfl,s6,fl,hl,pF,G,nf,one,i1⟩
   have ei:(0:Int) + (i:Int) = ((i:Nat):Int):=by omega
   rw [ei]
   have F10:=G.len n10
   refine ⟨_,rfl,_,rfl,_,rfl,(by show 1 <= 1000; decide),λ p7 H7 n7=>⟨(by show 1 <= 1000; decide),λ p8 H8 n8=>?_⟩⟩
   have s68:=n7.same.trans n8.same
   have pF8:=Paired.mapP pF λ _ _ h=>PtL.same s68 h
   refine ⟨l,p8,xs,_,F,[[((i:Nat):Int)]],rfl,SqL.of (s68 _ _ hl),Paired.mapP pF8 λ _ _ h=>h.l,SqL.of n8.here,.cons ⟨p7,rfl,SqL.of (n8.same _ _ n7.here)⟩ .nil,by omega,λ H9 p10 ws H10 s9 n10' hR=>?_⟩
   have s610:=s68.trans (s9.trans n10'.same)
   have Gw:Prt n ts (a3U F [[((i:Nat):Int)]]):=G.sub List.filter_sublist
   have pw:=hR _ pF
   refine ⟨_,rfl,.ref pg,n,ts,p10,l,ws,a3U F [[((i:Nat):Int)]],rfl,hG.same (s6.trans s610),n10,l400,t16,SqL.of n10'.here,Paired.mapP pw λ _ _ h=>(h.same s610).l,Gw,λ H11 s11=>⟨λ fo=>?_,λ nfo=>?_⟩⟩
   ·have s611:=s610.trans s11
    refine ⟨l,xs,F,_,rfl,s6.trans s611,fl,s611 _ _ hl,Paired.mapP pF λ _ _ h=>h.same s611,G,nf,one,λ u hu=>?_⟩
    rcases Nat.lt_or_ge u i with c | c
    ·exact i1 u c
    ·obtain rfl:u = i:=by omega
     exact λ _=>fo.sub (λ x hx=>mem_lessLL.mpr ⟨hx.1,λ z=>hx.2 (by rw [List.mem_singleton.mp z]; exact List.mem_cons_self)⟩) λ _ _ _ _ _ e=>e
   ·have s611:=s610.trans s11
    refine ⟨p10,ws,_,_,rfl,s6.trans s611,s6.free (s68.free (s9.free n10'.fresh)),s11 _ _ n10'.here,Paired.mapP pw λ _ _ h=>h.same s611,Gw,nfo,λ p hp=>one p (mem_lessLL.mp hp).1,λ u hu=>?_⟩
    rcases Nat.lt_or_ge u i with c | c
    ·exact (i1 u c).sub λ p hp=>(mem_lessLL.mp hp).1
    ·obtain rfl:u = i:=by omega
     rintro ⟨p,hp,hv⟩
     obtain ⟨h1,h2⟩:=mem_lessLL.mp hp
     obtain ⟨v,rfl⟩:=one p h1
     rw [List.mem_singleton.mp hv] at h2
     exact absurd List.mem_cons_self h2
  rintro σ H6 ⟨l,xs,F,v2,rfl,s6,fl,hl,pF,G,nf,_,i1⟩
  dsimp only
  have j1:∀ v:Int,0 <= v->v < (n:Int)->I1 ts F v:=λ v v0 v1=>by
   have:=i1 v.toNat (by omega)
   rwa [Int.toNat_of_nonneg v0] at this
  clear i1
  refine ⟨_,rfl,pg,_,_,_,rfl,rfl,s6.tupq hgT,rfl,rt,rfl,⟨_,s6.seq hTx⟩,?_⟩
  refine a3Q (xs:=tx) (λ j σ H'=>∃ (l:Addr) (xs:List V) (F:List (List Int)) (v2 v3 v4:Option V),σ = [some (.ref pg),some (.ref l),v2,v3,v4]/\Same H H'/\H l = none/\H' l = some (.lst xs)/\Paired (PtL H H') xs F/\Prt n ts F/\¬ FoP ts F/\(∀ v:Int,0 <= v->v < (n:Int)->I1 ts F v)/\∀ t ∈ ts.take j,I2 ts F t.1 t.2) ⟨l,xs,F,_,_,_,rfl,s6,fl,hl,pF,G,nf,j1,λ t ht=>absurd ht List.not_mem_nil⟩ (λ j σ H' _ ⟨_,_,_,_,_,_,_,s',_⟩=>s'.seq hTx) ?_ ?_
  ·rintro j x σ H7 hx ⟨l,xs,F,v2,v3,v4,rfl,s7,fl,hl,pF,G,nf,j1,j2⟩
   obtain ⟨t,ht,⟨pt,ept,htp⟩⟩:=a0V pTx hx
   subst ept
   have tm:=List.mem_of_getElem? ht
   have et:ts.take (j + 1) = ts.take j ++ [t]:=by rw [List.take_succ,ht]; rfl
   refine ⟨pt,_,rfl,s7.tupq htp,rfl,_,_,rfl,_,_,rfl,rfl,?_⟩
   refine ⟨_,rfl,_,rfl,_,rfl,_,rfl,H,l,xs,F,t.1,t.2,n,ts,rfl,s7,hl,fl,pF,G,n10,λ l' xs' F' H8 s8 hl' fl' pF' md=>?_⟩
   have put:∀ (F'':List (List Int)),(∀ t ∈ ts.take j,I2 ts F'' t.1 t.2)->I2 ts F'' t.1 t.2->∀ u ∈ ts.take (j + 1),I2 ts F'' u.1 u.2:=λ F'' h1 h2 u hu=>by
    rw [et] at hu
    rcases List.mem_append.mp hu with hu | hu
    ·exact h1 u hu
    ·rw [List.mem_singleton.mp hu]; exact h2
   have adj:Adj ts t.1 t.2:=.inl tm
   have G':Prt n ts F':=by
    cases md with
    | no _=>exact G
    | yes hp hq ne ab=>exact (a8N G n10 hp hq ne (ab.elim (λ z=>⟨_,z.1,_,z.2,.inr adj⟩) λ z=>⟨_,z.1,_,z.2,.inr adj.symm⟩)).1
   refine ⟨_,rfl,.ref pg,n,ts,l',l,xs',F',rfl,hG.same (s7.trans s8),n10,l400,t16,SqL.of hl',Paired.mapP pF' λ _ _ h=>h.l,G',λ H9 s9=>⟨λ fo=>?_,λ nfo=>?_⟩⟩
   ·have s79:=s8.trans s9
    refine ⟨l,xs,F,_,_,_,rfl,s7.trans s79,fl,s79 _ _ hl,Paired.mapP pF λ _ _ h=>h.same s79,G,nf,j1,put F j2 ?_⟩
    cases md with
    | no h=>exact absurd fo nf
    | @yes p q hp hq ne ab =>
     intro r s hr hs ha hb nrs
     have F1:Fo (Ones (λ r=>r ∈ F) p q (a0N p q)) (TR ts):=fo.sub (λ x hx=>mem_oneP.mpr hx) λ _ _ _ _ _ e=>e
     rcases ab with ⟨z1,z2⟩ | ⟨z1,z2⟩
     ·rw [G.same hr hp ha z1,G.same hs hq hb z2]; exact F1
     ·rw [G.same hr hq ha z2,G.same hs hp hb z1]
      exact F1.sub (λ x hx=>hx.elim (λ y=>.inl ⟨y.1,y.2.2,y.2.1⟩) λ y=>.inr (by rw [y,a2B])) λ _ _ _ _ _ e=>e
   ·have s79:=s8.trans s9
    refine ⟨l',xs',F',_,_,_,rfl,s7.trans s79,fl',s9 _ _ hl',Paired.mapP pF' λ _ _ h=>h.same s9,G',nfo,?_,put F' ?_ ?_⟩
    ·cases md with
     | no _=>exact j1
     | yes hp hq ne ab=>exact λ v v0 v1=>(a8N G n10 hp hq ne (ab.elim (λ z=>⟨_,z.1,_,z.2,.inr adj⟩) λ z=>⟨_,z.1,_,z.2,.inr adj.symm⟩)).2.1 v (j1 v v0 v1)
    ·cases md with
     | no _=>exact j2
     | yes hp hq ne ab=>exact λ u hu=>(a8N G n10 hp hq ne (ab.elim (λ z=>⟨_,z.1,_,z.2,.inr adj⟩) λ z=>⟨_,z.1,_,z.2,.inr adj.symm⟩)).2.2 _ _ (j2 u hu)
    ·cases md with
     | no h=>exact λ r s hr hs ha hb nrs=>absurd (h r s hr hs ha hb) nrs
     | @yes p q hp hq ne ab =>
      intro r s hr hs ha hb nrs
      have mj:∀ {v},v ∈ a0N p q ↔ v ∈ p\/v ∈ q:=a2H n10 (G.lt p hp) (G.lt q hq)
      have inJ:t.1 ∈ a0N p q/\t.2 ∈ a0N p q:=by
       rcases ab with ⟨z1,z2⟩ | ⟨z1,z2⟩
       ·exact ⟨mj.mpr (.inl z1),mj.mpr (.inr z2)⟩
       ·exact ⟨mj.mpr (.inr z2),mj.mpr (.inl z1)⟩
      have J:a0N p q ∈ oneP F p q:=mem_oneP.mpr (.inr rfl)
      exact absurd ((G'.same hr J ha inJ.1).trans (G'.same hs J hb inJ.2).symm) nrs
  rintro σ H7 ⟨l,xs,F,v2,v3,v4,rfl,s7,fl,hl,pF,G,nf,j1,j2⟩
  dsimp only
  have ltx:=Paired.length pTx
  rw [ltx,List.take_length] at j2
  obtain ⟨l4,tr⟩:=b3Y G n10 nf j1 j2
  exact ⟨_,rfl,q2 (λ z=>firm (fo_sgl.mpr z)) l xs F H7 s7 fl hl pF G l4 tr⟩
end
end K
namespace K
open PySem L2 Lw Bg
theorem a1L {ts:List ζζ} {x y:Nat} (h:tieT ts x y = true):tieT ts y x = true:=by
 unfold tieT at h ⊢
 rw [Bool.or_comm]; exact h
theorem PathT.symm {ts:List ζζ} {S:List Nat} {x u:Nat} (h:PathT ts S x u):PathT ts S u x:=by
 induction h with
 | one h=>exact .one (a1L h)
 | step p m h ih=>exact PathT.glue m (.one (a1L h)) ih
structure Pcs (ts:List ζζ) (ls:List Nat) (ps:List (List Nat)):Prop where
 sub:∀ p ∈ ps,p.Sublist ls
 ne:∀ p ∈ ps,p ≠ []
 all:∀ x ∈ ls,∃ p ∈ ps,x ∈ p
 dis:ps.Pairwise λ p q=>∀ x ∈ p,x ∉ q
 apart:ps.Pairwise λ p q=>∀ x ∈ p,∀ y ∈ q,tieT ts x y = false
 con:∀ p ∈ ps,∀ x ∈ p,∀ y ∈ p,x = y\/PathT ts p x y
def b9O (ps:List (List Nat)):Prop:=ps.Pairwise λ p q=>p.headD 0 < q.headD 0
abbrev b2S:Stmt:=top 11
theorem sc_pieces:FnScope ["graph", "places", "told", "left", "piece"] ["graph", "places"] (a0E b2S):=⟨rfl,rfl,rfl,by decide +kernel,rfl,by decide +kernel,by decide +kernel⟩
abbrev a5Q:Stmt:=top 12
theorem sc_piece_from:FnScope ["graph", "places", "v", "piece", "more"] ["graph", "places", "v"] (a0E a5Q):=⟨rfl,rfl,rfl,by decide +kernel,rfl,by decide +kernel,by decide +kernel⟩
def a0T (l:List Nat):List Int:=l.map λ (x:Nat)=>(x:Int)
theorem mem_natIp {l:List Nat} {x:Int}:x ∈ a0T l ↔ ∃ u:Nat,u ∈ l/\x = (u:Int):=by
 unfold a0T
 rw [List.mem_map]
 constructor
 ·rintro ⟨u,h,e⟩; exact ⟨u,h,e.symm⟩
 ·rintro ⟨u,h,e⟩; exact ⟨u,h,e.symm⟩
theorem tieT_around {ts:List ζζ} {u v:Nat}:(u:Int) ∈ a0R ts (v:Int) ↔ tieT ts v u = true:=by
 rw [tied_mem]
 unfold tieT
 rw [Bool.or_eq_true,decide_eq_true_iff,decide_eq_true_iff]
 exact or_comm
theorem c3Q {l:List Int} (up:l.Pairwise (· < ·)) (h:∀ x ∈ l,0 <= x):∃ p:List Nat,l = a0T p/\p.Pairwise (· < ·):=by
 have e:l = a0T (l.map Int.toNat):=by
  unfold a0T
  rw [List.map_map]
  conv=>lhs; rw [<- List.map_id l]
  refine List.map_congr_left λ x hx=>?_
  have:=h x hx
  show x = ((x.toNat:Nat):Int)
  omega
 refine ⟨_,e,?_⟩
 refine List.pairwise_map.mpr (List.Pairwise.imp_of_mem (λ {a b} ha hb hab=>?_) up)
 have:=h a ha
 have:=h b hb
 omega
theorem b4B {p ls:List Nat} (up:p.Pairwise (· < ·)) (ul:ls.Pairwise (· < ·)) (h:∀ x ∈ p,x ∈ ls):p.Sublist ls:=by
 have ndp:p.Nodup:=up.imp λ h=>Nat.ne_of_lt h
 have ndl:ls.Nodup:=ul.imp λ h=>Nat.ne_of_lt h
 have e:p = ls.filter λ x=>decide (x ∈ p):=by
  refine List.Perm.eq_of_pairwise (le:=(· < ·)) (λ a b _ _ h1 h2=>by omega) up (ul.sublist List.filter_sublist) ((List.perm_ext_iff_of_nodup ndp (ndl.sublist List.filter_sublist)).mpr λ x=>?_)
  rw [List.mem_filter,decide_eq_true_iff]
  exact ⟨λ hx=>⟨h x hx,hx⟩,λ hx=>hx.2⟩
 rw [e]
 exact List.filter_sublist
theorem pigJ {α:Type} [DecidableEq α]:∀ {l U:List α},l.Nodup->(∀ x ∈ l,x ∈ U)->l.length <= U.length
 | [],_,_,_=>Nat.zero_le _
 | x :: r,U,h,s=>by
  have h':=List.nodup_cons.mp h
  have hx:=s x List.mem_cons_self
  have:=List.length_erase_of_mem hx
  have p:=List.length_pos_of_mem hx
  have ih:=pigJ (l:=r) (U:=U.erase x) h'.2 λ y hy=>(List.mem_erase_of_ne (λ (e:y = x)=>h'.1 (e ▸ hy))).mpr (s y (List.mem_cons_of_mem _ hy))
  rw [List.length_cons]; omega
structure PieceOf (ts:List ζζ) (ls:List Nat) (v:Nat) (p:List Nat):Prop where
 up:p.Pairwise (· < ·)
 mem:∀ y,y ∈ p ↔ y ∈ ls/\(y = v\/PathT ts ls v y)
def b1O (K:Φρ):Sp:=λ vs H Q _=>∃ (g:V) (n:Nat) (ts:List ζζ) (a:Addr) (ls:List Nat) (v:Nat),vs = [g,.ref a,.int (v:Int)]/\GraphV K H g n ts/\(∀ t ∈ ts,0 <= t.1/\t.1 < t.2/\t.2 < (n:Int))/\n <= 10/\ts.length <= 100/\SqL K H a (natV ls)/\ls.Nodup/\(∀ x ∈ ls,x < n)/\v ∈ ls /\
 ∀ r p H',Same H H'->H r = none->H' r = some (.lst (natV p))->PieceOf ts ls v p->Q (.ref r) H'
def PcsN (H H':Hp) (r:Addr) (ps:List (List Nat)):Prop:=∃ qs:List Addr,H' r = some (.lst (qs.map V.ref))/\r ∉ qs/\(∀ q ∈ qs,H q = none)/\Paired (λ q l=>H' q = some (.lst (natV l))) qs ps
def b9P (K:Φρ):Sp:=λ vs H Q _=>∃ (g:V) (n:Nat) (ts:List ζζ) (a:Addr) (ls:List Nat),vs = [g,.ref a]/\GraphV K H g n ts/\(∀ t ∈ ts,0 <= t.1/\t.1 < t.2/\t.2 < (n:Int))/\n <= 10/\ts.length <= 100/\H a = some (.lst (natV ls))/\ls.Pairwise (· < ·)/\(∀ x ∈ ls,x < n) /\
 ∀ r ps H',Same H H'->H r = none->PcsN H H' r ps->Pcs ts ls ps->b9O ps->Q (.ref r) H'
theorem a7R {α β:Type} {F G:α->β->Prop}:∀ {xs:List α} {ys:List β},Paired F xs ys->(∀ x y,x ∈ xs->F x y->G x y)->Paired G xs ys
 | _,_,.nil,_=>.nil
 | _,_,.cons h t,g=>.cons (g _ _ List.mem_cons_self h) (a7R t λ x y hx=>g x y (List.mem_cons_of_mem _ hx))
theorem c6B {K:Φρ} {H H':Hp} {a b:Addr} {xs:List V} {o:HO} (h:SqL K H a xs) (ne:a ≠ b) (c:Chg H b o H'):SqL K H' a xs:=by
 rcases h with (h | ⟨o',h⟩) | h
 ·exact .inl (.inl ((c.rest a ne).trans h))
 ·exact .inl (.inr ⟨o',(c.rest a ne).trans h⟩)
 ·exact .inr h
section
variable {P:Program} {w:World} {K:Φρ} {mg:Str->Option Value} {base:Heap}
abbrev DZ25 (K:PySem.W.Frag) (mg:Str->Option Value):=Dn K mg "piece_from" a5Q ["graph", "places", "v"]
set_option maxHeartbeats 8000000 in
theorem a4P (B:Bl mg) (dZ17:DZ17 K mg) (dZ15:DZ15 K mg) (dZ7:DZ7 K mg) (dZ18:DZ18 K mg) (dZ21:DZ21 K mg) (dZ6:DZ6 K mg) (dZ28:DZ28 K mg) (dZ25:DZ25 K mg):FnOk P w K mg base CX0 5 dZ25.f dZ25.fd ["graph", "places", "v"] (b1O K):=by
 have gZ6:FnOk P w K mg base CX0 4 _ _ _ _:=(a3J B dZ17 dZ15 dZ6).mono (by decide)
 have gZ7:FnOk P w K mg base CX0 4 _ _ _ _:=(a3I B dZ7).mono (by decide)
 have gZ18:FnOk P w K mg base CX0 4 _ _ _ _:=(a8H B dZ18).mono (by decide)
 have gZ28:FnOk P w K mg base CX0 4 _ _ _ _:=c0Y B dZ17 dZ15 dZ21 dZ18 dZ6 dZ28
 refine dZ25.F.ok sc_piece_from (λ vs H Q E h=>?_) (λ cdv A outer s H vs Q E hr h=>?_)
 ·obtain ⟨g,n,ts,a,ls,v,rfl,_⟩:=h
  rfl
 obtain ⟨g,n,ts,a,ls,v,rfl,hG,okt,n10,l100,hA,nd,hn,vl,q⟩:=h
 have vn:=hn v vl
 have t16:∀ t ∈ ts,0 <= t.1/\t.1 < 16/\0 <= t.2/\t.2 < 16:=λ t ht=>by have:=okt t ht; omega
 have hA':∀ {H':Hp},Same H H'->SqL K H' a ((a0T ls).map V.int):=λ {H'} s=>by
  have:=s.seq hA
  rw [a0U] at this
  exact this
 have al:∀ u:Nat,(a0R ts (u:Int)).length <= 1000:=λ u=>by
  unfold a0R
  rw [List.length_append]
  have h1:=List.length_filterMap_le (λ t:Int × Int=>if t.2 = (u:Int) then some t.1 else none) ts
  have h2:=List.length_filterMap_le (λ t:Int × Int=>if t.1 = (u:Int) then some t.2 else none) ts
  omega
 have tn:∀ {x y:Nat},tieT ts x y = true->x ≠ y:=λ {x y} h z=>by
  subst z
  unfold tieT at h
  rw [Bool.or_self] at h
  have:=okt _ (of_decide_eq_true h)
  omega
 refine ⟨_,(a0C (a0J (i:=3) sc_piece_from.nd rfl (Or.inl rfl) (a1M (a0A (pv 2) a0B)))
   (a0C (a0J (i:=4) sc_piece_from.nd rfl (Or.inl rfl) (a0G gZ7 hr rfl dZ7.m dZ7.F.kp dZ7.b .nil a0L (a0A (a0G gZ6 hr rfl dZ6.m dZ6.F.kp dZ6.b .nil a0L (a0A (pv 0) (a0A (pv 2) a0B))) (a0A (pv 1) a0B))))
   (a0C (a4D PassesOwn.never (a0P (K:=K) rfl (pv 4) (λ _=>rfl))
   (a0C (a0J (i:=3) sc_piece_from.nd rfl (Or.inl rfl) (a0G gZ18 hr rfl dZ18.m dZ18.F.kp dZ18.b .nil a0L (a0A (pv 3) (a0A (pv 4) a0B))))
   (a0D (a0J (i:=4) sc_piece_from.nd rfl (Or.inl rfl) (a0G gZ7 hr rfl dZ7.m dZ7.F.kp dZ7.b .nil a0L (a0A (a0G gZ28 hr rfl dZ28.m dZ28.F.kp dZ28.b .nil a0L (a0A (pv 0) (a0A (pv 3) a0B))) (a0A (pv 1) a0B)))))))
   (a0D (a0M (pv 3)))))),?_⟩
 refine ⟨_,rfl,(by show 1 <= 1000; decide),λ p1 H1 n1=>?_⟩
 refine ⟨_,rfl,_,rfl,g,n,ts,v,rfl,hG.same n1.same,by omega,by omega,by omega,λ H2 p3 H3 s2 n3=>?_⟩
 have s13:Same H1 H3:=s2.trans n3.same
 have s03:Same H H3:=n1.same.trans s13
 refine ⟨_,rfl,p3,a,_,_,rfl,SqL.of n3.here,hA' s03,al v,λ H4 p5 H5 s4 n5=>?_⟩
 have s05:Same H H5:=s03.trans (s4.trans n5.same)
 refine ⟨λ m σ H'=>∃ (pp pm:Addr) (P M:List Int),σ = [some g,some (.ref a),some (.int (v:Int)),some (.ref pp),some (.ref pm)]/\Same H H'/\H pp = none/\H' pp = some (.lst (P.map V.int))/\H' pm = some (.lst (M.map V.int))/\M.length <= 1000/\m = ls.length - P.length/\P.Pairwise (· < ·)/\((v:Nat):Int) ∈ P /\
   (∀ x ∈ P,∃ u:Nat,x = (u:Int)/\u ∈ ls/\(u = v\/PathT ts ls v u))/\∀ x,x ∈ M ↔ ∃ u:Nat,x = (u:Int)/\u ∈ ls/\x ∉ P/\∃ y:Nat,(y:Int) ∈ P/\tieT ts y u = true,
  ⟨_,p1,p5,[(v:Int)],_,rfl,s05,n1.fresh,(s13.trans (s4.trans n5.same)) _ _ n1.here,n5.here,Nat.le_trans (List.length_filter_le _ _) (al v),rfl,List.pairwise_singleton _ _,List.mem_singleton.mpr rfl,λ x hx=>⟨v,List.mem_singleton.mp hx,vl,.inl rfl⟩,λ x=>?_⟩,?_⟩
 ·unfold a0Q
  rw [List.mem_filter,decide_eq_true_iff]
  constructor
  ·rintro ⟨h1,h2⟩
   obtain ⟨u,ul,e⟩:=mem_natIp.mp h2
   subst e
   have t:=tieT_around.mp h1
   refine ⟨u,rfl,ul,λ z=>tn t ?_,v,List.mem_singleton.mpr rfl,t⟩
   have:=List.mem_singleton.mp z
   omega
  ·rintro ⟨u,rfl,ul,_,y,hy,t⟩
   have e:=List.mem_singleton.mp hy
   have:y = v:=by omega
   subst this
   exact ⟨tieT_around.mpr t,mem_natIp.mpr ⟨u,ul,rfl⟩⟩
 rintro m σ H6 ⟨pp,pm,P,M,rfl,s6,fpp,hp6,hm6,lM,rfl,up,vP,sP,mM⟩
 refine ⟨_,rfl,_,.inl ⟨_,SqL.of hm6,rfl⟩,?_⟩
 have clo:∀ u,PathT ts ls v u->M = []->u ∈ ls->(u:Int) ∈ P:=λ u pth=>by
  intro eM
  have step:∀ {y u:Nat},(y:Int) ∈ P->u ∈ ls->tieT ts y u = true->(u:Int) ∈ P:=λ {y u} hy hu t=>by
   apply Classical.byContradiction
   intro c
   have:(u:Int) ∈ M:=(mM _).mpr ⟨u,rfl,hu,c,y,hy,t⟩
   rw [eM] at this
   exact absurd this List.not_mem_nil
  induction pth with
  | one t=>exact λ hu=>step vP hu t
  | step _ m t ih=>exact λ hu=>step (ih m) hu t
 by_cases hM:M = []
 ·rw [show (!(M.map V.int).isEmpty) = false by rw [hM]; rfl]
  refine iteF ⟨_,rfl,?_⟩
  obtain ⟨p,ep,pu⟩:=c3Q up λ x hx=>by
   obtain ⟨u,e,_⟩:=sP x hx
   omega
  have hp6':H6 pp = some (.lst (natV p)):=by
   rw [hp6,ep,a0U]; rfl
  refine q pp p H6 s6 fpp hp6' ⟨pu,λ y=>?_⟩
  have inP:(y:Int) ∈ P ↔ y ∈ p:=by
   rw [ep,mem_natIp]
   constructor
   ·rintro ⟨u,hu,e⟩
    have:u = y:=by omega
    rw [<- this]; exact hu
   ·exact λ h=>⟨y,h,rfl⟩
  rw [<- inP]
  constructor
  ·intro h
   obtain ⟨u,e,ul,c⟩:=sP _ h
   have:u = y:=by omega
   subst this
   exact ⟨ul,c⟩
  ·rintro ⟨yl,c⟩
   rcases c with c | c
   ·rw [c]; exact vP
   ·exact clo y c hM yl
 ·have Mne:M ≠ []:=hM
  rw [show (!(M.map V.int).isEmpty) = true by
   cases M with
   | nil=>exact absurd rfl hM
   | cons _ _=>rfl]
  refine iteT ⟨λ σ' H'=>∃ m',m' < ls.length - P.length/\∃ (pp pm:Addr) (P M:List Int),σ' = [some g,some (.ref a),some (.int (v:Int)),some (.ref pp),some (.ref pm)]/\Same H H'/\H pp = none/\H' pp = some (.lst (P.map V.int))/\H' pm = some (.lst (M.map V.int))/\M.length <= 1000/\m' = ls.length - P.length/\P.Pairwise (· < ·)/\((v:Nat):Int) ∈ P /\
   (∀ x ∈ P,∃ u:Nat,x = (u:Int)/\u ∈ ls/\(u = v\/PathT ts ls v u))/\∀ x,x ∈ M ↔ ∃ u:Nat,x = (u:Int)/\u ∈ ls/\x ∉ P/\∃ y:Nat,(y:Int) ∈ P/\tieT ts y u = true,λ σ' H' z=>z,?_⟩
  have smP:a9R P:=λ x hx=>by
   obtain ⟨u,e,ul,_⟩:=sP x hx
   have:=hn u ul
   omega
  have smM:a9R M:=λ x hx=>by
   obtain ⟨u,e,ul,_⟩:=(mM x).mp hx
   have:=hn u ul
   omega
  refine ⟨_,rfl,_,rfl,pp,pm,P,M,rfl,SqL.of hp6,SqL.of hm6,smP,smM,λ H7 p8 H8 s7 n8=>?_⟩
  have s68:Same H6 H8:=s7.trans n8.same
  have s08:=s6.trans s68
  have mJ:∀ x,x ∈ a0N P M ↔ x ∈ P\/x ∈ M:=λ x=>by
   unfold a0N
   rw [mem_upF,decide_eq_true_iff]
   constructor
   ·exact λ h=>h.2.2
   ·intro h
    have:=h.elim (smP x) (smM x)
    exact ⟨this.1,this.2,h⟩
  have sJ:∀ x ∈ a0N P M,∃ u:Nat,x = (u:Int)/\u ∈ ls/\(u = v\/PathT ts ls v u):=λ x hx=>by
   rcases (mJ x).mp hx with h | h
   ·exact sP x h
   ·obtain ⟨u,e,ul,_,y,hy,t⟩:=(mM x).mp h
    refine ⟨u,e,ul,.inr ?_⟩
    obtain ⟨y',ey,yl,c⟩:=sP _ hy
    have:y' = y:=by omega
    subst this
    rcases c with c | c
    ·rw [<- c]; exact .one t
    ·exact .step c yl t
  have rb:∀ x ∈ a0N P M,0 <= x/\x < ((n:Nat):Int):=λ x hx=>by
   obtain ⟨u,e,ul,_⟩:=sJ x hx
   have:=hn u ul
   omega
  refine ⟨_,rfl,_,rfl,g,(n:Int),ts,p8,a0N P M,rfl,hG.same s08,by omega,by omega,t16,SqL.of n8.here,rb,λ H9 p10 H10 s9 n10=>?_⟩
  have s8_10:Same H8 H10:=s9.trans n10.same
  have s0_10:=s08.trans s8_10
  have rl:(rimF ts (a0N P M)).length <= 1000:=by
   unfold rimF a3X
   refine Nat.le_trans (List.length_filter_le _ _) (Nat.le_trans (b1K _) (by decide))
  refine ⟨_,rfl,p10,a,_,_,rfl,SqL.of n10.here,hA' s0_10,rl,λ H11 p12 H12 s11 n12=>?_⟩
  have s8_12:Same H8 H12:=s8_10.trans (s11.trans n12.same)
  have Jlen:P.length < (a0N P M).length:=by
   obtain ⟨z,zr,ez⟩:=List.exists_cons_of_ne_nil Mne
   have zM:z ∈ M:=by rw [ez]; exact List.mem_cons_self
   obtain ⟨_,_,_,zP,_⟩:=(mM z).mp zM
   have ndP:P.Nodup:=up.imp λ h=>Int.ne_of_lt h
   have:=pigJ (l:=z :: P) (U:=a0N P M) (List.nodup_cons.mpr ⟨zP,ndP⟩) λ x hx=>by
    rcases List.mem_cons.mp hx with e | h
    ·rw [e]; exact (mJ z).mpr (.inr zM)
    ·exact (mJ x).mpr (.inl h)
   exact this
  have Jle:(a0N P M).length <= ls.length:=by
   have nd2:(a0N P M).Nodup:=(b5W _).imp λ h=>Int.ne_of_lt h
   have:=pigJ (l:=a0N P M) (U:=a0T ls) nd2 λ x hx=>by
    obtain ⟨u,e,ul,_⟩:=sJ x hx
    exact mem_natIp.mpr ⟨u,ul,e⟩
   unfold a0T at this
   rw [List.length_map] at this
   exact this
  refine ⟨_,by omega,p8,p12,a0N P M,_,rfl,s08.trans s8_12,s6.free (s7.free n8.fresh),s8_12 _ _ n8.here,n12.here,Nat.le_trans (List.length_filter_le _ _) rl,rfl,b5W _,(mJ _).mpr (.inl vP),sJ,λ x=>?_⟩
  unfold a0Q rimF a3X a8I
  rw [List.mem_filter,decide_eq_true_iff,List.mem_filter,mem_upF,List.any_eq_true]
  constructor
  ·rintro ⟨⟨⟨_,_,y,hy,ty⟩,nj⟩,hx⟩
   obtain ⟨u,ul,e⟩:=mem_natIp.mp hx
   subst e
   obtain ⟨y',ey,_⟩:=sJ y hy
   subst ey
   refine ⟨u,rfl,ul,by simpa using nj,y',hy,tieT_around.mp (of_decide_eq_true ty)⟩
  ·rintro ⟨u,rfl,ul,nj,y,hy,t⟩
   have:=hn u ul
   exact ⟨⟨⟨by omega,by omega,(y:Int),hy,decide_eq_true (tieT_around.mpr t)⟩,by simpa using nj⟩,mem_natIp.mpr ⟨u,ul,rfl⟩⟩
abbrev DZ26 (K:PySem.W.Frag) (mg:Str->Option Value):=Dn K mg "pieces" b2S ["graph", "places"]
set_option maxHeartbeats 8000000 in
theorem b7A (B:Bl mg) (dZ17:DZ17 K mg) (dZ15:DZ15 K mg) (dZ7:DZ7 K mg) (dZ18:DZ18 K mg) (dZ21:DZ21 K mg) (dZ6:DZ6 K mg) (dZ28:DZ28 K mg) (dZ25:DZ25 K mg) (dZ26:DZ26 K mg):FnOk P w K mg base CX0 6 dZ26.f dZ26.fd ["graph", "places"] (b9P K):=by
 have gZ25:FnOk P w K mg base CX0 5 _ _ _ _:=a4P B dZ17 dZ15 dZ7 dZ18 dZ21 dZ6 dZ28 dZ25
 have gZ21:FnOk P w K mg base CX0 5 _ _ _ _:=(a5C B dZ21).mono (by decide)
 refine dZ26.F.ok sc_pieces (λ vs H Q E h=>?_) (λ cdv A outer s H vs Q E hr h=>?_)
 ·obtain ⟨g,n,ts,a,ls,rfl,_⟩:=h
  rfl
 obtain ⟨g,n,ts,a,ls,rfl,hG,okt,n10,l100,hA,up,hn,q⟩:=h
 have nd:ls.Nodup:=up.imp λ h=>Nat.ne_of_lt h
 have ll:=a2Z nd hn
 refine ⟨_,(a0C (a0J (i:=2) sc_pieces.nd rfl (Or.inl rfl) (a1M a0B))
   (a0C (a0J (i:=3) sc_pieces.nd rfl (Or.inl rfl) (pv 1))
   (a0C (a4D PassesOwn.never (a0P (K:=K) rfl (pv 3) (λ _=>rfl))
   (a0C (a0J (i:=4) sc_pieces.nd rfl (Or.inl rfl) (a0G gZ25 hr rfl dZ25.m dZ25.F.kp dZ25.b .nil a0L (a0A (pv 0) (a0A (pv 3) (a0A (a0S (a0I (K:=K) rfl) (pv 3) a0F (λ _ _=>rfl)) a0B)))))
   (a0C (a3C (a4I (K:=K) rfl PySem.F.plainAttrs_list PySem.F.slot_list_append PySem.F.type_list_append a3S (pv 2) (a0A (pv 4) a0B)))
   (a0D (a0J (i:=3) sc_pieces.nd rfl (Or.inl rfl) (a0G gZ21 hr rfl dZ21.m dZ21.F.kp dZ21.b .nil a0L (a0A (pv 3) (a0A (pv 4) a0B))))))))
   (a0D (a0M (pv 2)))))),?_⟩
 refine ⟨(by show 0 <= 1000; decide),λ pt H1 n1=>?_⟩
 refine ⟨_,rfl,?_⟩
 refine ⟨λ m σ H'=>∃ (al:Addr) (lf:List Nat) (ps:List (List Nat)) (qs:List Addr) (pp:Option V),σ = [some g,some (.ref a),some (.ref pt),some (.ref al),pp]/\Same H H'/\H' pt = some (.lst (qs.map V.ref))/\pt ∉ qs/\al ≠ pt/\Paired (λ q l=>H' q = some (.lst (natV l))) qs ps/\SqL K H' al (natV lf)/\m = lf.length/\lf.Sublist ls/\qs.length + lf.length <= ls.length /\
   (∀ p ∈ ps,p.Sublist ls/\p ≠ []/\(∀ x ∈ p,∀ y ∈ p,x = y\/PathT ts p x y)/\(∀ x ∈ p,x ∉ lf)/\∀ x ∈ p,∀ y ∈ lf,tieT ts x y = false)/\(∀ x ∈ ls,x ∈ lf\/∃ p ∈ ps,x ∈ p)/\(ps.Pairwise λ p q=>∀ x ∈ p,x ∉ q)/\(ps.Pairwise λ p q=>∀ x ∈ p,∀ y ∈ q,tieT ts x y = false)/\b9O ps/\(∀ p ∈ ps,∀ y ∈ lf,p.headD 0 < y)/\∀ q ∈ qs,H q = none,
  ⟨_,a,ls,[],[],none,rfl,n1.same,n1.here,List.not_mem_nil,?_,.nil,SqL.of (n1.same _ _ hA),rfl,List.Sublist.refl _,by simp,λ p hp=>absurd hp List.not_mem_nil,λ x hx=>.inl hx,.nil,.nil,.nil,λ p hp=>absurd hp List.not_mem_nil,λ q hq=>absurd hq List.not_mem_nil⟩,?_⟩
 ·intro z
  have:=n1.fresh
  rw [<- z,hA] at this
  cases this
 rintro m σ H2 ⟨al,lf,ps,qs,pp,rfl,s2,ht2,nq,alt,pq,hl2,rfl,sub,cnt,pr,all,dis,apa,hds,hlo,fqs⟩
 refine ⟨_,rfl,_,.inl ⟨_,hl2,rfl⟩,?_⟩
 by_cases hlf:lf = []
 ·rw [show (!(natV lf).isEmpty) = false by rw [hlf]; rfl]
  refine iteF ⟨_,rfl,q pt ps H2 s2 n1.fresh ⟨qs,ht2,nq,fqs,pq⟩ ⟨λ p hp=>(pr p hp).1,λ p hp=>(pr p hp).2.1,λ x hx=>?_,dis,apa,λ p hp=>(pr p hp).2.2.1⟩ hds⟩
  rcases all x hx with h | h
  ·rw [hlf] at h; exact absurd h List.not_mem_nil
  ·exact h
 ·rw [show (!(natV lf).isEmpty) = true by
   cases lf with
   | nil=>exact absurd rfl hlf
   | cons _ _=>rfl]
  obtain ⟨v,lr,el⟩:=List.exists_cons_of_ne_nil hlf
  have vl:v ∈ lf:=by rw [el]; exact List.mem_cons_self
  have upf:lf.Pairwise (· < ·):=up.sublist sub
  have ndf:lf.Nodup:=nd.sublist sub
  have at0:atI (natV lf) 0 = some (.int (v:Int)):=by
   have:atI (natV lf) ((0:Nat):Int) = some (.int (v:Int)):=a1F (by rw [el]; rfl)
   exact this
  refine iteT ⟨λ σ' H'=>∃ m',m' < lf.length/\∃ (al:Addr) (lf:List Nat) (ps:List (List Nat)) (qs:List Addr) (pp:Option V),σ' = [some g,some (.ref a),some (.ref pt),some (.ref al),pp]/\Same H H'/\H' pt = some (.lst (qs.map V.ref))/\pt ∉ qs/\al ≠ pt/\Paired (λ q l=>H' q = some (.lst (natV l))) qs ps/\SqL K H' al (natV lf)/\m' = lf.length/\lf.Sublist ls/\qs.length + lf.length <= ls.length /\
   (∀ p ∈ ps,p.Sublist ls/\p ≠ []/\(∀ x ∈ p,∀ y ∈ p,x = y\/PathT ts p x y)/\(∀ x ∈ p,x ∉ lf)/\∀ x ∈ p,∀ y ∈ lf,tieT ts x y = false)/\(∀ x ∈ ls,x ∈ lf\/∃ p ∈ ps,x ∈ p)/\(ps.Pairwise λ p q=>∀ x ∈ p,x ∉ q)/\(ps.Pairwise λ p q=>∀ x ∈ p,∀ y ∈ q,tieT ts x y = false)/\b9O ps/\(∀ p ∈ ps,∀ y ∈ lf,p.headD 0 < y)/\∀ q ∈ qs,H q = none,λ σ' H' z=>z,?_⟩
  refine ⟨_,rfl,_,rfl,_,rfl,al,_,_,_,rfl,rfl,hl2,at0,g,n,ts,al,lf,v,rfl,hG.same s2,okt,n10,l100,hl2,ndf,λ x hx=>hn x (sub.subset hx),vl,λ pr3 p H3 s3 f3 h3 PO=>?_⟩
  have vp:v ∈ p:=(PO.mem v).mpr ⟨vl,.inl rfl⟩
  have s03:=s2.trans s3
  have ht3:=s3 _ _ ht2
  have lq2:=Paired.length pq
  refine ⟨_,rfl,.inl ⟨rfl,_,SqL.of ht3⟩,_,rfl,pt,_,_,rfl,rfl,ht3,by rw [List.length_map]; omega,λ H4 c4=>?_⟩
  have s04:Same H H4:=s03.chg n1.fresh c4
  have p3t:pr3 ≠ pt:=λ z=>by
   rw [z,ht2] at f3
   cases f3
  have h4:H4 pr3 = some (.lst (natV p)):=(c4.rest pr3 p3t).trans h3
  have hl4:SqL K H4 al (natV lf):=c6B (s3.seq hl2) alt c4
  have hl4':SqL K H4 al ((a0T lf).map V.int):=by rw [a0U] at hl4; exact hl4
  have h4':SqL K H4 pr3 ((a0T p).map V.int):=by
   have:=SqL.of (K:=K) h4
   rw [a0U] at this
   exact this
  have lfl:lf.length <= 10:=by have:=sub.length_le; omega
  refine ⟨_,rfl,_,rfl,al,pr3,_,_,rfl,hl4',h4',by unfold a0T; rw [List.length_map]; omega,λ H5 p6 H6 s5 n6=>?_⟩
  have s46:Same H4 H6:=s5.trans n6.same
  have e6:a3X (a0T lf) (a0T p) = a0T (lf.filter λ x=>!decide (x ∈ p)):=by
   unfold a3X a0T
   rw [List.filter_map]
   refine congrArg _ (List.filter_congr λ x _=>?_)
   show (!decide ((x:Int) ∈ p.map λ (y:Nat)=>(y:Int))) = _
   rw [show decide ((x:Int) ∈ p.map λ (y:Nat)=>(y:Int)) = decide (x ∈ p) from decide_eq_decide.mpr (by
    rw [List.mem_map]
    constructor
    ·rintro ⟨y,hy,e⟩
     have:y = x:=by omega
     rw [<- this]; exact hy
    ·exact λ h=>⟨x,h,rfl⟩)]
  have h6:H6 p6 = some (.lst (natV (lf.filter λ x=>!decide (x ∈ p)))):=by
   rw [n6.here,e6,a0U]; rfl
  have p6t:p6 ≠ pt:=λ z=>by
   have:=n6.fresh
   rw [z,s5 _ _ c4.here] at this
   cases this
  have lf':(lf.filter λ x=>!decide (x ∈ p)).length < lf.length:=by
   have:=List.length_filter_lt_length_iff_exists (l:=lf) (p:=λ x=>!decide (x ∈ p))
   refine this.mpr ⟨v,vl,?_⟩
   rw [decide_eq_true vp]; exact Bool.false_ne_true
  have subp:p.Sublist lf:=b4B PO.up upf λ x hx=>((PO.mem x).mp hx).1
  have mf:∀ x,(x ∈ lf.filter λ x=>!decide (x ∈ p)) ↔ x ∈ lf/\x ∉ p:=λ x=>by rw [List.mem_filter]; simp
  have headP:p.headD 0 = v:=by
   obtain ⟨x,r,ex⟩:=List.exists_cons_of_ne_nil (List.ne_nil_of_mem vp)
   have xl:x ∈ lf:=subp.subset (by rw [ex]; exact List.mem_cons_self)
   have h1:v <= x:=by
    rw [el] at xl
    rcases List.mem_cons.mp xl with c | c
    ·omega
    ·have:=(List.pairwise_cons.mp (el ▸ upf)).1 x c; omega
   have h2:x <= v:=by
    have vp':=vp
    rw [ex] at vp'
    rcases List.mem_cons.mp vp' with c | c
    ·omega
    ·have:=(List.pairwise_cons.mp (ex ▸ PO.up)).1 v c; omega
   rw [ex]
   show x = v
   omega
  have inP:∀ u,PathT ts lf v u->PathT ts p v u:=λ u pth=>by
   induction pth with
   | one t=>exact .one t
   | step q m t ih=>exact .step ih ((PO.mem _).mpr ⟨m,.inr q⟩) t
  have conv:∀ x ∈ p,x = v\/PathT ts p v x:=λ x hx=>((PO.mem x).mp hx).2.imp id (inP x)
  refine ⟨_,lf',p6,lf.filter λ x=>!decide (x ∈ p),ps ++ [p],qs ++ [pr3],_,rfl,s04.trans s46,?_,?_,p6t,?_,SqL.of h6,rfl,List.filter_sublist.trans sub,?_,?_,?_,?_,?_,?_,?_,?_⟩
  ·rw [s46 _ _ c4.here,List.map_append]; rfl
  ·intro z
   rcases List.mem_append.mp z with z | z
   ·exact nq z
   ·exact p3t (List.mem_singleton.mp z).symm
  ·refine a1P (a7R pq λ q l hq h=>s46 _ _ ((c4.rest q λ z=>nq (by rw [<- z]; exact hq)).trans (s3 _ _ h))) (s46 _ _ h4)
  ·rw [List.length_append]
   show qs.length + 1 + _ <= _
   omega
  ·intro q hq
   rcases List.mem_append.mp hq with hq | hq
   ·obtain ⟨a1,a2,a3,a4,a5⟩:=pr q hq
    exact ⟨a1,a2,a3,λ x hx z=>a4 x hx ((mf x).mp z).1,λ x hx y hy=>a5 x hx y ((mf y).mp hy).1⟩
   ·rw [List.mem_singleton.mp hq]
    refine ⟨subp.trans sub,List.ne_nil_of_mem vp,λ x hx y hy=>?_,λ x hx z=>((mf x).mp z).2 hx,λ x hx y hy=>?_⟩
    ·by_cases c:x = y
     ·exact .inl c
     ·refine .inr ?_
      rcases conv x hx with e | p1
      ·rcases conv y hy with e' | p2
       ·exact absurd (e.trans e'.symm) c
       ·rw [e]; exact p2
      ·rcases conv y hy with e' | p2
       ·rw [e']; exact p1.symm
       ·exact PathT.glue vp p1.symm p2
    ·obtain ⟨yl,yp⟩:=(mf y).mp hy
     cases t:tieT ts x y with
     | false=>rfl
     | true =>
      refine absurd ((PO.mem y).mpr ⟨yl,.inr ?_⟩) yp
      obtain ⟨xl,c⟩:=(PO.mem x).mp hx
      rcases c with c | c
      ·rw [<- c]; exact .one t
      ·exact .step c xl t
  ·intro x hx
   rcases all x hx with h | ⟨q,hq,h⟩
   ·by_cases c:x ∈ p
    ·exact .inr ⟨p,List.mem_append_right _ (List.mem_singleton.mpr rfl),c⟩
    ·exact .inl ((mf x).mpr ⟨h,c⟩)
   ·exact .inr ⟨q,List.mem_append_left _ hq,h⟩
  ·refine List.pairwise_append.mpr ⟨dis,List.pairwise_singleton _ _,λ q hq r hr x hx z=>?_⟩
   rw [List.mem_singleton.mp hr] at z
   exact (pr q hq).2.2.2.1 x hx (subp.subset z)
  ·refine List.pairwise_append.mpr ⟨apa,List.pairwise_singleton _ _,λ q hq r hr x hx y hy=>?_⟩
   rw [List.mem_singleton.mp hr] at hy
   exact (pr q hq).2.2.2.2 x hx y (subp.subset hy)
  ·refine List.pairwise_append.mpr ⟨hds,List.pairwise_singleton _ _,λ q hq r hr=>?_⟩
   rw [List.mem_singleton.mp hr,headP]
   exact hlo q hq v vl
  ·intro q hq y hy
   obtain ⟨yl,yp⟩:=(mf y).mp hy
   rcases List.mem_append.mp hq with hq | hq
   ·exact hlo q hq y yl
   ·rw [List.mem_singleton.mp hq,headP]
    rw [el] at yl
    rcases List.mem_cons.mp yl with c | c
    ·exact absurd (c ▸ vp) yp
    ·exact (List.pairwise_cons.mp (el ▸ upf)).1 y c
  ·intro q hq
   rcases List.mem_append.mp hq with hq | hq
   ·exact fqs q hq
   ·rw [List.mem_singleton.mp hq]; exact s2.free f3
end
end K
namespace K
open PySem L2 Lw Bg
def b0D (ts:List ζζ):Prop:=∀ S:List Nat,S ≠ []->∃ v ∈ S,∀ a ∈ S,∀ b ∈ S,tieT ts v a = true->tieT ts v b = true->a = b
inductive Way (ts:List ζζ) (x:Nat):List Nat->Prop
 | one:Way ts x [x]
 | step {y z:Nat} {l:List Nat} (w:Way ts x (y :: l)) (t:tieT ts y z = true) (n:z ∉ y :: l):Way ts x (z :: y :: l)
theorem Way.suffix {ts:List ζζ} {x z:Nat} {l:List Nat} (h:Way ts x l):z ∈ l->∃ l',Way ts x (z :: l')/\∀ y ∈ z :: l',y ∈ l:=by
 induction h with
 | one =>
  intro hz
  obtain rfl:=List.mem_singleton.mp hz
  exact ⟨[],.one,λ y hy=>hy⟩
 | step w t n ih =>
  intro hz
  rcases List.mem_cons.mp hz with e | hz
  ·subst e
   exact ⟨_,.step w t n,λ y hy=>hy⟩
  ·obtain ⟨l',h1,h2⟩:=ih hz
   exact ⟨l',h1,λ y hy=>List.mem_cons_of_mem _ (h2 y hy)⟩
theorem c6C {ts:List ζζ} {S:List Nat} {x u:Nat} (hx:x ∈ S) (h:PathT ts S x u):u ∈ S->∃ l,Way ts x (u :: l)/\∀ y ∈ u :: l,y ∈ S:=by
 have go:∀ {w u:Nat} {l:List Nat},Way ts x (w :: l)->(∀ y ∈ w :: l,y ∈ S)->tieT ts w u = true->u ∈ S->∃ l,Way ts x (u :: l)/\∀ y ∈ u :: l,y ∈ S:=λ {w u l} a b t hu=>by
  by_cases c:u ∈ w :: l
  ·obtain ⟨l',h1,h2⟩:=a.suffix c
   exact ⟨l',h1,λ y hy=>b y (h2 y hy)⟩
  ·refine ⟨w :: l,.step a t c,λ y hy=>?_⟩
   rcases List.mem_cons.mp hy with e | hy
   ·rw [e]; exact hu
   ·exact b y hy
 induction h with
 | one t=>exact λ hu=>go .one (λ y hy=>by rw [List.mem_singleton.mp hy]; exact hx) t hu
 | step p m t ih =>
  intro hu
  obtain ⟨l,h1,h2⟩:=ih m
  exact go h1 h2 t hu
theorem Way.deg {ts:List ζζ} {x:Nat} {L:List Nat} (h:Way ts x L):∀ {z:Nat} {l:List Nat},L = z :: l->∀ w,w ∉ L->tieT ts w z = true->∀ y ∈ L,y ≠ x->∃ a b,a ∈ w :: L/\b ∈ w :: L/\a ≠ b/\tieT ts y a = true/\tieT ts y b = true:=by
 induction h with
 | one=>exact λ _ w _ _ y hy ne=>absurd (List.mem_singleton.mp hy) ne
 | @step y0 z0 l0 w0 t n ih =>
  intro z l e w hw tw y hy ne
  injection e with e1 e2
  subst e1
  rcases List.mem_cons.mp hy with e | hy
  ·subst e
   refine ⟨w,y0,List.mem_cons_self,List.mem_cons_of_mem _ (List.mem_cons_of_mem _ List.mem_cons_self),λ z=>hw ?_,a1L tw,a1L t⟩
   rw [z]
   exact List.mem_cons_of_mem _ List.mem_cons_self
  ·obtain ⟨a,b,ha,hb,c⟩:=ih rfl z0 n (a1L t) y hy ne
   exact ⟨a,b,List.mem_cons_of_mem _ ha,List.mem_cons_of_mem _ hb,c⟩
theorem Way.last {ts:List ζζ} {x:Nat} {L:List Nat} (h:Way ts x L):x ∈ L:=by
 induction h with
 | one=>exact List.mem_singleton.mpr rfl
 | step w t n ih=>exact List.mem_cons_of_mem _ ih
theorem Way.beside {ts:List ζζ} {x:Nat} {L:List Nat} (h:Way ts x L):∀ {z:Nat} {l:List Nat},L = z :: l->z ≠ x->∃ a,a ∈ L/\tieT ts x a = true:=by
 induction h with
 | one=>exact λ e ne=>absurd (List.cons.inj e).1.symm ne
 | @step y0 z0 l0 w0 t n ih =>
  intro z l e ne
  by_cases c:y0 = x
  ·subst c
   exact ⟨z0,List.mem_cons_self,t⟩
  ·obtain ⟨a,ha,ta⟩:=ih rfl c
   exact ⟨a,List.mem_cons_of_mem _ ha,ta⟩
theorem c6D {ts:List ζζ} (W:b0D ts) {S:List Nat} {v u u':Nat} (hv:v ∉ S) (hu:u ∈ S) (hu':u' ∈ S) (p:u = u'\/PathT ts S u u') (t:tieT ts v u = true) (t':tieT ts v u' = true):u = u':=by
 rcases p with e | p
 ·exact e
 refine Classical.byContradiction λ ne=>?_
 obtain ⟨l,h,sub⟩:=c6C hu p hu'
 have vn:v ∉ u' :: l:=λ z=>hv (sub v z)
 obtain ⟨y,hy,un⟩:=W (v :: u' :: l) (List.cons_ne_nil _ _)
 by_cases c:y = v
 ·subst c
  exact ne (un u (List.mem_cons_of_mem _ h.last) u' (List.mem_cons_of_mem _ List.mem_cons_self) t t')
 have hy':y ∈ u' :: l:=(List.mem_cons.mp hy).resolve_left c
 by_cases d:y = u
 ·subst d
  obtain ⟨a,ha,ta⟩:=h.beside rfl (Ne.symm ne)
  have:=un v List.mem_cons_self a (List.mem_cons_of_mem _ ha) (a1L t) ta
  rw [this] at vn
  exact vn ha
 ·obtain ⟨a,b,ha,hb,nab,ta,tb⟩:=h.deg rfl v vn t' y hy' d
  exact nab (un a ha b hb ta tb)
abbrev b7B (ts:List ζζ) (p:List Nat) (h v:Nat) (hm:List Nat):Prop:=PieceOf ts (p.filter λ x=>!decide (x = v)) h hm
theorem mem_wo {p:List Nat} {v y:Nat}:y ∈ p.filter (λ x=>!decide (x = v)) ↔ y ∈ p/\y ≠ v:=by
 rw [List.mem_filter]
 simp
abbrev b2T:Stmt:=top 23
theorem sc_ringed:FnScope ["graph", "left", "loose"] ["graph"] (a0E b2T):=⟨rfl,rfl,rfl,by decide +kernel,rfl,by decide +kernel,by decide +kernel⟩
abbrev a4Q:Stmt:=top 24
theorem a6X:FnScope ["graph", "left"] ["graph", "left"] (a0E a4Q):=⟨rfl,rfl,rfl,by decide +kernel,rfl,by decide +kernel,by decide +kernel⟩
abbrev b7C:Stmt:=top 26
theorem sc_up_to:FnScope ["graph", "piece", "v", "home"] ["graph", "piece", "v"] (a0E b7C):=⟨rfl,rfl,rfl,by decide +kernel,rfl,by decide +kernel,by decide +kernel⟩
theorem b0E {ts:List ζζ} {n:Nat} (ok:∀ t ∈ ts,0 <= t.1/\t.1 < t.2/\t.2 < (n:Int)) (nd:ts.Nodup) (v:Int):(a0R ts v).Nodup:=by
 unfold a0R
 have fm:∀ (f:Int × Int->Option Int),(∀ a b c,f a = some c->f b = some c->a = b)->(ts.filterMap f).Nodup:=λ f hf=>by
  refine List.Pairwise.filterMap f (λ {a a'} ne b hb b' hb' e=>ne ?_) nd
  subst e
  exact hf a a' b hb hb'
 refine List.nodup_append.mpr ⟨fm _ λ a b c ha hb=>?_,fm _ λ a b c ha hb=>?_,λ a ha b hb e=>?_⟩
 ·split at ha
  ·split at hb
   ·rename_i e1 e2
    injection ha with ha
    injection hb with hb
    exact Prod.ext (ha.trans hb.symm) (e1.trans e2.symm)
   ·cases hb
  ·cases ha
 ·split at ha
  ·split at hb
   ·rename_i e1 e2
    injection ha with ha
    injection hb with hb
    exact Prod.ext (e1.trans e2.symm) (ha.trans hb.symm)
   ·cases hb
  ·cases ha
 ·subst e
  obtain ⟨s,hs,es⟩:=List.mem_filterMap.mp ha
  obtain ⟨t,ht,et⟩:=List.mem_filterMap.mp hb
  have o1:=ok s hs
  have o2:=ok t ht
  split at es
  ·split at et
   ·injection es with es
    injection et with et
    omega
   ·cases et
  ·cases es
def a1H (ts:List ζζ) (ls:List Nat) (v:Nat):Bool:=decide ((a0Q (a0R ts (v:Int)) (a0T ls)).length < 2)
theorem a3M {ts:List ζζ} {n:Nat} (ok:∀ t ∈ ts,0 <= t.1/\t.1 < t.2/\t.2 < (n:Int)) (nd:ts.Nodup) (ls:List Nat) (v:Nat):a1H ts ls v = true ↔ ∀ a ∈ ls,∀ b ∈ ls,tieT ts v a = true->tieT ts v b = true->a = b:=by
 unfold a1H
 rw [decide_eq_true_iff]
 have mem:∀ x:Nat,(x:Int) ∈ a0Q (a0R ts (v:Int)) (a0T ls) ↔ tieT ts v x = true/\x ∈ ls:=λ x=>by
  unfold a0Q
  rw [List.mem_filter,decide_eq_true_iff,tieT_around]
  refine and_congr_right λ _=>?_
  rw [mem_natIp]
  constructor
  ·rintro ⟨u,hu,e⟩
   have:u = x:=by omega
   rw [<- this]; exact hu
  ·exact λ h=>⟨x,h,rfl⟩
 have nd':(a0Q (a0R ts (v:Int)) (a0T ls)).Nodup:=(b0E ok nd _).sublist List.filter_sublist
 constructor
 ·intro h a ha b hb ta tb
  refine Classical.byContradiction λ ne=>?_
  have:=pigJ (l:=[(a:Int),(b:Int)]) (U:=a0Q (a0R ts (v:Int)) (a0T ls)) (by simp; omega) λ x hx=>by
   rcases List.mem_cons.mp hx with e | hx
   ·rw [e]; exact (mem a).mpr ⟨ta,ha⟩
   ·rw [List.mem_singleton.mp hx]; exact (mem b).mpr ⟨tb,hb⟩
  simp at this
  omega
 ·intro h
  rcases e:a0Q (a0R ts (v:Int)) (a0T ls) with _ | ⟨x,_ | ⟨y,r⟩⟩
  ·simp
  ·simp
  ·exfalso
   have nat:∀ z ∈ a0Q (a0R ts (v:Int)) (a0T ls),∃ u:Nat,z = (u:Int):=λ z hz=>by
    unfold a0Q at hz
    obtain ⟨u,_,e⟩:=mem_natIp.mp (of_decide_eq_true (List.mem_filter.mp hz).2)
    exact ⟨u,e⟩
   have hx:x ∈ a0Q (a0R ts (v:Int)) (a0T ls):=by rw [e]; exact List.mem_cons_self
   have hy:y ∈ a0Q (a0R ts (v:Int)) (a0T ls):=by rw [e]; exact List.mem_cons_of_mem _ List.mem_cons_self
   obtain ⟨a,rfl⟩:=nat x hx
   obtain ⟨b,rfl⟩:=nat y hy
   obtain ⟨ta,ha⟩:=(mem a).mp hx
   obtain ⟨tb,hb⟩:=(mem b).mp hy
   have:=h a ha b hb ta tb
   rw [e,this] at nd'
   exact (List.nodup_cons.mp nd').1 List.mem_cons_self
theorem a2U {ts:List ζζ} (l:ts.length <= 100) (v:Int):(a0R ts v).length <= 1000:=by
 unfold a0R
 rw [List.length_append]
 have h1:=List.length_filterMap_le (λ t:Int × Int=>if t.2 = v then some t.1 else none) ts
 have h2:=List.length_filterMap_le (λ t:Int × Int=>if t.1 = v then some t.2 else none) ts
 omega
def c3R (K:Φρ):Sp:=λ vs H Q _=>∃ (g:V) (n:Nat) (ts:List ζζ) (a:Addr) (ls:List Nat),vs = [g,.ref a]/\GraphV K H g n ts/\n <= 10/\ts.length <= 100/\SqL K H a (natV ls)/\ls.length <= 10/\(∀ x ∈ ls,x < n) /\
 ∀ H0 p H',Same H H0->New H0 p (.lst (natV (ls.filter (a1H ts ls)))) H'->Q (.ref p) H'
structure Core (ts:List ζζ) (n:Nat) (lf:List Nat):Prop where
 sub:lf.Sublist (List.range n)
 two:∀ v ∈ lf,a1H ts lf v = false
 all:∀ S:List Nat,(∀ v ∈ S,v < n/\a1H ts S v = false)->∀ v ∈ S,v ∈ lf
def b9Q (K:Φρ):Sp:=λ vs H Q _=>∃ (g:V) (n:Nat) (ts:List ζζ),vs = [g]/\GraphV K H g n ts/\(∀ t ∈ ts,0 <= t.1/\t.1 < t.2/\t.2 < (n:Int))/\ts.Nodup/\n <= 10/\ts.length <= 100 /\
 ∀ r lf H',Same H H'->H r = none->H' r = some (.lst (natV lf))->Core ts n lf->Q (.ref r) H'
theorem a7S (lf p:List Nat):a3X (a0T lf) (a0T p) = a0T (lf.filter λ x=>!decide (x ∈ p)):=by
 unfold a3X a0T
 rw [List.filter_map]
 refine congrArg _ (List.filter_congr λ x _=>?_)
 show (!decide ((x:Int) ∈ p.map λ (y:Nat)=>(y:Int))) = _
 rw [show decide ((x:Int) ∈ p.map λ (y:Nat)=>(y:Int)) = decide (x ∈ p) from decide_eq_decide.mpr (by
  rw [List.mem_map]
  constructor
  ·rintro ⟨y,hy,e⟩
   have:y = x:=by omega
   rw [<- this]; exact hy
  ·exact λ h=>⟨x,h,rfl⟩)]
def c6E (K:Φρ):Sp:=λ vs H Q _=>∃ (g:V) (n:Nat) (ts:List ζζ) (a:Addr) (p:List Nat) (h v:Nat),vs = [g,.ref a,.int (v:Int)]/\GraphV K H g n ts/\(∀ t ∈ ts,0 <= t.1/\t.1 < t.2/\t.2 < (n:Int))/\n <= 10/\ts.length <= 100/\SqL K H a (natV p)/\p.Pairwise (· < ·)/\(∀ x ∈ p,x < n)/\h = p.headD 0/\v ∈ p/\v ≠ h/\(∀ x ∈ p,∀ y ∈ p,x = y\/PathT ts p x y) /\
 ∀ u hm H',Same H H'->b7B ts p h v hm->u ∈ hm->tieT ts v u = true->Q (.int ((u:Nat):Int)) H'
section
variable {P:Program} {w:World} {K:Φρ} {mg:Str->Option Value} {base:Heap}
abbrev DZ22 (K:PySem.W.Frag) (mg:Str->Option Value):=Dn K mg "loose_among" a4Q ["graph", "left"]
set_option maxHeartbeats 8000000 in
theorem a6Y (B:Bl mg) (dZ17:DZ17 K mg) (dZ15:DZ15 K mg) (dZ7:DZ7 K mg) (dZ6:DZ6 K mg) (dZ22:DZ22 K mg):FnOk P w K mg base CX0 4 dZ22.f dZ22.fd ["graph", "left"] (c3R K):=by
 have gZ6:FnOk P w K mg base CX0 3 _ _ _ _:=a3J B dZ17 dZ15 dZ6
 have gZ7:FnOk P w K mg base CX0 3 _ _ _ _:=(a3I B dZ7).mono (by decide)
 refine dZ22.F.ok a6X (λ vs H Q E h=>?_) (λ cdv A outer s H vs Q E hr h=>?_)
 ·obtain ⟨g,n,ts,a,ls,rfl,_⟩:=h
  rfl
 obtain ⟨g,n,ts,a,ls,rfl,hG,n10,l100,hA,l10,hn,q⟩:=h
 refine ⟨_,(a0D (a0M (a9K ["v", "left", "graph"] [none,some 1,some 0]  (by kernel_rfl) rfl (a1G (K:=K) rfl (pv 1)) (λ _ _ _ _ _=>(a0H (i:=0) (show (["v", "left", "graph"]:List Str).Nodup by decide +kernel) rfl (Or.inl rfl))) (λ _ _ _ _ _=>(a2P (a1C b3F (a0K (a1E (K:=K) rfl) rfl B.len (by decide +kernel) (a0A (a0G gZ7 hr rfl dZ7.m dZ7.F.kp dZ7.b .nil a0L (a0A (a0G gZ6 hr rfl dZ6.m dZ6.F.kp dZ6.b .nil a0L (a0A (pv 2) (a0A (pv 0) a0B))) (a0A (pv 1) a0B))) a0B)) a0F (a1N _)))) (λ _ _ _ _ _=>(pv 0))))),?_⟩
 refine ⟨_,rfl,a,rfl,⟨_,hA⟩,?_⟩
 refine b2B (λ x=>match x with | .int z=>if a1H ts ls z.toNat then some (.int z) else none | _=>none) hA (by rw [a1U]; omega) (λ x H1 N hx s1 hN=>?_) (λ H1 p H2 s1 n2=>?_)
 ·obtain ⟨v,hv,rfl⟩:=List.mem_map.mp hx
  dsimp only at hN
  rw [Int.toNat_natCast] at hN
  have vn:=hn v hv
  have hA1:∀ {H':Hp},Same H H'->SqL K H' a ((a0T ls).map V.int):=λ {H'} s=>by
   have:=s.seq hA
   rw [a0U] at this
   exact this
  refine ⟨_,rfl,_,rfl,g,n,ts,v,rfl,hG.same s1,by omega,by omega,by omega,λ H2 p3 H3 s2 n3=>?_⟩
  have s03:=s1.trans (s2.trans n3.same)
  refine ⟨_,rfl,p3,a,_,_,rfl,SqL.of n3.here,hA1 s03,a2U l100 _,λ H4 p5 H5 s4 n5=>?_⟩
  have s05:=s03.trans (s4.trans n5.same)
  refine ⟨p5,_,rfl,.inl (SqL.of n5.here),_,_,rfl,rfl,_,rfl,?_⟩
  have e:decide ((((a0Q (a0R ts (v:Int)) (a0T ls)).map V.int).length:Int) < 2) = a1H ts ls v:=by
   unfold a1H
   rw [List.length_map]
   exact decide_eq_decide.mpr (by omega)
  have hN':=hN H5 s05
  rw [e]
  cases c:a1H ts ls v with
  | true=>rw [c] at hN'; exact iteT ⟨_,rfl,hN'⟩
  | false=>rw [c] at hN'; exact iteF hN'
 ·rw [b6F (p:=a1H ts ls) λ x _=>by dsimp only; rw [Int.toNat_natCast]] at n2
  exact q _ _ _ s1 n2
abbrev DZ30 (K:PySem.W.Frag) (mg:Str->Option Value):=Dn K mg "ringed" b2T ["graph"]
set_option maxHeartbeats 8000000 in
theorem b0F (B:Bl mg) (dZ17:DZ17 K mg) (dZ15:DZ15 K mg) (dZ7:DZ7 K mg) (dZ21:DZ21 K mg) (dZ6:DZ6 K mg) (dZ22:DZ22 K mg) (dZ30:DZ30 K mg):FnOk P w K mg base CX0 5 dZ30.f dZ30.fd ["graph"] (b9Q K):=by
 have gZ22:FnOk P w K mg base CX0 4 _ _ _ _:=a6Y B dZ17 dZ15 dZ7 dZ6 dZ22
 have gZ21:FnOk P w K mg base CX0 4 _ _ _ _:=(a5C B dZ21).mono (by decide)
 refine dZ30.F.ok sc_ringed (λ vs H Q E h=>?_) (λ cdv A outer s H vs Q E hr h=>?_)
 ·obtain ⟨g,n,ts,rfl,_⟩:=h
  rfl
 obtain ⟨g,n,ts,rfl,hG,okt,nd,n10,l100,q⟩:=h
 obtain ⟨pg,ta,rfl,hP,hT⟩:=id hG
 refine ⟨_,(a0C (a0J (i:=1) sc_ringed.nd rfl (Or.inl rfl) (a5Z rfl B.list B.range (a0A (a0S (a1K (K:=K) rfl) (pv 0) a0F (λ _ _=>rfl)) a0B)))
   (a0C (a0J (i:=2) sc_ringed.nd rfl (Or.inl rfl) (a0G gZ22 hr rfl dZ22.m dZ22.F.kp dZ22.b .nil a0L (a0A (pv 0) (a0A (pv 1) a0B))))
   (a0C (a4D PassesOwn.never (a0P (K:=K) rfl (pv 2) (λ _=>rfl))
   (a0C (a0J (i:=1) sc_ringed.nd rfl (Or.inl rfl) (a0G gZ21 hr rfl dZ21.m dZ21.F.kp dZ21.b .nil a0L (a0A (pv 1) (a0A (pv 2) a0B))))
   (a0D (a0J (i:=2) sc_ringed.nd rfl (Or.inl rfl) (a0G gZ22 hr rfl dZ22.m dZ22.F.kp dZ22.b .nil a0L (a0A (pv 0) (a0A (pv 1) a0B)))))))
   (a0D (a0M (pv 1)))))),?_⟩
 refine ⟨_,rfl,pg,_,_,_,rfl,rfl,hP,rfl,n,rfl,by omega,λ p1 H1 n1=>?_⟩
 refine ⟨_,rfl,_,rfl,.ref pg,n,ts,p1,List.range n,rfl,hG.same n1.same,n10,l100,SqL.of n1.here,by rw [List.length_range]; exact n10,λ x hx=>List.mem_range.mp hx,λ H2 p3 H3 s2 n3=>?_⟩
 refine ⟨λ m σ H'=>∃ (pl pq:Addr) (lf:List Nat),σ = [some (.ref pg),some (.ref pl),some (.ref pq)]/\Same H H'/\H pl = none/\H' pl = some (.lst (natV lf))/\H' pq = some (.lst (natV (lf.filter (a1H ts lf))))/\m = lf.length/\lf.Sublist (List.range n)/\∀ S:List Nat,(∀ v ∈ S,v < n/\a1H ts S v = false)->∀ v ∈ S,v ∈ lf,
  ⟨_,p1,p3,List.range n,rfl,n1.same.trans (s2.trans n3.same),n1.fresh,(s2.trans n3.same) _ _ n1.here,n3.here,rfl,List.Sublist.refl _,λ S hS v hv=>List.mem_range.mpr (hS v hv).1⟩,?_⟩
 rintro m σ H4 ⟨pl,pq,lf,rfl,s4,f4,h4,h4',rfl,sub,all⟩
 refine ⟨_,rfl,_,.inl ⟨_,SqL.of h4',rfl⟩,?_⟩
 by_cases c:lf.filter (a1H ts lf) = []
 ·rw [show (!(natV (lf.filter (a1H ts lf))).isEmpty) = false by rw [c]; rfl]
  refine iteF ⟨_,rfl,q pl lf H4 s4 f4 h4 ⟨sub,λ v hv=>?_,all⟩⟩
  cases e:a1H ts lf v with
  | false=>rfl
  | true =>
   have:=List.mem_filter.mpr ⟨hv,e⟩
   rw [c] at this
   exact absurd this List.not_mem_nil
 ·rw [show (!(natV (lf.filter (a1H ts lf))).isEmpty) = true by
   cases e:lf.filter (a1H ts lf) with
   | nil=>exact absurd e c
   | cons _ _=>rfl]
  refine iteT ⟨λ σ' H'=>∃ m',m' < lf.length/\∃ (pl pq:Addr) (lf:List Nat),σ' = [some (.ref pg),some (.ref pl),some (.ref pq)]/\Same H H'/\H pl = none/\H' pl = some (.lst (natV lf))/\H' pq = some (.lst (natV (lf.filter (a1H ts lf))))/\m' = lf.length/\lf.Sublist (List.range n)/\∀ S:List Nat,(∀ v ∈ S,v < n/\a1H ts S v = false)->∀ v ∈ S,v ∈ lf,λ σ' H' z=>z,?_⟩
  have nk:∀ {H':Hp} {a:Addr} {l:List Nat},H' a = some (.lst (natV l))->SqL K H' a ((a0T l).map V.int):=λ {H' a l} h=>by
   have:=SqL.of (K:=K) h
   rw [a0U] at this
   exact this
  have ll:lf.length <= 10:=by have:=sub.length_le; rw [List.length_range] at this; omega
  refine ⟨_,rfl,_,rfl,pl,pq,_,_,rfl,nk h4,nk h4',by unfold a0T; rw [List.length_map]; omega,λ H5 p6 H6 s5 n6=>?_⟩
  rw [a7S,show (a0T (lf.filter λ x=>!decide (x ∈ lf.filter (a1H ts lf)))).map V.int = natV (lf.filter λ x=>!decide (x ∈ lf.filter (a1H ts lf))) by rw [a0U]; rfl] at n6
  have s46:=s5.trans n6.same
  have sub':(lf.filter λ x=>!decide (x ∈ lf.filter (a1H ts lf))).Sublist (List.range n):=List.filter_sublist.trans sub
  have ll':(lf.filter λ x=>!decide (x ∈ lf.filter (a1H ts lf))).length <= 10:=by have:=sub'.length_le; rw [List.length_range] at this; omega
  refine ⟨_,rfl,_,rfl,.ref pg,n,ts,p6,_,rfl,hG.same (s4.trans s46),n10,l100,SqL.of n6.here,ll',λ x hx=>List.mem_range.mp (sub'.subset hx),λ H7 p8 H8 s7 n8=>?_⟩
  refine ⟨_,?_,p6,p8,_,rfl,s4.trans (s46.trans (s7.trans n8.same)),s4.free (s5.free n6.fresh),(s7.trans n8.same) _ _ n6.here,n8.here,rfl,sub',λ S hS v hv=>?_⟩
  ·obtain ⟨v,r,e⟩:=List.exists_cons_of_ne_nil c
   have vm:v ∈ lf.filter (a1H ts lf):=by rw [e]; exact List.mem_cons_self
   refine List.length_filter_lt_length_iff_exists.mpr ⟨v,(List.mem_filter.mp vm).1,?_⟩
   rw [decide_eq_true vm]; exact Bool.false_ne_true
  ·have vl:=all S hS v hv
   refine List.mem_filter.mpr ⟨vl,?_⟩
   rw [show decide (v ∈ lf.filter (a1H ts lf)) = false from decide_eq_false λ z=>?_]
   ·rfl
   ·have h1:=(a3M okt nd lf v).mp (List.mem_filter.mp z).2
    have h2:=(a3M okt nd S v).mpr λ a ha b hb=>h1 a (all S hS a ha) b (all S hS b hb)
    rw [(hS v hv).2] at h2
    cases h2
abbrev DZ33 (K:PySem.W.Frag) (mg:Str->Option Value):=Dn K mg "up_to" b7C ["graph", "piece", "v"]
set_option maxHeartbeats 8000000 in
theorem b9R (B:Bl mg) (dZ17:DZ17 K mg) (dZ15:DZ15 K mg) (dZ7:DZ7 K mg) (dZ18:DZ18 K mg) (dZ21:DZ21 K mg) (dZ6:DZ6 K mg) (dZ28:DZ28 K mg) (dZ25:DZ25 K mg) (dZ33:DZ33 K mg):FnOk P w K mg base CX0 6 dZ33.f dZ33.fd ["graph", "piece", "v"] (c6E K):=by
 have gZ25:FnOk P w K mg base CX0 5 _ _ _ _:=a4P B dZ17 dZ15 dZ7 dZ18 dZ21 dZ6 dZ28 dZ25
 have gZ21:FnOk P w K mg base CX0 5 _ _ _ _:=(a5C B dZ21).mono (by decide)
 have gZ6:FnOk P w K mg base CX0 5 _ _ _ _:=(a3J B dZ17 dZ15 dZ6).mono (by decide)
 have gZ7:FnOk P w K mg base CX0 5 _ _ _ _:=(a3I B dZ7).mono (by decide)
 refine dZ33.F.ok sc_up_to (λ vs H Q E h=>?_) (λ cdv A outer s H vs Q E hr h=>?_)
 ·obtain ⟨g,n,ts,a,p,h,v,rfl,_⟩:=h
  rfl
 obtain ⟨g,n,ts,a,p,h,v,rfl,hG,okt,n10,l100,hA,up,hn,hh,hv,vh,con,q⟩:=h
 have nk:∀ {H':Hp} {a:Addr} {l:List Nat},SqL K H' a (natV l)->SqL K H' a ((a0T l).map V.int):=λ {H' a l} h=>by
  rw [a0U] at h
  exact h
 have nd:p.Nodup:=up.imp λ h=>Nat.ne_of_lt h
 have ll:=a2Z nd hn
 refine ⟨_,(a0C (a0J (i:=3) sc_up_to.nd rfl (Or.inl rfl) (a0G gZ25 hr rfl dZ25.m dZ25.F.kp dZ25.b .nil a0L (a0A (pv 0) (a0A (a0G gZ21 hr rfl dZ21.m dZ21.F.kp dZ21.b .nil a0L (a0A (pv 1) (a0A (a1M (a0A (pv 2) a0B)) a0B))) (a0A (a0S (a0I (K:=K) rfl) (pv 1) a0F (λ _ _=>rfl)) a0B)))))
   (a0D (a0M (a0S (a0I (K:=K) rfl) (a0G gZ7 hr rfl dZ7.m dZ7.F.kp dZ7.b .nil a0L (a0A (a0G gZ6 hr rfl dZ6.m dZ6.F.kp dZ6.b .nil a0L (a0A (pv 0) (a0A (pv 2) a0B))) (a0A (pv 3) a0B))) a0F (λ _ _=>rfl))))),?_⟩
 have at0:atI (natV p) 0 = some (.int (h:Int)):=by
  obtain ⟨x,r,e⟩:=List.exists_cons_of_ne_nil (List.ne_nil_of_mem hv)
  have:atI (natV p) ((0:Nat):Int) = some (.int (h:Int)):=a1F (by rw [hh,e]; rfl)
  exact this
 refine ⟨_,rfl,_,rfl,_,rfl,(by show 1 <= 1000; decide),λ p1 H1 n1=>?_⟩
 refine ⟨a,p1,_,a0T [v],rfl,nk (n1.same.seq hA),SqL.of n1.here,by unfold a0T; rw [List.length_map]; omega,λ H2 p3 H3 s2 n3=>?_⟩
 have ef:(p.filter λ x=>!decide (x ∈ [v])) = p.filter λ x=>!decide (x = v):=List.filter_congr λ x _=>by simp
 rw [a7S,ef,show (a0T (p.filter λ x=>!decide (x = v))).map V.int = natV (p.filter λ x=>!decide (x = v)) by rw [a0U]; rfl] at n3
 have s03:=n1.same.trans (s2.trans n3.same)
 have hp:h ∈ p:=by
  obtain ⟨x,r,e⟩:=List.exists_cons_of_ne_nil (List.ne_nil_of_mem hv)
  rw [hh,e]; exact List.mem_cons_self
 refine ⟨_,rfl,a,_,_,_,rfl,rfl,s03.seq hA,at0,g,n,ts,p3,_,h,rfl,hG.same s03,okt,n10,l100,SqL.of n3.here,nd.sublist List.filter_sublist,λ x hx=>hn x (mem_wo.mp hx).1,mem_wo.mpr ⟨hp,Ne.symm vh⟩,λ p4 hm H4 s4 f4 h4 M=>?_⟩
 have s04:=s03.trans s4
 have hhm:h ∈ hm:=(M.mem h).mpr ⟨mem_wo.mpr ⟨hp,Ne.symm vh⟩,.inl rfl⟩
 have go:∀ {y:Nat},PathT ts p h y->(∃ u ∈ hm,tieT ts u v = true)\/(y ≠ v/\PathT ts (p.filter λ x=>!decide (x = v)) h y):=λ {y} pt=>by
  induction pt with
  | @one y t =>
   by_cases c:y = v
   ·rw [c] at t; exact .inl ⟨h,hhm,t⟩
   ·exact .inr ⟨c,.one t⟩
  | @step u y pt m t ih =>
   rcases ih with ih | ⟨i1,i2⟩
   ·exact .inl ih
   ·have um:=mem_wo.mpr ⟨m,i1⟩
    by_cases c:y = v
    ·rw [c] at t; exact .inl ⟨u,(M.mem u).mpr ⟨um,.inr i2⟩,t⟩
    ·exact .inr ⟨c,.step i2 um t⟩
 obtain ⟨u,hu,tu⟩:∃ u ∈ hm,tieT ts u v = true:=by
  rcases con h hp v hv with e | pt
  ·exact absurd e.symm vh
  ·rcases go pt with c | c
   ·exact c
   ·exact absurd rfl c.1
 have vn:=hn v hv
 refine ⟨_,rfl,_,rfl,g,n,ts,v,rfl,hG.same s04,by omega,by omega,by omega,λ H5 p6 H6 s5 n6=>?_⟩
 refine ⟨_,rfl,p6,p4,_,_,rfl,SqL.of n6.here,nk ((s5.trans n6.same).seq (SqL.of h4)),a2U l100 _,λ H7 p8 H8 s7 n8=>?_⟩
 have s08:=s04.trans ((s5.trans n6.same).trans (s7.trans n8.same))
 have mem:(u:Int) ∈ a0Q (a0R ts (v:Int)) (a0T hm):=by
  unfold a0Q
  rw [List.mem_filter,decide_eq_true_iff,tieT_around]
  exact ⟨a1L tu,mem_natIp.mpr ⟨u,hu,rfl⟩⟩
 obtain ⟨x,r,ex⟩:=List.exists_cons_of_ne_nil (List.ne_nil_of_mem mem)
 have xm:x ∈ a0Q (a0R ts (v:Int)) (a0T hm):=by rw [ex]; exact List.mem_cons_self
 unfold a0Q at xm
 obtain ⟨x1,x2⟩:=List.mem_filter.mp xm
 obtain ⟨u',hu',rfl⟩:=mem_natIp.mp (of_decide_eq_true x2)
 have at8:atI ((a0Q (a0R ts (v:Int)) (a0T hm)).map V.int) 0 = some (.int (u':Int)):=by
  have:atI ((a0Q (a0R ts (v:Int)) (a0T hm)).map V.int) ((0:Nat):Int) = some (.int (u':Int)):=a1F (by rw [ex]; rfl)
  exact this
 exact ⟨p8,_,_,_,rfl,rfl,SqL.of n8.here,at8,q u' hm H8 s08 M hu' (tieT_around.mp x1)⟩
end
theorem c3S (xs:List V) (k:Nat):cutV xs none (some (k:Int)) = xs.take k:=by
 unfold cutV
 rw [HT.sIx_nat,show HT.sIx xs.length 0 none = 0 from rfl,List.drop_zero,Nat.sub_zero]
 rcases Nat.le_total k xs.length with c | c
 ·rw [Nat.min_eq_left c]
 ·rw [Nat.min_eq_right c,List.take_of_length_le (Nat.le_refl _),List.take_of_length_le c]
theorem b7D (xs:List V) (k:Nat):cutV xs (some (k:Int)) none = xs.drop k:=by
 unfold cutV
 rw [HT.sIx_nat,show HT.sIx xs.length xs.length none = xs.length from rfl]
 rcases Nat.le_total k xs.length with c | c
 ·rw [Nat.min_eq_left c,List.take_of_length_le (by rw [List.length_drop]; exact Nat.le_refl _)]
 ·rw [Nat.min_eq_right c,List.drop_of_length_le (Nat.le_refl _),List.drop_of_length_le c,List.take_nil]
structure WayR (ts:List ζζ) (lf w:List Nat) (v:Nat):Prop where
 ne:0 < w.length
 nd:w.Nodup
 mem:∀ x ∈ w,x ∈ lf
 tie:∀ i,i + 1 < w.length->tieT ts (w.getD i 0) (w.getD (i + 1) 0) = true
 vin:v ∈ lf
 last:tieT ts (w.getD (w.length - 1) 0) v = true
 back:∀ i,i + 2 = w.length->v ≠ w.getD i 0
structure RingR (ts:List ζζ) (n:Nat) (r:List Nat):Prop where
 len:3 <= r.length
 nd:r.Nodup
 lt:∀ x ∈ r,x < n
 tie:∀ i,i + 1 < r.length->tieT ts (r.getD i 0) (r.getD (i + 1) 0) = true
 clo:tieT ts (r.getD (r.length - 1) 0) (r.getD 0 0) = true
theorem b9S {ts:List ζζ} {n:Nat} (ok:∀ t ∈ ts,0 <= t.1/\t.1 < t.2/\t.2 < (n:Int)) {x:Nat}:tieT ts x x = false:=by
 cases e:tieT ts x x with
 | false=>rfl
 | true =>
  unfold tieT at e
  rw [Bool.or_self,decide_eq_true_iff] at e
  have:=ok _ e
  dsimp only at this
  omega
theorem a5E {w:List Nat} {i x:Nat} (h:i < w.length):(w ++ [x]).getD i 0 = w.getD i 0:=by
 rw [τα,List.getElem?_append_left h,τα]
theorem a7T {w:List Nat} {x:Nat}:(w ++ [x]).getD w.length 0 = x:=by
 rw [τα,List.getElem?_append_right (Nat.le_refl _),Nat.sub_self]; rfl
theorem WayR.add {ts:List ζζ} {lf w:List Nat} {v u:Nat} (h:WayR ts lf w v) (nv:v ∉ w) (hu:u ∈ lf) (t:tieT ts v u = true) (b:u ≠ w.getD (w.length - 1) 0):WayR ts lf (w ++ [v]) u:=by
 have l1:(w ++ [v]).length = w.length + 1:=by rw [List.length_append]; rfl
 have p:=h.ne
 refine ⟨by omega,?_,λ x hx=>?_,λ i hi=>?_,hu,?_,λ i hi=>?_⟩
 ·refine List.nodup_append.mpr ⟨h.nd,by simp,λ a ha b hb e=>nv ?_⟩
  rw [List.mem_singleton.mp hb] at e
  rw [<- e]; exact ha
 ·rcases List.mem_append.mp hx with hx | hx
  ·exact h.mem x hx
  ·rw [List.mem_singleton.mp hx]; exact h.vin
 ·rw [l1] at hi
  rw [a5E (by omega)]
  rcases Nat.lt_or_ge (i + 1) w.length with c | c
  ·rw [a5E c]; exact h.tie i c
  ·have e:i + 1 = w.length:=by omega
   rw [e,a7T,show i = w.length - 1 by omega]
   exact h.last
 ·rw [l1,Nat.add_sub_cancel,a7T]; exact t
 ·rw [l1] at hi
  rw [a5E (by omega),show i = w.length - 1 by omega]
  exact b
theorem WayR.len {ts:List ζζ} {lf w:List Nat} {v:Nat} (h:WayR ts lf w v):w.length <= lf.length:=by
 have:=pigN h.nd h.mem
 exact this
theorem a4R {w:List Nat} (j i:Nat):(w.drop j).getD i 0 = w.getD (j + i) 0:=by
 rw [τα,List.getElem?_drop,τα]
theorem WayR.ring {ts:List ζζ} {n:Nat} {lf w:List Nat} {v j:Nat} (ok:∀ t ∈ ts,0 <= t.1/\t.1 < t.2/\t.2 < (n:Int)) (lt:∀ x ∈ lf,x < n) (h:WayR ts lf w v) (hj:w[j]? = some v):RingR ts n (w.drop j):=by
 have jl:=(List.getElem?_eq_some_iff.mp hj).1
 have ev:w.getD j 0 = v:=by rw [τα,hj]; rfl
 have n1:j + 1 ≠ w.length:=λ e=>by
  have:=h.last
  rw [show w.length - 1 = j by omega,ev,b9S ok] at this
  cases this
 have n2:j + 2 ≠ w.length:=λ e=>h.back j e ev.symm
 have l1:(w.drop j).length = w.length - j:=List.length_drop ..
 refine ⟨by omega,h.nd.sublist (List.drop_sublist ..),λ x hx=>lt x (h.mem x (List.mem_of_mem_drop hx)),λ i hi=>?_,?_⟩
 ·rw [a4R,a4R]
  exact h.tie (j + i) (by omega)
 ·rw [a4R,a4R,l1,show j + (w.length - j - 1) = w.length - 1 by omega,Nat.add_zero,ev]
  exact h.last
theorem nb_mem {ts:List ζζ} {lf:List Nat} {v:Nat} {x:Int}:x ∈ a0Q (a0R ts (v:Int)) (a0T lf) ↔ ∃ u:Nat,x = (u:Int)/\tieT ts v u = true/\u ∈ lf:=by
 unfold a0Q
 rw [List.mem_filter,decide_eq_true_iff,mem_natIp]
 constructor
 ·rintro ⟨h,u,hu,e⟩
  subst e
  exact ⟨u,rfl,tieT_around.mp h,hu⟩
 ·rintro ⟨u,e,t,hu⟩
  subst e
  exact ⟨tieT_around.mpr t,u,hu,rfl⟩
theorem c1B {ts:List ζζ} {n:Nat} (ok:∀ t ∈ ts,0 <= t.1/\t.1 < t.2/\t.2 < (n:Int)) (nd:ts.Nodup) {lf:List Nat} {v:Nat} (h:a1H ts lf v = false) (p:Nat):∃ u ∈ lf,tieT ts v u = true/\u ≠ p:=by
 have:¬ ∀ a ∈ lf,∀ b ∈ lf,tieT ts v a = true->tieT ts v b = true->a = b:=λ z=>by
  rw [(a3M ok nd lf v).mpr z] at h
  cases h
 refine Classical.byContradiction λ c=>this λ a ha b hb ta tb=>?_
 have e1:a = p:=Classical.byContradiction λ q=>c ⟨a,ha,ta,q⟩
 have e2:b = p:=Classical.byContradiction λ q=>c ⟨b,hb,tb,q⟩
 rw [e1,e2]
theorem b9T (xs:List V) (a:V) (h:2 <= xs.length) (ha:xs[xs.length - 2]? = some a):cutV xs (some (-2)) (some (-1)) = [a]:=by
 unfold cutV
 have e1:HT.sIx xs.length 0 (some (-2)) = xs.length - 2:=by
  unfold HT.sIx; simp; omega
 have e2:HT.sIx xs.length xs.length (some (-1)) = xs.length - 1:=by
  unfold HT.sIx; simp; omega
 rw [e1,e2,show xs.length - 1 - (xs.length - 2) = 1 by omega]
 have hl:xs.length - 2 < xs.length:=by omega
 rw [List.drop_eq_getElem_cons hl,List.take_succ_cons,List.take_zero]
 rw [List.getElem?_eq_getElem hl] at ha
 injection ha with ha
 rw [ha]
abbrev c1C:Stmt:=top 22
theorem sc_wood:FnScope ["graph", "left", "ups", "v", "piece"] ["graph"] (a0E c1C):=⟨rfl,rfl,rfl,by decide +kernel,rfl,by decide +kernel,by decide +kernel⟩
abbrev a3N:Stmt:=top 25
theorem sc_ring_among:FnScope ["graph", "left", "way", "v"] ["graph", "left"] (a0E a3N):=⟨rfl,rfl,rfl,by decide +kernel,rfl,by decide +kernel,by decide +kernel⟩
def c6F (K:Φρ):Sp:=λ vs H Q _=>∃ (g:V) (n:Nat) (ts:List ζζ) (a:Addr) (lf:List Nat),vs = [g,.ref a]/\GraphV K H g n ts/\(∀ t ∈ ts,0 <= t.1/\t.1 < t.2/\t.2 < (n:Int))/\ts.Nodup/\n <= 10/\ts.length <= 100/\SqL K H a (natV lf)/\Core ts n lf/\lf ≠ [] /\
 ∀ p r H',Same H H'->H p = none->H' p = some (.lst (natV r))->RingR ts n r->Q (.ref p) H'
def b7E (K:Φρ):Sp:=λ vs H Q _=>∃ (g:V) (n:Nat) (ts:List ζζ),vs = [g]/\GraphV K H g n ts/\(∀ t ∈ ts,0 <= t.1/\t.1 < t.2/\t.2 < (n:Int))/\ts.Nodup/\n <= 10/\ts.length <= 100/\(∀ lf,Core ts n lf->lf ≠ []) /\
 ∀ p q r H',Same H H'->H q = none->H' q = some (.lst (natV r))->H' p = some (.tup [.str "ring", .ref q])->RingR ts n r->Q (.ref p) H'
theorem b9U (a b:List Nat):natV (a ++ b) = natV a ++ natV b:=List.map_append
section
variable {P:Program} {w:World} {K:Φρ} {mg:Str->Option Value} {base:Heap}
abbrev DZ29 (K:PySem.W.Frag) (mg:Str->Option Value):=Dn K mg "ring_among" a3N ["graph", "left"]
set_option maxHeartbeats 8000000 in
theorem a8O (B:Bl mg) (dZ17:DZ17 K mg) (dZ15:DZ15 K mg) (dZ7:DZ7 K mg) (dZ21:DZ21 K mg) (dZ6:DZ6 K mg) (dZ29:DZ29 K mg):FnOk P w K mg base CX0 7 dZ29.f dZ29.fd ["graph", "left"] (c6F K):=by
 have gZ6:FnOk P w K mg base CX0 6 _ _ _ _:=(a3J B dZ17 dZ15 dZ6).mono (by decide)
 have gZ7:FnOk P w K mg base CX0 6 _ _ _ _:=(a3I B dZ7).mono (by decide)
 have gZ21:FnOk P w K mg base CX0 6 _ _ _ _:=(a5C B dZ21).mono (by decide)
 refine dZ29.F.ok sc_ring_among (λ vs H Q E h=>?_) (λ cdv A outer s H vs Q E hr h=>?_)
 ·obtain ⟨g,n,ts,a,lf,rfl,_⟩:=h
  rfl
 obtain ⟨g,n,ts,a,lf,rfl,hG,okt,nd,n10,l100,hA,C,ne,q⟩:=h
 have hv:(A.deeper (PyProof.Rows.envOfC "ring_among" (a0E a3N) s.heap.objs.size dZ29.f cdv)).units + 65 < cLine:=by have:=hr.un; omega
 have lt:∀ x ∈ lf,x < n:=λ x hx=>List.mem_range.mp (C.sub.subset hx)
 have ll:lf.length <= 10:=by have:=C.sub.length_le; rw [List.length_range] at this; omega
 obtain ⟨x0,lf',elf⟩:=List.exists_cons_of_ne_nil ne
 have x0m:x0 ∈ lf:=by rw [elf]; exact List.mem_cons_self
 have nk:∀ {H':Hp} {l:List Nat} {a:Addr},SqL K H' a (natV l)->SqL K H' a ((a0T l).map V.int):=λ {H' l a} h=>by
  rw [a0U] at h
  exact h
 refine ⟨_,(a0C (a0J (i:=2) sc_ring_among.nd rfl (Or.inl rfl) (a4G (a4J (K:=K) rfl) (pv 1) a7W (a4X a0F)))
   (a0C (a0J (i:=3) sc_ring_among.nd rfl (Or.inl rfl) (a0S (a0I (K:=K) rfl) (a0G gZ7 hr rfl dZ7.m dZ7.F.kp dZ7.b .nil a0L (a0A (a0G gZ6 hr rfl dZ6.m dZ6.F.kp dZ6.b .nil a0L (a0A (pv 0) (a0A (a0S (a0I (K:=K) rfl) (pv 2) a0F (λ _ _=>rfl)) a0B))) (a0A (pv 1) a0B))) a0F (λ _ _=>rfl)))
   (a0C (a4D PassesOwn.never (a1C (a3R (K:=K) rfl hv) (pv 3) (pv 2) (by with_unfolding_all rfl))
   (a0C (a3C (a4I (K:=K) rfl PySem.F.plainAttrs_list PySem.F.slot_list_append PySem.F.type_list_append a3S (pv 2) (a0A (pv 3) a0B)))
   (a0D (a0J (i:=3) sc_ring_among.nd rfl (Or.inl rfl) (a0S (a0I (K:=K) rfl) (a0G gZ21 hr rfl dZ21.m dZ21.F.kp dZ21.b .nil a0L (a0A (a0G gZ7 hr rfl dZ7.m dZ7.F.kp dZ7.b .nil a0L (a0A (a0G gZ6 hr rfl dZ6.m dZ6.F.kp dZ6.b .nil a0L (a0A (pv 0) (a0A (pv 3) a0B))) (a0A (pv 1) a0B))) (a0A (a4G (a4J (K:=K) rfl) (pv 2) (a4X (b8C b1Y a0F)) (a4X (b8C b1Y a0F))) a0B))) a0F (λ _ _=>rfl))))))
   (a0D (a0M (a4G (a4J (K:=K) rfl) (pv 2) (a4X (a4I (K:=K) rfl PySem.F.plainAttrs_list PySem.F.slot_list_index PySem.F.type_list_index b5F (pv 2) (a0A (pv 3) a0B))) a7W)))))),?_⟩
 refine ⟨_,rfl,1,rfl,a,_,rfl,hA,λ pw H1 n1=>?_⟩
 have e1:cutV (natV lf) none (some 1) = natV [x0]:=by
  rw [show (1:Int) = ((1:Nat):Int) from rfl,c3S,elf]; rfl
 rw [e1] at n1
 have hd:∀ {L:List Int} {v:Nat},(∀ x ∈ L,∃ u:Nat,x = (u:Int)/\tieT ts v u = true/\u ∈ lf)->L ≠ []->∃ u:Nat,((u:Int)) ∈ L/\atI (L.map V.int) 0 = some (.int (u:Int))/\tieT ts v u = true/\u ∈ lf:=λ {L v} h ne=>by
  obtain ⟨x,r,e⟩:=List.exists_cons_of_ne_nil ne
  obtain ⟨u,rfl,t,m⟩:=h x (by rw [e]; exact List.mem_cons_self)
  refine ⟨u,by rw [e]; exact List.mem_cons_self,?_,t,m⟩
  have:atI (L.map V.int) ((0:Nat):Int) = some (.int (u:Int)):=a1F (by rw [e]; rfl)
  exact this
 have x0n:=lt x0 x0m
 have a0:atI (natV [x0]) 0 = some (.int (x0:Int)):=by
  have:atI (natV [x0]) ((0:Nat):Int) = some (.int (x0:Int)):=a1F rfl
  exact this
 refine ⟨_,rfl,_,rfl,pw,_,_,_,rfl,rfl,SqL.of n1.here,a0,g,n,ts,x0,rfl,hG.same n1.same,by omega,by omega,by omega,λ H2 p3 H3 s2 n3=>?_⟩
 have s13:=s2.trans n3.same
 have s03:=n1.same.trans s13
 refine ⟨_,rfl,p3,a,_,_,rfl,SqL.of n3.here,nk (s03.seq hA),a2U l100 _,λ H4 p5 H5 s4 n5=>?_⟩
 have s15:=s13.trans (s4.trans n5.same)
 obtain ⟨u0,_,at5,t0,m0⟩:=hd (v:=x0) (λ x hx=>nb_mem.mp hx) (by
  obtain ⟨u,hu,tu,_⟩:=c1B okt nd (C.two x0 x0m) 0
  exact List.ne_nil_of_mem (nb_mem.mpr ⟨u,rfl,tu,hu⟩))
 refine ⟨p5,_,_,_,rfl,rfl,SqL.of n5.here,at5,?_⟩
 refine ⟨λ m σ H'=>∃ (ws:List Nat) (v:Nat),σ = [some g,some (.ref a),some (.ref pw),some (.int (v:Int))]/\Same H H'/\H' pw = some (.lst (natV ws))/\WayR ts lf ws v/\m = lf.length + 1 - ws.length,
  ⟨_,[x0],u0,rfl,n1.same.trans s15,s15 _ _ n1.here,⟨Nat.one_pos,by simp,λ x hx=>by rw [List.mem_singleton.mp hx]; exact x0m,λ i hi=>absurd hi (by simp),m0,t0,λ i hi=>absurd hi (by simp)⟩,rfl⟩,?_⟩
 rintro m σ H6 ⟨ws,v,rfl,s6,h6,W,rfl⟩
 have vn:=lt v W.vin
 have wl:=W.len
 refine ⟨_,rfl,_,rfl,a9N (nk (SqL.of h6)) ⟨_,rfl,?_⟩⟩
 have ev:decide ((v:Int) ∈ a0T ws) = decide (v ∈ ws):=decide_eq_decide.mpr (by
  rw [mem_natIp]
  constructor
  ·rintro ⟨u,hu,e⟩
   have:u = v:=by omega
   rw [<- this]; exact hu
  ·exact λ h=>⟨v,h,rfl⟩)
 rw [ev]
 by_cases c:v ∈ ws
 ·rw [decide_eq_true c]
  refine iteF ?_
  have ws0:ws[ws.idxOf v]? = some v:=by
   rw [List.getElem?_eq_getElem (List.idxOf_lt_length_of_mem c)]
   exact congrArg some (List.getElem_idxOf _)
  have h6':H6 pw = some (.lst ((a0T ws).map V.int)):=by rw [h6,a0U]; rfl
  refine ⟨_,rfl,_,rfl,.inl ⟨rfl,_,SqL.of h6⟩,_,rfl,pw,a0T ws,v,ws.idxOf v,rfl,rfl,h6',?_,λ m hm e=>?_,?_,_,rfl,pw,_,rfl,SqL.of h6,λ p7 H7 n7=>?_⟩
  ·unfold a0T
   rw [List.getElem?_map,ws0]; rfl
  ·unfold a0T at e
   rw [List.getElem?_map] at e
   have ml:m < ws.length:=Nat.lt_trans hm (List.idxOf_lt_length_of_mem c)
   rw [List.getElem?_eq_getElem ml] at e
   have e':((ws[m]:Nat):Int) = (v:Int):=Option.some.inj e
   have e2:ws[m] = v:=by omega
   have:=List.Nodup.idxOf_getElem W.nd m ml
   rw [e2] at this
   omega
  ·unfold a0T
   rw [List.length_map]; omega
  ·rw [b7D] at n7
   have h7:H7 p7 = some (.lst (natV (ws.drop (ws.idxOf v)))):=by rw [n7.here]; unfold natV; rw [List.map_drop]
   exact q p7 _ H7 (s6.trans n7.same) (s6.free n7.fresh) h7 (W.ring okt lt ws0)
 ·rw [decide_eq_false c]
  refine iteT ⟨λ σ' H'=>∃ m',m' < lf.length + 1 - ws.length/\∃ (ws:List Nat) (v:Nat),σ' = [some g,some (.ref a),some (.ref pw),some (.int (v:Int))]/\Same H H'/\H' pw = some (.lst (natV ws))/\WayR ts lf ws v/\m' = lf.length + 1 - ws.length,λ σ' H' z=>z,?_⟩
  refine ⟨_,rfl,.inl ⟨rfl,_,SqL.of h6⟩,_,rfl,pw,_,_,rfl,rfl,h6,by rw [a1U]; omega,λ H7 c7=>?_⟩
  have h7:H7 pw = some (.lst (natV (ws ++ [v]))):=by rw [b9U]; exact c7.here
  have s7:Same H H7:=s6.chg n1.fresh c7
  refine ⟨_,rfl,_,rfl,g,n,ts,v,rfl,hG.same s7,by omega,by omega,by omega,λ H8 p9 H9 s8 n9=>?_⟩
  have s79:=s8.trans n9.same
  refine ⟨_,rfl,p9,a,_,_,rfl,SqL.of n9.here,nk ((s7.trans s79).seq hA),a2U l100 _,λ H10 p11 H11 s10 n11=>?_⟩
  have s711:=s79.trans (s10.trans n11.same)
  refine ⟨_,rfl,2,rfl,-2,rfl,1,rfl,-1,rfl,pw,_,rfl,SqL.of (s711 _ _ h7),λ p12 H12 n12=>?_⟩
  have lw:(ws ++ [v]).length = ws.length + 1:=by rw [List.length_append]; rfl
  have wp:=W.ne
  have e12:cutV (natV (ws ++ [v])) (some (-2)) (some (-1)) = natV [ws.getD (ws.length - 1) 0]:=by
   refine b9T _ _ (by rw [a1U]; omega) ?_
   unfold natV
   rw [List.length_map,lw,List.getElem?_map,show ws.length + 1 - 2 = ws.length - 1 by omega,List.getElem?_append_left (by omega),List.getElem?_eq_getElem (by omega),τα,List.getElem?_eq_getElem (by omega)]
   rfl
  rw [e12] at n12
  have s712:=s711.trans n12.same
  refine ⟨p11,p12,_,a0T [ws.getD (ws.length - 1) 0],rfl,SqL.of (n12.same _ _ n11.here),nk (SqL.of n12.here),?_,λ H13 p14 H14 s13 n14=>?_⟩
  ·refine Nat.le_trans (List.length_filter_le _ _) (a2U l100 _)
  have s714:=s712.trans (s13.trans n14.same)
  have lm:∀ x ∈ a3X (a0Q (a0R ts (v:Int)) (a0T lf)) (a0T [ws.getD (ws.length - 1) 0]),(∃ u:Nat,x = (u:Int)/\tieT ts v u = true/\u ∈ lf)/\x ≠ ((ws.getD (ws.length - 1) 0:Nat):Int):=λ x hx=>by
   unfold a3X at hx
   obtain ⟨h1,h2⟩:=List.mem_filter.mp hx
   refine ⟨nb_mem.mp h1,λ e=>?_⟩
   rw [show decide (x ∈ a0T [ws.getD (ws.length - 1) 0]) = true from decide_eq_true (by rw [e]; exact List.mem_cons_self)] at h2
   cases h2
  obtain ⟨u,hu,at14,tu,um⟩:=hd (v:=v) (λ x hx=>(lm x hx).1) (by
   obtain ⟨u,hu,tu,nu⟩:=c1B okt nd (C.two v W.vin) (ws.getD (ws.length - 1) 0)
   refine List.ne_nil_of_mem (a:=(u:Int)) ?_
   unfold a3X
   refine List.mem_filter.mpr ⟨nb_mem.mpr ⟨u,rfl,tu,hu⟩,?_⟩
   rw [show decide ((u:Int) ∈ a0T [ws.getD (ws.length - 1) 0]) = false from decide_eq_false λ z=>by
    obtain ⟨y,hy,e⟩:=mem_natIp.mp z
    rw [List.mem_singleton.mp hy] at e
    exact nu (by omega)]
   rfl)
  refine ⟨p14,_,_,_,rfl,rfl,SqL.of n14.here,at14,?_⟩
  exact ⟨_,by rw [lw]; omega,ws ++ [v],u,rfl,s7.trans s714,s714 _ _ h7,W.add c um tu λ e=>(lm _ hu).2 (by rw [e]),rfl⟩
abbrev DZ34 (K:PySem.W.Frag) (mg:Str->Option Value):=Dn K mg "wood" c1C ["graph"]
set_option maxHeartbeats 8000000 in
theorem b9V (B:Bl mg) (dZ17:DZ17 K mg) (dZ15:DZ15 K mg) (dZ7:DZ7 K mg) (dZ21:DZ21 K mg) (dZ6:DZ6 K mg) (dZ22:DZ22 K mg) (dZ30:DZ30 K mg) (dZ29:DZ29 K mg) (dZ26:DZ26 K mg) (dZ33:DZ33 K mg) (dZ34:DZ34 K mg):FnOk P w K mg base CX0 8 dZ34.f dZ34.fd ["graph"] (b7E K):=by
 have gZ30:FnOk P w K mg base CX0 7 _ _ _ _:=(b0F B dZ17 dZ15 dZ7 dZ21 dZ6 dZ22 dZ30).mono (by decide)
 have gZ29:FnOk P w K mg base CX0 7 _ _ _ _:=a8O B dZ17 dZ15 dZ7 dZ21 dZ6 dZ29
 have gZ26:FnOk P w K mg base CX0 7 dZ26.f dZ26.fd ["graph", "places"] λ _ _ _ _=>False:=by
  refine dZ26.F.ok sc_pieces (λ vs H Q E h=>?_) (λ cdv A outer s H vs Q E hr h=>?_)
  ·exact h.elim
  ·exact h.elim
 have gZ33:FnOk P w K mg base CX0 7 dZ33.f dZ33.fd ["graph", "piece", "v"] λ _ _ _ _=>False:=by
  refine dZ33.F.ok sc_up_to (λ vs H Q E h=>?_) (λ cdv A outer s H vs Q E hr h=>?_)
  ·exact h.elim
  ·exact h.elim
 refine dZ34.F.ok sc_wood (λ vs H Q E h=>?_) (λ cdv A outer s H vs Q E hr h=>?_)
 ·obtain ⟨g,n,ts,rfl,_⟩:=h
  rfl
 obtain ⟨g,n,ts,rfl,hG,okt,nd,n10,l100,R,q⟩:=h
 refine ⟨_,(a0C (a0J (i:=1) sc_wood.nd rfl (Or.inl rfl) (a0G gZ30 hr rfl dZ30.m dZ30.F.kp dZ30.b .nil a0L (a0A (pv 0) a0B)))
   (a0C (a3T (a0P (K:=K) rfl (pv 1) (λ _=>rfl))
   (a0D (a0M (a2A (a0A a8U (a0A (a0G gZ29 hr rfl dZ29.m dZ29.F.kp dZ29.b .nil a0L (a0A (pv 0) (a0A (pv 1) a0B))) a0B)))))
   a1S)
   (a0C (a2E (i:=2) ["v"] [none] sc_wood.nd rfl rfl (by kernel_rfl) rfl (a1D rfl B.range (a0A (a0S (a1K (K:=K) rfl) (pv 0) a0F (λ _ _=>rfl)) a0B)) (λ _ _ _ _ _=>(a0H (i:=0) (show (["v"]:List Str).Nodup by decide +kernel) rfl (Or.inl rfl))) (λ _ _ _ _ _=>a3V) (λ _ _ _ _ _=>a7D) (by rfl))
   (a0C (a1R PassesOwn.never rfl (a1G (K:=K) rfl (a0G gZ26 hr rfl dZ26.m dZ26.F.kp dZ26.b .nil a0L (a0A (pv 0) (a0A (a5Z rfl B.list B.range (a0A (a0S (a1K (K:=K) rfl) (pv 0) a0F (λ _ _=>rfl)) a0B)) a0B)))) (a0H (i:=4) sc_wood.nd rfl (Or.inl rfl))
   (a0D (a1R PassesOwn.never rfl (a1G (K:=K) rfl (a4G (a4J (K:=K) rfl) (pv 4) (a4X a0F) a7W)) (a0H (i:=3) sc_wood.nd rfl (Or.inl rfl))
   (a0D (a4C (a0G gZ33 hr rfl dZ33.m dZ33.F.kp dZ33.b .nil a0L (a0A (pv 0) (a0A (pv 4) (a0A (pv 3) a0B)))) (a4B (pv 2) (pv 3) a1Z))))))
   (a0D (a0M (a2A (a0A a8U (a0A (pv 2) a0B))))))))),?_⟩
 refine ⟨_,rfl,g,n,ts,rfl,hG,okt,nd,n10,l100,λ r1 lf H1 s1 f1 h1 C=>?_⟩
 have ne:=R lf C
 refine ⟨_,rfl,_,.inl ⟨_,SqL.of h1,rfl⟩,?_⟩
 rw [show (!(natV lf).isEmpty) = true by
   cases e:lf with
   | nil=>exact absurd e ne
   | cons _ _=>rfl]
 refine iteT ?_
 refine ⟨_,rfl,_,rfl,g,n,ts,r1,lf,rfl,hG.same s1,okt,nd,n10,l100,SqL.of h1,C,ne,λ p r H2 s2 f2 h2 R2=>?_⟩
 refine ⟨(by show 2 <= 1000; decide),λ p3 H3 n3=>?_⟩
 exact q p3 p r H3 (s1.trans (s2.trans n3.same)) (s1.free f2) (n3.same _ _ h2) n3.here R2
end
end K
namespace K
open PySem L2 Lw Bg
structure UpsOk (ts:List ζζ) (n:Nat) (ps:List (List Nat)) (us:List V):Prop where
 len:us.length = n
 pcs:Pcs ts (List.range n) ps
 hds:b9O ps
 top:∀ p ∈ ps,us[p.headD 0]? = some .non
 up:∀ p ∈ ps,∀ v ∈ p,v ≠ p.headD 0->∃ (u:Nat) (hm:List Nat),us[v]? = some (.int (u:Int))/\b7B ts p (p.headD 0) v hm/\u ∈ hm/\tieT ts v u = true
def UpAt (ts:List ζζ) (p:List Nat) (us:List V) (v:Nat):Prop:=∃ (u:Nat) (hm:List Nat),us[v]? = some (.int (u:Int))/\b7B ts p (p.headD 0) v hm/\u ∈ hm/\tieT ts v u = true
def c1D (ts:List ζζ) (p:List Nat) (us:List V):Prop:=us[p.headD 0]? = some .non/\∀ v ∈ p,v ≠ p.headD 0->UpAt ts p us v
theorem b0G {α β:Type} {F G:α->β->Prop}:∀ {xs:List α} {ys:List β},Paired F xs ys->(∀ x y,x ∈ xs->F x y->G x y)->Paired G xs ys
 | _,_,.nil,_=>.nil
 | _,_,.cons h t,g=>.cons (g _ _ List.mem_cons_self h) (b0G t λ x y hx=>g x y (List.mem_cons_of_mem _ hx))
theorem b2U (x:V):∀ n:Nat,(List.range n).filterMap (λ _=>some x) = List.replicate n x
 | 0=>rfl
 | n + 1=>by rw [List.range_succ,List.filterMap_append,b2U x n,List.replicate_succ']; rfl
def b7F (K:Φρ):Sp:=λ vs H Q _=>∃ (g:V) (n:Nat) (ts:List ζζ),vs = [g]/\GraphV K H g n ts/\(∀ t ∈ ts,0 <= t.1/\t.1 < t.2/\t.2 < (n:Int))/\ts.Nodup/\b0D ts/\n <= 10/\ts.length <= 100 /\
 ∀ r ru ps us H',Same H H'->H ru = none->H' r = some (.tup [.str "wood", .ref ru])->H' ru = some (.lst us)->UpsOk ts n ps us->Q (.ref r) H'
section
variable {P:Program} {w:World} {K:Φρ} {mg:Str->Option Value} {base:Heap}
set_option maxHeartbeats 8000000 in
theorem c3T (B:Bl mg) (dZ17:DZ17 K mg) (dZ15:DZ15 K mg) (dZ7:DZ7 K mg) (dZ18:DZ18 K mg) (dZ21:DZ21 K mg) (dZ6:DZ6 K mg) (dZ28:DZ28 K mg) (dZ25:DZ25 K mg) (dZ26:DZ26 K mg) (dZ22:DZ22 K mg) (dZ30:DZ30 K mg) (dZ29:DZ29 K mg) (dZ33:DZ33 K mg) (dZ34:DZ34 K mg) (gZ29:FnOk P w K mg base CX0 7 dZ29.f dZ29.fd ["graph", "left"] λ _ _ _ _=>False):FnOk P w K mg base CX0 8 dZ34.f dZ34.fd ["graph"] (b7F K):=by
 have gZ30:FnOk P w K mg base CX0 7 _ _ _ _:=(b0F B dZ17 dZ15 dZ7 dZ21 dZ6 dZ22 dZ30).mono (by decide)
 have gZ26:FnOk P w K mg base CX0 7 _ _ _ _:=(b7A B dZ17 dZ15 dZ7 dZ18 dZ21 dZ6 dZ28 dZ25 dZ26).mono (by decide)
 have gZ33:FnOk P w K mg base CX0 7 _ _ _ _:=(b9R B dZ17 dZ15 dZ7 dZ18 dZ21 dZ6 dZ28 dZ25 dZ33).mono (by decide)
 refine dZ34.F.ok sc_wood (λ vs H Q E h=>?_) (λ cdv A outer s H vs Q E hr h=>?_)
 ·obtain ⟨g,n,ts,rfl,_⟩:=h
  rfl
 obtain ⟨g,n,ts,rfl,hG,okt,nd,W,n10,l100,q⟩:=h
 obtain ⟨pg,ta,rfl,hP,hT⟩:=id hG
 refine ⟨_,(a0C (a0J (i:=1) sc_wood.nd rfl (Or.inl rfl) (a0G gZ30 hr rfl dZ30.m dZ30.F.kp dZ30.b .nil a0L (a0A (pv 0) a0B)))
   (a0C (a3T (a0P (K:=K) rfl (pv 1) (λ _=>rfl))
   (a0D (a0M (a2A (a0A a8U (a0A (a0G gZ29 hr rfl dZ29.m dZ29.F.kp dZ29.b .nil a0L (a0A (pv 0) (a0A (pv 1) a0B))) a0B)))))
   a1S)
   (a0C (a2E (i:=2) ["v"] [none] sc_wood.nd rfl rfl (by kernel_rfl) rfl (a1D rfl B.range (a0A (a0S (a1K (K:=K) rfl) (pv 0) a0F (λ _ _=>rfl)) a0B)) (λ _ _ _ _ _=>(a0H (i:=0) (show (["v"]:List Str).Nodup by decide +kernel) rfl (Or.inl rfl))) (λ _ _ _ _ _=>a3V) (λ _ _ _ _ _=>a7D) (by rfl))
   (a0C (a1R PassesOwn.never rfl (a1G (K:=K) rfl (a0G gZ26 hr rfl dZ26.m dZ26.F.kp dZ26.b .nil a0L (a0A (pv 0) (a0A (a5Z rfl B.list B.range (a0A (a0S (a1K (K:=K) rfl) (pv 0) a0F (λ _ _=>rfl)) a0B)) a0B)))) (a0H (i:=4) sc_wood.nd rfl (Or.inl rfl))
   (a0D (a1R PassesOwn.never rfl (a1G (K:=K) rfl (a4G (a4J (K:=K) rfl) (pv 4) (a4X a0F) a7W)) (a0H (i:=3) sc_wood.nd rfl (Or.inl rfl))
   (a0D (a4C (a0G gZ33 hr rfl dZ33.m dZ33.F.kp dZ33.b .nil a0L (a0A (pv 0) (a0A (pv 4) (a0A (pv 3) a0B)))) (a4B (pv 2) (pv 3) a1Z))))))
   (a0D (a0M (a2A (a0A a8U (a0A (pv 2) a0B))))))))),?_⟩
 refine ⟨_,rfl,.ref pg,n,ts,rfl,hG,okt,nd,n10,l100,λ r1 lf H1 s1 f1 h1 C=>?_⟩
 have lf0:lf = []:=Classical.byContradiction λ ne=>by
  obtain ⟨v,hv,un⟩:=W lf ne
  have:=(a3M okt nd lf v).mpr un
  rw [C.two v hv] at this
  cases this
 refine ⟨_,rfl,_,.inl ⟨_,SqL.of h1,rfl⟩,?_⟩
 rw [show (!(natV lf).isEmpty) = false by rw [lf0]; rfl]
 refine iteF ?_
 refine ⟨_,rfl,pg,_,_,_,rfl,rfl,s1.tupq hP,rfl,_,rfl,by omega,by omega,?_⟩
 rw [Int.toNat_natCast]
 refine b0V (λ _=>some .non) (by omega) (λ i H2 N hi s2 hN=>hN H2 s2) (λ H2 pu H3 s2 n3=>?_)
 have er:=b2U V.non n
 rw [er] at n3
 have s03:=s1.trans (s2.trans n3.same)
 have fpu:H pu = none:=s1.free (s2.free n3.fresh)
 refine ⟨_,rfl,_,rfl,pg,_,_,_,rfl,rfl,s03.tupq hP,rfl,n,rfl,by omega,λ pr H4 n4=>?_⟩
 refine ⟨.ref pg,n,ts,pr,List.range n,rfl,hG.same (s03.trans n4.same),okt,n10,l100,n4.here,List.pairwise_lt_range,λ x hx=>List.mem_range.mp hx,λ r ps H5 s5 f5 hN PO hds=>?_⟩
 obtain ⟨qs,hr5,nr,fq,pq⟩:=hN
 have hu5:H5 pu = some (.lst (List.replicate n V.non)):=s5 _ _ (n4.same _ _ n3.here)
 have hu4:=n4.same _ _ n3.here
 have rpu:r ≠ pu:=λ z=>by rw [z,hu4] at f5; cases f5
 have qpu:∀ q ∈ qs,q ≠ pu:=λ q hq z=>by have:=fq q hq; rw [z,hu4] at this; cases this
 have s05:=s03.trans (n4.same.trans s5)
 have lq:=Paired.length pq
 have pin:∀ p ∈ ps,∀ v ∈ p,v < n:=λ p hp v hv=>List.mem_range.mp ((PO.sub p hp).subset hv)
 have pup:∀ p ∈ ps,p.Pairwise (· < ·):=λ p hp=>List.pairwise_lt_range.sublist (PO.sub p hp)
 refine ⟨r,rfl,⟨_,SqL.of hr5⟩,?_⟩
 refine a3Q (xs:=qs.map V.ref) (λ i σ H'=>∃ (vv pc:Option V) (us:List V),σ = [some (.ref pg),some (.ref r1),some (.ref pu),vv,pc]/\Same H H'/\H' pu = some (.lst us)/\H' r = some (.lst (qs.map V.ref))/\Paired (λ q l=>H' q = some (.lst (natV l))) qs ps/\us.length = n/\∀ j p,ps[j]? = some p->(j < i->c1D ts p us)/\(i <= j->∀ v ∈ p,us[v]? = some .non))
  ⟨none,none,_,rfl,s05,hu5,hr5,pq,List.length_replicate,λ j p hj=>⟨λ z=>absurd z (Nat.not_lt_zero _),λ _ v hv=>by rw [List.getElem?_replicate,if_pos (pin p (List.mem_of_getElem? hj) v hv)]⟩⟩ (λ i σ H' _ ⟨_,_,_,_,_,_,h,_⟩=>SqL.of h) ?_ ?_
 ·rintro i x σ H6 hx ⟨vv,pc,us,rfl,s6,hu6,hr6,pq6,lu,inv⟩
  rw [List.getElem?_map] at hx
  obtain ⟨qi,hqi,rfl⟩:=Option.map_eq_some_iff.mp hx
  obtain ⟨p,hp,h6⟩:=a0V pq6 hqi
  have pm:=List.mem_of_getElem? hp
  have qm:=List.mem_of_getElem? hqi
  obtain ⟨hd,tl,ep⟩:=List.exists_cons_of_ne_nil (PO.ne p pm)
  refine ⟨_,rfl,_,rfl,qi,_,rfl,SqL.of h6,λ pd H7 n7=>?_⟩
  rw [show cutV (natV p) (some 1) none = natV tl from (b7D (natV p) 1).trans (by rw [ep]; rfl)] at n7
  have pdu:pd ≠ pu:=λ z=>by have:=n7.fresh; rw [z,hu6] at this; cases this
  refine ⟨pd,rfl,⟨_,SqL.of n7.here⟩,?_⟩
  have eh:p.headD 0 = hd:=by rw [ep]; rfl
  have ndp:(hd :: tl).Nodup:=ep ▸ (pup p pm).imp λ h=>Nat.ne_of_lt h
  refine a3Q (xs:=natV tl) (λ k σ H'=>∃ (vv:Option V) (us':List V),σ = [some (.ref pg),some (.ref r1),some (.ref pu),vv,some (.ref qi)]/\Same H H'/\H' pu = some (.lst us')/\H' r = some (.lst (qs.map V.ref))/\Paired (λ q l=>H' q = some (.lst (natV l))) qs ps/\H' pd = some (.lst (natV tl))/\us'.length = n/\(∀ v,v ∉ p->us'[v]? = us[v]?)/\us'[hd]? = some .non/\(∀ v ∈ tl.take k,UpAt ts p us' v)/\∀ v ∈ tl.drop k,us'[v]? = some .non)
   ⟨_,us,rfl,s6.trans n7.same,n7.same _ _ hu6,n7.same _ _ hr6,Paired.mapP pq6 λ _ _ h=>n7.same _ _ h,n7.here,lu,λ _ _=>rfl,(inv i p hp).2 (Nat.le_refl _) hd (by rw [ep]; exact List.mem_cons_self),λ v hv=>absurd hv List.not_mem_nil,λ v hv=>(inv i p hp).2 (Nat.le_refl _) v (by rw [ep]; exact List.mem_cons_of_mem _ hv)⟩ (λ k σ H' _ ⟨_,_,_,_,_,_,_,h,_⟩=>SqL.of h) ?_ ?_
  ·rintro k x σ H8 hx ⟨vv,us',rfl,s8,hu8,hr8,pq8,hd8,lu8,out,htop,done,todo⟩
   rw [List.getElem?_map] at hx
   obtain ⟨v,hv,rfl⟩:=Option.map_eq_some_iff.mp hx
   obtain ⟨hkl,hkv⟩:=List.getElem?_eq_some_iff.mp hv
   have vt:v ∈ tl:=List.mem_of_getElem? hv
   have vp:v ∈ p:=by rw [ep]; exact List.mem_cons_of_mem _ vt
   have vh:v ≠ hd:=λ z=>(List.nodup_cons.mp ndp).1 (z ▸ vt)
   have ndt:=(List.nodup_cons.mp ndp).2
   obtain ⟨p',hp',h8⟩:=a0V pq8 hqi
   have:p' = p:=by rw [hp] at hp'; injection hp' with h; exact h.symm
   subst this
   refine ⟨_,rfl,_,rfl,_,rfl,.ref pg,n,ts,qi,p',p'.headD 0,v,rfl,hG.same s8,okt,n10,l100,SqL.of h8,pup p' pm,pin p' pm,rfl,vp,by rw [eh]; exact vh,PO.con p' pm,λ u hm H9 s9 M hu tu=>?_⟩
   have hu9:=s9 _ _ hu8
   have vn:=pin p' pm v vp
   refine ⟨_,rfl,_,rfl,pu,us',v,v,rfl,rfl,hu9,a3G (by omega),λ H10 c10=>?_⟩
   have keep:∀ {b:Addr} {o:HO},b ≠ pu->H9 b = some o->H10 b = some o:=λ {b o} nb h=>(c10.rest b nb).trans h
   have et:tl.take (k + 1) = tl.take k ++ [v]:=by rw [List.take_succ_eq_append_getElem hkl,hkv]
   have ed:tl.drop k = v :: tl.drop (k + 1):=by rw [List.drop_eq_getElem_cons hkl,hkv]
   have nin:∀ x,x ≠ v->(us'.set v (.int (u:Int)))[x]? = us'[x]?:=λ x hx=>List.getElem?_set_ne (Ne.symm hx)
   have at_v:(us'.set v (.int (u:Int)))[v]? = some (.int (u:Int)):=by rw [List.getElem?_set_self (by omega)]
   have ndd:(tl.take k ++ (v :: tl.drop (k + 1))).Nodup:=by rw [<- ed,List.take_append_drop]; exact ndt
   obtain ⟨_,nd2,nd3⟩:=List.nodup_append.mp ndd
   refine ⟨_,_,rfl,(s8.trans s9).chg fpu c10,c10.here,keep rpu (s9 _ _ hr8),b0G pq8 λ q l hq h=>keep (qpu q hq) (s9 _ _ h),keep pdu (s9 _ _ hd8),by rw [List.length_set]; exact lu8,λ x hx=>?_,?_,λ x hx=>?_,λ x hx=>?_⟩
   ·rw [nin x (λ z=>hx (z ▸ vp))]; exact out x hx
   ·rw [nin hd (Ne.symm vh)]; exact htop
   ·rw [et] at hx
    rcases List.mem_append.mp hx with hx | hx
    ·obtain ⟨u',hm',a1,a2⟩:=done x hx
     exact ⟨u',hm',by rw [nin x (λ z=>nd3 x hx v List.mem_cons_self z)]; exact a1,a2⟩
    ·rw [List.mem_singleton.mp hx]
     exact ⟨u,hm,at_v,M,hu,tu⟩
   ·have xv:x ≠ v:=λ z=>(List.nodup_cons.mp nd2).1 (z ▸ hx)
    rw [nin x xv]
    exact todo x (by rw [ed]; exact List.mem_cons_of_mem _ hx)
  ·rintro σ H8 ⟨vv,us',rfl,s8,hu8,hr8,pq8,hd8,lu8,out,htop,done,todo⟩
   rw [a1U,List.take_length] at done
   refine ⟨_,_,us',rfl,s8,hu8,hr8,pq8,lu8,λ j p' hj=>?_⟩
   by_cases c:j = i
   ·subst c
    have:p' = p:=by rw [hp] at hj; injection hj with h; exact h.symm
    subst this
    refine ⟨λ _=>⟨by rw [eh]; exact htop,λ v hv ne=>?_⟩,λ z=>absurd z (by omega)⟩
    rw [eh] at ne
    rw [ep] at hv
    exact done v ((List.mem_cons.mp hv).resolve_left ne)
   ·have ap:∀ v ∈ p',v ∉ p:=λ v hv hv2=>by
     have jl:=(List.getElem?_eq_some_iff.mp hj).1
     have il:=(List.getElem?_eq_some_iff.mp hp).1
     have dj:=List.pairwise_iff_getElem.mp PO.dis
     have e1:=(List.getElem?_eq_some_iff.mp hj).2
     have e2:=(List.getElem?_eq_some_iff.mp hp).2
     rcases Nat.lt_or_gt_of_ne c with l | l
     ·exact dj j i jl il l v (e1 ▸ hv) (e2 ▸ hv2)
     ·exact dj i j il jl l v (e2 ▸ hv2) (e1 ▸ hv)
    obtain ⟨i1,i2⟩:=inv j p' hj
    refine ⟨λ z=>?_,λ z v hv=>by rw [out v (ap v hv)]; exact i2 (by omega) v hv⟩
    obtain ⟨t1,t2⟩:=i1 (by omega)
    have hm:p'.headD 0 ∈ p':=by
     obtain ⟨a,b,e⟩:=List.exists_cons_of_ne_nil (PO.ne p' (List.mem_of_getElem? hj))
     rw [e]; exact List.mem_cons_self
    refine ⟨by rw [out _ (ap _ hm)]; exact t1,λ v hv ne=>?_⟩
    obtain ⟨u,hm',a1,a2⟩:=t2 v hv ne
    exact ⟨u,hm',by rw [out v (ap v hv)]; exact a1,a2⟩
 ·rintro σ H6 ⟨vv,pc,us,rfl,s6,hu6,hr6,pq6,lu,inv⟩
  refine ⟨_,rfl,(by show 2 <= 1000; decide),λ rt H7 n7=>?_⟩
  have dn:∀ p ∈ ps,c1D ts p us:=λ p hp=>by
   obtain ⟨j,hj⟩:=List.mem_iff_getElem?.mp hp
   refine (inv j p hj).1 ?_
   rw [List.length_map,lq]
   exact (List.getElem?_eq_some_iff.mp hj).1
  exact q rt pu ps us H7 (s6.trans n7.same) fpu n7.here (n7.same _ _ hu6) ⟨lu,PO,hds,λ p hp=>(dn p hp).1,λ p hp=>(dn p hp).2⟩
end
theorem b2V {n:Nat} {ts:List ζζ} (ok:∀ t ∈ ts,0 <= t.1/\t.1 < t.2/\t.2 < (n:Int)):Fo (a3Y n []) (RnP n ts []) ↔ FoG n ts:=by
 have rn:∀ x y:Nat,RnP n ts [] x y ↔ (x < n/\y < n)/\(y = x\/Adj ts (x:Int) (y:Int)):=λ x y=>by
  unfold RnP Adj
  show a2Q n ts x y = true ↔ _
  unfold a2Q
  simp [or_assoc]
 constructor
 ·intro h
  refine h.map (λ x:Int=>x.toNat) (λ x hx=>⟨by omega,List.not_mem_nil⟩) (λ x y hx hy e=>by omega) λ x y hx hy ne e=>(rn _ _).mpr ⟨⟨by omega,by omega⟩,.inr ?_⟩
  rw [show ((x.toNat:Nat):Int) = x by omega,show ((y.toNat:Nat):Int) = y by omega]
  exact e
 ·intro h
  refine h.map (λ x:Nat=>(x:Int)) (λ x hx=>by have:=hx.1; omega) (λ x y hx hy e=>by omega) λ x y hx hy ne e=>?_
  rcases ((rn x y).mp e).2 with h | h
  ·exact absurd h.symm ne
  ·exact h
inductive Cn (ts:List ζζ) (x:Nat):Nat->Prop
 | refl:Cn ts x x
 | step {y z:Nat}:Cn ts x y->tieT ts y z = true->Cn ts x z
theorem Cn.trans {ts:List ζζ} {x y z:Nat} (a:Cn ts x y) (b:Cn ts y z):Cn ts x z:=by
 induction b with
 | refl=>exact a
 | step _ h ih=>exact .step ih h
theorem Cn.one {ts:List ζζ} {x y:Nat} (h:tieT ts x y = true):Cn ts x y:=.step .refl h
theorem Cn.symm {ts:List ζζ} {x y:Nat} (a:Cn ts x y):Cn ts y x:=by
 induction a with
 | refl=>exact .refl
 | step _ h ih=>exact (Cn.one (a1L h)).trans ih
theorem tie_cons {t:Int × Int} {ts:List ζζ} {x y:Nat}:tieT (t :: ts) x y = true ↔ (((x:Int),(y:Int)) = t\/((y:Int),(x:Int)) = t)\/tieT ts x y = true:=by
 unfold tieT
 simp only [List.mem_cons,Bool.or_eq_true,decide_eq_true_iff]
 constructor
 ·rintro ((h | h) | (h | h))
  ·exact .inl (.inl h)
  ·exact .inr (.inl h)
  ·exact .inl (.inr h)
  ·exact .inr (.inr h)
 ·rintro ((h | h) | (h | h))
  ·exact .inl (.inl h)
  ·exact .inr (.inl h)
  ·exact .inl (.inr h)
  ·exact .inr (.inr h)
theorem Cn.cons {t:Int × Int} {ts:List ζζ} {x y:Nat} (a:Cn ts x y):Cn (t :: ts) x y:=by
 induction a with
 | refl=>exact .refl
 | step _ h ih=>exact .step ih (tie_cons.mpr (.inr h))
def Acy:List ζζ->Prop
 | []=>True
 | t :: ts=>Acy ts/\¬ Cn ts t.1.toNat t.2.toNat
abbrev TOk (n:Nat) (ts:List ζζ):Prop:=∀ t ∈ ts,0 <= t.1/\t.1 < t.2/\t.2 < (n:Int)
structure Vals49 (n:Nat) (M:Nat->Nat) (U:List Nat):Prop where
 nd:U.Nodup
 mem:∀ x,x ∈ U ↔ ∃ v,v < n/\M v = x
theorem c1E {n:Nat}:∀ {ts:List ζζ},TOk n ts->∃ (M:Nat->Nat) (U:List Nat),Vals49 n M U/\(∀ x y,Cn ts x y->M x = M y)/\(∀ x y,x < n->y < n->M x = M y->Cn ts x y)/\n <= U.length + ts.length/\(U.length + ts.length = n ↔ Acy ts)
 | [],_=>by
  refine ⟨id,List.range n,⟨List.nodup_range,λ x=>?_⟩,λ x y h=>?_,λ x y _ _ h=>?_,by simp,by simp [Acy]⟩
  ·rw [List.mem_range]
   exact ⟨λ h=>⟨x,h,rfl⟩,λ ⟨v,hv,e⟩=>by rw [<- e]; exact hv⟩
  ·induction h with
   | refl=>rfl
   | step _ h _=>unfold tieT at h; simp at h
  ·have e:x = y:=h
   rw [e]
   exact .refl
 | t :: ts,ok=>by
  obtain ⟨M,U,V,c1,c2,le,iff⟩:=c1E (n:=n) (ts:=ts) λ s hs=>ok s (List.mem_cons_of_mem _ hs)
  have okt:=ok t List.mem_cons_self
  obtain ⟨a,ea⟩:∃ a:Nat,t.1 = (a:Int):=⟨t.1.toNat,by omega⟩
  obtain ⟨b,eb⟩:∃ b:Nat,t.2 = (b:Int):=⟨t.2.toNat,by omega⟩
  have an:a < n:=by omega
  have bn:b < n:=by omega
  have tab:tieT (t :: ts) a b = true:=tie_cons.mpr (.inl (.inl (Prod.ext ea.symm eb.symm)))
  have ac:Acy (t :: ts) ↔ Acy ts/\¬ Cn ts a b:=by
   show Acy ts/\¬ Cn ts t.1.toNat t.2.toNat ↔ _
   rw [ea,eb,Int.toNat_natCast,Int.toNat_natCast]
  by_cases c:M a = M b
  ·refine ⟨M,U,V,λ x y h=>?_,λ x y hx hy e=>(c2 x y hx hy e).cons,by rw [List.length_cons]; omega,?_⟩
   ·induction h with
    | refl=>rfl
    | @step y z _ h ih =>
     rw [ih]
     rcases tie_cons.mp h with (h | h) | h
     ·have e1:=congrArg Prod.fst h
      have e2:=congrArg Prod.snd h
      dsimp only at e1 e2
      rw [show y = a by omega,show z = b by omega,c]
     ·have e1:=congrArg Prod.fst h
      have e2:=congrArg Prod.snd h
      dsimp only at e1 e2
      rw [show z = a by omega,show y = b by omega,c]
     ·exact c1 y z (.one h)
   ·rw [ac,List.length_cons]
    constructor
    ·intro h
     omega
    ·intro h
     exact absurd (c2 a b an bn c) h.2
  ·have bU:M b ∈ U:=(V.mem _).mpr ⟨b,bn,rfl⟩
   have pos:=List.length_pos_of_mem bU
   have le':=List.length_erase_of_mem bU
   refine ⟨λ v=>if M v = M b then M a else M v,U.erase (M b),⟨V.nd.erase _,λ x=>?_⟩,λ x y h=>?_,λ x y hx hy e=>?_,by rw [List.length_cons]; omega,?_⟩
   ·rw [V.nd.mem_erase_iff,V.mem]
    constructor
    ·rintro ⟨ne,v,hv,e⟩
     refine ⟨v,hv,?_⟩
     rw [if_neg (by rw [e]; exact ne)]
     exact e
    ·rintro ⟨v,hv,e⟩
     by_cases d:M v = M b
     ·rw [if_pos d] at e
      exact ⟨by rw [<- e]; exact c,a,an,e⟩
     ·rw [if_neg d] at e
      exact ⟨by rw [<- e]; exact d,v,hv,e⟩
   ·dsimp only
    induction h with
    | refl=>rfl
    | @step y z _ h ih =>
     rw [ih]
     rcases tie_cons.mp h with (h | h) | h
     ·have e1:=congrArg Prod.fst h
      have e2:=congrArg Prod.snd h
      dsimp only at e1 e2
      rw [show y = a by omega,show z = b by omega,if_pos rfl,if_neg c]
     ·have e1:=congrArg Prod.fst h
      have e2:=congrArg Prod.snd h
      dsimp only at e1 e2
      rw [show z = a by omega,show y = b by omega,if_pos rfl,if_neg c]
     ·rw [c1 y z (.one h)]
   ·have ab:Cn (t :: ts) a b:=.one tab
    dsimp only at e
    by_cases d1:M x = M b
    ·rw [if_pos d1] at e
     by_cases d2:M y = M b
     ·exact (c2 x y hx hy (d1.trans d2.symm)).cons
     ·rw [if_neg d2] at e
      exact ((c2 x b hx bn d1).cons.trans ab.symm).trans (c2 a y an hy e).cons
    ·rw [if_neg d1] at e
     by_cases d2:M y = M b
     ·rw [if_pos d2] at e
      exact ((c2 x a hx an e).cons.trans ab).trans (c2 b y bn hy d2.symm).cons
     ·rw [if_neg d2] at e
      exact (c2 x y hx hy e).cons
   ·rw [ac,List.length_cons]
    constructor
    ·intro h
     exact ⟨iff.mp (by omega),λ z=>c (c1 a b z)⟩
    ·intro h
     have:=iff.mpr h.1
     omega
theorem b7G {n:Nat} {f g:Nat->Nat} {U W:List Nat} (hf:Vals49 n f U) (hg:Vals49 n g W) (h:∀ x y,x < n->y < n->f x = f y->g x = g y):W.length <= U.length:=by
 have pick:∀ z,z ∈ W->∃ v,v < n/\g v = z:=λ z hz=>(hg.mem z).mp hz
 obtain ⟨p,hp⟩:∃ p:Nat->Nat,∀ z,z ∈ W->p z < n/\g (p z) = z:=⟨λ z=>if hz:z ∈ W then Classical.choose (pick z hz) else 0,λ z hz=>by
  simp only [dif_pos hz]
  exact Classical.choose_spec (pick z hz)⟩
 have:=pigN (l:=W.map λ z=>f (p z)) (U:=U) (b0A hg.nd λ x y hx hy e=>by
  obtain ⟨a1,a2⟩:=hp x hx
  obtain ⟨b1,b2⟩:=hp y hy
  rw [<- a2,<- b2]
  exact h _ _ a1 b1 e) λ z hz=>by
  obtain ⟨y,hy,rfl⟩:=List.mem_map.mp hz
  exact (hf.mem _).mpr ⟨_,(hp y hy).1,rfl⟩
 rwa [List.length_map] at this
theorem b7H {n:Nat} {ts:List ζζ} (ok:TOk n ts) {L:Nat->Nat} {W:List Nat} (hL:Vals49 n L W) (h1:∀ x y,tieT ts x y = true->L x = L y) (h2:∀ x,x < n->L x < n/\Cn ts x (L x)):(W.length + ts.length = n ↔ Acy ts):=by
 obtain ⟨M,U,V,c1,c2,le,iff⟩:=c1E ok
 have e:W.length = U.length:=by
  refine Nat.le_antisymm (b7G V hL λ x y hx hy e=>?_) (b7G hL V λ x y hx hy e=>?_)
  ·have:=c2 x y hx hy e
   induction this with
   | refl=>rfl
   | @step y z p h ih =>
    have yn:y < n:=by
     unfold tieT at h
     rw [Bool.or_eq_true,decide_eq_true_iff,decide_eq_true_iff] at h
     rcases h with h | h
     ·have:=ok _ h; dsimp only at this; omega
     ·have:=ok _ h; dsimp only at this; omega
    rw [ih yn (c1 _ _ p),h1 y z h]
  ·have a:=c1 _ _ (h2 x hx).2
   have b:=c1 _ _ (h2 y hy).2
   rw [a,b,e]
 rw [e]
 exact iff
theorem a6S {n:Nat}:∀ {ts:List ζζ},TOk n ts->Acy ts->∀ (S:List Nat) (x:Nat),(∀ v ∈ S,v = x)\/∃ v ∈ S,v ≠ x/\∀ a ∈ S,∀ b ∈ S,tieT ts v a = true->tieT ts v b = true->a = b
 | [],_,_,S,x=>by
  by_cases c:∀ v ∈ S,v = x
  ·exact .inl c
  ·obtain ⟨v,hv⟩:=Classical.not_forall.mp c
   obtain ⟨hS,ne⟩:=Classical.not_imp.mp hv
   exact .inr ⟨v,hS,ne,λ a _ b _ h=>by unfold tieT at h; simp at h⟩
 | t :: ts,ok,ac,S,x=>by
  have okt:=ok t List.mem_cons_self
  have ok':TOk n ts:=λ s hs=>ok s (List.mem_cons_of_mem _ hs)
  obtain ⟨a,ea⟩:∃ a:Nat,t.1 = (a:Int):=⟨t.1.toNat,by omega⟩
  obtain ⟨b,eb⟩:∃ b:Nat,t.2 = (b:Int):=⟨t.2.toNat,by omega⟩
  have ac':Acy ts/\¬ Cn ts a b:=by
   have:Acy ts/\¬ Cn ts t.1.toNat t.2.toNat:=ac
   rw [ea,eb,Int.toNat_natCast,Int.toNat_natCast] at this
   exact this
  have ne:a ≠ b:=by omega
  have tc:∀ {u v:Nat},tieT (t :: ts) u v = true->(u = a/\v = b)\/(u = b/\v = a)\/tieT ts u v = true:=λ {u v} h=>by
   rcases tie_cons.mp h with (h | h) | h
   ·have e1:=congrArg Prod.fst h
    have e2:=congrArg Prod.snd h
    dsimp only at e1 e2
    exact .inl ⟨by omega,by omega⟩
   ·have e1:=congrArg Prod.fst h
    have e2:=congrArg Prod.snd h
    dsimp only at e1 e2
    exact .inr (.inl ⟨by omega,by omega⟩)
   ·exact .inr (.inr h)
  by_cases both:a ∈ S/\b ∈ S
  ·-- the side of an end that has no x
   have side:∀ z o:Nat,z ∈ S->o ∈ S->((z = a/\o = b)\/(z = b/\o = a))->¬ Cn ts z x->∃ v ∈ S,v ≠ x/\∀ p ∈ S,∀ q ∈ S,tieT (t :: ts) v p = true->tieT (t :: ts) v q = true->p = q:=λ z o zS oS zo nx=>by
    have no:¬ Cn ts z o:=λ h=>by
     rcases zo with ⟨rfl,rfl⟩ | ⟨rfl,rfl⟩
     ·exact ac'.2 h
     ·exact ac'.2 h.symm
    have memZ:∀ v,v ∈ S.filter (λ v=>@decide (Cn ts z v) (Classical.propDecidable _)) ↔ v ∈ S/\Cn ts z v:=λ v=>by
     rw [List.mem_filter]
     simp
    rcases a6S ok' ac'.1 (S.filter λ v=>@decide (Cn ts z v) (Classical.propDecidable _)) z with h | ⟨v,hv,vz,lo⟩
    ·refine ⟨z,zS,λ e=>nx (by rw [e]; exact .refl),λ p hp q hq hzp hzq=>?_⟩
     have key:∀ p,p ∈ S->tieT (t :: ts) z p = true->p = o:=λ p hp h2=>by
      rcases tc h2 with ⟨e1,e2⟩ | ⟨e1,e2⟩ | h3
      ·rcases zo with ⟨_,e⟩ | ⟨e,_⟩
       ·rw [e2,e]
       ·omega
      ·rcases zo with ⟨e,_⟩ | ⟨_,e⟩
       ·omega
       ·rw [e2,e]
      ·have pz:=h p ((memZ p).mpr ⟨hp,.one h3⟩)
       rw [pz] at h3
       unfold tieT at h3
       simp only [Bool.or_eq_true,decide_eq_true_iff] at h3
       rcases h3 with h3 | h3
       ·have:=ok' _ h3; dsimp only at this; omega
       ·have:=ok' _ h3; dsimp only at this; omega
     rw [key p hp hzp,key q hq hzq]
    ·obtain ⟨vS,vc⟩:=(memZ v).mp hv
     refine ⟨v,vS,λ e=>nx (by rw [<- e]; exact vc),λ p hp q hq h1 h2=>?_⟩
     have key:∀ p,tieT (t :: ts) v p = true->tieT ts v p = true:=λ p h=>by
      rcases tc h with ⟨e1,e2⟩ | ⟨e1,e2⟩ | h3
      ·rcases zo with ⟨e,_⟩ | ⟨_,e⟩
       ·exact absurd (e1.trans e.symm) vz
       ·exact absurd (by rw [e,<- e1]; exact vc) no
      ·rcases zo with ⟨_,e⟩ | ⟨e,_⟩
       ·exact absurd (by rw [e,<- e1]; exact vc) no
       ·exact absurd (e1.trans e.symm) vz
      ·exact h3
     have k1:=key p h1
     have k2:=key q h2
     exact lo p ((memZ p).mpr ⟨hp,vc.step k1⟩) q ((memZ q).mpr ⟨hq,vc.step k2⟩) k1 k2
   by_cases cx:Cn ts a x
   ·refine .inr (side b a both.2 both.1 (.inr ⟨rfl,rfl⟩) λ h=>ac'.2 (cx.trans h.symm))
   ·exact .inr (side a b both.1 both.2 (.inl ⟨rfl,rfl⟩) cx)
  ·rcases a6S ok' ac'.1 S x with h | ⟨v,hv,vx,lo⟩
   ·exact .inl h
   ·refine .inr ⟨v,hv,vx,λ p hp q hq h1 h2=>?_⟩
    have key:∀ p ∈ S,tieT (t :: ts) v p = true->tieT ts v p = true:=λ p hp h=>by
     rcases tc h with ⟨e1,e2⟩ | ⟨e1,e2⟩ | h3
     ·exact absurd ⟨by rw [<- e1]; exact hv,by rw [<- e2]; exact hp⟩ both
     ·exact absurd ⟨by rw [<- e2]; exact hp,by rw [<- e1]; exact hv⟩ both
     ·exact h3
    exact lo p hp q hq (key p hp h1) (key q hq h2)
end K
namespace K
open PySem L2 Lw Bg
abbrev a7U:Stmt:=top 20
theorem sc_all_bags:FnScope ["graph", "told", "gone", "last"] ["graph"] (a0E a7U):=⟨rfl,rfl,rfl,by decide +kernel,rfl,by decide +kernel,by decide +kernel⟩
abbrev b7I:Stmt:=top 34
theorem b9W:FnScope ["graph"] ["graph"] (a0E b7I):=⟨rfl,rfl,rfl,by decide +kernel,rfl,by decide +kernel,by decide +kernel⟩
abbrev a4S:Stmt:=top 35
theorem sc_costs_along:FnScope ["bags", "n", "sizes", "told", "gone", "left", "v", "bag", "more"] ["bags"] (a0E a4S):=⟨rfl,rfl,rfl,by decide +kernel,rfl,by decide +kernel,by decide +kernel⟩
theorem a2M {m v:Nat} (h:m.testBit v = true):2 ^ v <= m:=Nat.ge_two_pow_of_testBit h
theorem a8P {g v:Nat} (h:g.testBit v = false):(g ||| 2 ^ v).testBit v = true/\(g ||| 2 ^ v) - 2 ^ v = g/\g + 2 ^ v = g ||| 2 ^ v:=by
 have t:(g ||| 2 ^ v).testBit v = true:=by rw [Nat.testBit_or,Nat.testBit_two_pow_self]; simp
 have e:(g ||| 2 ^ v) - 2 ^ v = g:=Nat.eq_of_testBit_eq λ u=>by
  rw [a4Y t,Nat.testBit_or,Nat.testBit_two_pow]
  by_cases c:u = v
  ·subst c; rw [h]; simp
  ·rw [decide_eq_false c,decide_eq_false (Ne.symm c)]; simp
 have:=a2M t
 exact ⟨t,e,by omega⟩
theorem b7J {m:Nat} (h:0 < m):m.testBit (Builtin.Int.intBits (m:Int) - 1) = true/\0 < Builtin.Int.intBits (m:Int):=by
 have all:∀ u,m.testBit u = true->u < Builtin.Int.intBits (m:Int):=λ u hu=>a9O hu
 have pos:0 < Builtin.Int.intBits (m:Int):=by
  apply Classical.byContradiction
  intro c
  have:=a2G (k:=0) λ u hu=>by have:=all u hu; omega
  omega
 refine ⟨?_,pos⟩
 apply Classical.byContradiction
 intro c
 have:=b0Z (a2G (m:=m) (k:=Builtin.Int.intBits (m:Int) - 1) λ u hu=>by
  have:=all u hu
  have:u ≠ Builtin.Int.intBits (m:Int) - 1:=λ z=>c (by rw [<- z]; exact hu)
  omega)
 omega
def BagQ (n:Nat) (ts:List ζζ) (H:Hp) (q:Addr) (g:Nat):Prop:=∃ ms S,H q = some (.lst (natV ms))/\S.Nodup/\(∀ u:Nat,u ∈ S ↔ g.testBit u = true)/\BagsM n ms (runR n ts S)
def b7K (K:Φρ):Sp:=λ vs H Q _=>∃ (g:V) (n:Nat) (ts:List ζζ),vs = [g]/\GraphV K H g n ts/\(∀ t ∈ ts,0 <= t.1/\t.1 < t.2/\t.2 < (n:Int))/\n <= 10 /\
 ∀ (p:Addr) (qs:List Addr) H',Same H H'->H p = none->H' p = some (.lst (qs.map V.ref))->qs.length = 2 ^ n->(∀ (g:Nat) q,qs[g]? = some q->BagQ n ts H' q g)->Q (.ref p) H'
def degF (n:Nat) (ts:List ζζ) (g v:Nat):Nat:=(a1A n (runR n ts (a0X g)) v).length
theorem a5F {g u:Nat} (h:g < 2 ^ 10):u ∈ a0X g ↔ g.testBit u = true:=by
 unfold a0X
 rw [List.mem_filter,List.mem_range]
 constructor
 ·exact λ z=>z.2
 ·intro z
  refine ⟨?_,z⟩
  apply Classical.byContradiction
  intro c
  rw [a2F h (by omega)] at z
  cases z
theorem a8Q {n:Nat} {ts:List ζζ}:∀ (k:Nat) (S:List Nat),S.length = k->∀ {v:Nat},v ∈ S->∀ u,runR n ts S v u = false
 | 0,S,hl,v,h,u=>by
  rw [List.eq_nil_of_length_eq_zero hl] at h
  exact absurd h List.not_mem_nil
 | k + 1,S,hl,v,h,u=>by
  rcases List.eq_nil_or_concat S with e | ⟨T,w,e⟩
  ·rw [e] at h; exact absurd h List.not_mem_nil
  ·rw [List.concat_eq_append] at e
   subst e
   rw [List.length_append] at hl
   have hT:T.length = k:=by
    have:T.length + 1 = k + 1:=hl
    omega
   rw [a2D]
   unfold a4Z
   by_cases c:v = w
   ·rw [if_pos c]
   ·rw [if_neg c]
    have hv:v ∈ T:=(List.mem_append.mp h).resolve_right λ z=>c (List.mem_singleton.mp z)
    rw [a8Q k T hT hv w,if_neg Bool.false_ne_true]
    exact a8Q k T hT hv u
theorem c3U {n:Nat} {ts:List ζζ} (S:List Nat) {v:Nat} (h:v ∈ S) (u:Nat):runR n ts S v u = false:=a8Q S.length S rfl h u
theorem b9X {n:Nat} {ts:List ζζ} {ms S:List Nat} {v:Nat} (B:BagsM n ms (runR n ts S)) (hv:v < n) (h:v ∈ S):ms.getD v 0 = 0 :=
 Nat.eq_of_testBit_eq λ u=>by rw [B.bit v hv,c3U S h,Nat.zero_testBit]
theorem b9Y {n:Nat} {ts:List ζζ} {ms S:List Nat} {v g:Nat} (B:BagsM n ms (runR n ts S)) (nd:S.Nodup) (gl:g < 2 ^ n) (hS:∀ u:Nat,u ∈ S ↔ g.testBit u = true) (hv:v < n) (h:v ∉ S):ms.getD v 0 ≠ 0/\popF (ms.getD v 0) = degF n ts g v + 1:=by
 have hn:∀ a ∈ S,a < n:=λ a ha=>by
  apply Classical.byContradiction
  intro c
  have:=(hS a).mp ha
  rw [a2F gl (by omega)] at this
  cases this
 have R:=a3K (ts:=ts) nd hn
 have vv:runR n ts S v v = true:=(R.path v v hv hv h h).mpr (.inl rfl)
 have g10:g < 2 ^ 10:=Nat.lt_of_lt_of_le gl (Nat.pow_le_pow_right (by decide) B.n10)
 have pm:S.Perm (a0X g):=(List.perm_ext_iff_of_nodup nd (List.nodup_range.sublist List.filter_sublist)).mpr λ u=>(hS u).trans (a5F g10).symm
 have e:=b3X (ts:=ts) (pm.nodup_iff.mp nd) (λ a ha=>hn a (pm.mem_iff.mpr ha)) pm hv (λ z=>h (pm.mem_iff.mpr z))
 refine ⟨λ z=>?_,?_⟩
 ·have b:=B.bit v hv v
  rw [z,Nat.zero_testBit,vv] at b
  cases b
 ·unfold popF degF
  rw [a3W B hv,<- e]
  unfold a1A
  have cnt:∀ l:List Nat,l.Nodup->v ∈ l->(l.filter (runR n ts S v ·)).length = (l.filter λ u=>runR n ts S v u && !decide (u = v)).length + 1:=by
   intro l
   induction l with
   | nil=>intro _ h; exact absurd h List.not_mem_nil
   | cons a r ih =>
    intro ndl hm
    obtain ⟨na,nr⟩:=List.nodup_cons.mp ndl
    by_cases c:a = v
    ·subst c
     rw [List.filter_cons,vv,if_pos rfl,List.filter_cons,vv,decide_eq_true rfl]
     simp only [Bool.not_true,Bool.and_false,Bool.false_eq_true,if_false,List.length_cons]
     congr 2
     refine List.filter_congr λ u hu=>?_
     rw [decide_eq_false (λ z=>na (by rw [<- z]; exact hu))]
     simp
    ·have hr:v ∈ r:=(List.mem_cons.mp hm).resolve_left λ z=>c z.symm
     rw [List.filter_cons,List.filter_cons,decide_eq_false c]
     simp only [Bool.not_false,Bool.and_true]
     split
     ·rw [List.length_cons,List.length_cons,ih nr hr]
     ·exact ih nr hr
  exact cnt _ List.nodup_range (List.mem_range.mpr hv)
def a3Z (g k S v:Nat):Prop:=S.testBit v = true/\(S - 2 ^ v < g\/(S - 2 ^ v = g/\v < k))
structure CostI (n:Nat) (ts:List ζζ) (g k:Nat) (cs:List Int):Prop where
 len:cs.length = 2 ^ n
 nil:cs.getD 0 0 = -1
 top:∀ S,cs.getD S 0 <= (n:Int)
 le:∀ S,0 < S->S < 2 ^ n->∀ v,a3Z g k S v->cs.getD S 0 <= max (cs.getD (S - 2 ^ v) 0) (degF n ts (S - 2 ^ v) v:Int)
 ex:∀ S,0 < S->S < 2 ^ n->(cs.getD S 0 = (n:Int)/\∀ v,¬ a3Z g k S v)\/∃ v,a3Z g k S v/\cs.getD S 0 = max (cs.getD (S - 2 ^ v) 0) (degF n ts (S - 2 ^ v) v:Int)
structure CostOk (n:Nat) (ts:List ζζ) (cs:List Int):Prop where
 len:cs.length = 2 ^ n
 nil:cs.getD 0 0 = -1
 le:∀ S,0 < S->S < 2 ^ n->∀ v,S.testBit v = true->cs.getD S 0 <= max (cs.getD (S - 2 ^ v) 0) (degF n ts (S - 2 ^ v) v:Int)
 ex:∀ S,0 < S->S < 2 ^ n->∃ v,S.testBit v = true/\cs.getD S 0 = max (cs.getD (S - 2 ^ v) 0) (degF n ts (S - 2 ^ v) v:Int)
theorem b4C (n:Nat) (ts:List ζζ):CostI n ts 0 0 (-1 :: List.replicate (2 ^ n - 1) (n:Int)):=by
 have p:0 < 2 ^ n:=Nat.pow_pos (by decide)
 have at_:∀ S,0 < S->S < 2 ^ n->(-1 :: List.replicate (2 ^ n - 1) (n:Int)).getD S 0 = (n:Int):=λ S h0 h1=>by
  obtain ⟨k,rfl⟩:∃ k,S = k + 1:=⟨S - 1,by omega⟩
  rw [List.getD_cons_succ,τα,List.getElem?_replicate,if_pos (by omega)]; rfl
 have no:∀ S v,¬ a3Z 0 0 S v:=λ S v ⟨_,h⟩=>by omega
 refine ⟨by rw [List.length_cons,List.length_replicate]; omega,rfl,λ S=>?_,λ S _ _ v h=>absurd h (no S v),λ S h0 h1=>.inl ⟨at_ S h0 h1,no S⟩⟩
 by_cases c:S = 0
 ·subst c; show (-1:Int) <= _; omega
 ·by_cases d:S < 2 ^ n
  ·rw [at_ S (by omega) d]; omega
  ·rw [τα,List.getElem?_eq_none (by rw [List.length_cons,List.length_replicate]; omega)]
   show (0:Int) <= _
   omega
theorem b7L {n:Nat} {ts:List ζζ} {g k:Nat} {cs:List Int} (I:CostI n ts g k cs) (h:g.testBit k = true):CostI n ts g (k + 1) cs:=by
 have iff:∀ S v,a3Z g (k + 1) S v ↔ a3Z g k S v:=λ S v=>by
  unfold a3Z
  constructor
  ·rintro ⟨t,h1 | ⟨h1,h2⟩⟩
   ·exact ⟨t,.inl h1⟩
   ·refine ⟨t,.inr ⟨h1,?_⟩⟩
    apply Classical.byContradiction
    intro c
    have:v = k:=by omega
    subst this
    have:=a4Y t v
    rw [h1,h,decide_eq_true rfl] at this
    simp at this
  ·rintro ⟨t,h1 | ⟨h1,h2⟩⟩
   ·exact ⟨t,.inl h1⟩
   ·exact ⟨t,.inr ⟨h1,by omega⟩⟩
 refine ⟨I.len,I.nil,I.top,λ S h0 h1 v d=>I.le S h0 h1 v ((iff S v).mp d),λ S h0 h1=>?_⟩
 rcases I.ex S h0 h1 with ⟨a,b⟩ | ⟨v,d,e⟩
 ·exact .inl ⟨a,λ v z=>b v ((iff S v).mp z)⟩
 ·exact .inr ⟨v,(iff S v).mpr d,e⟩
theorem b7M {cs:List Int} {i j:Nat} {x:Int} (h:i < cs.length):(cs.set i x).getD j 0 = if j = i then x else cs.getD j 0:=by
 rw [τα,τα,List.getElem?_set]
 by_cases c:i = j
 ·subst c; rw [if_pos rfl,if_pos h,if_pos rfl]; rfl
 ·rw [if_neg c,if_neg (Ne.symm c)]
theorem c6G (n:Nat) (ts:List ζζ) (g v:Nat):degF n ts g v <= n:=b6K n _ v
theorem b7N {n:Nat} {ts:List ζζ} {g k:Nat} {cs:List Int} (I:CostI n ts g k cs) (hk:k < n) (hg:g < 2 ^ n) (h:g.testBit k = false) :
  CostI n ts g (k + 1) (cs.set (g ||| 2 ^ k) (min (cs.getD (g ||| 2 ^ k) 0) (max (cs.getD g 0) (degF n ts g k:Int)))):=by
 obtain ⟨t,e,s⟩:=a8P h
 have ml:(g ||| 2 ^ k) < 2 ^ n:=Nat.or_lt_two_pow hg (Nat.pow_lt_pow_right (by decide) hk)
 have p:0 < 2 ^ k:=Nat.pow_pos (by decide)
 generalize g ||| 2 ^ k = M at *
 have x1:max (cs.getD g 0) (degF n ts g k:Int) <= (n:Int):=by
  have:=I.top g
  have:=c6G n ts g k
  omega
 generalize ex:max (cs.getD g 0) (degF n ts g k:Int) = x at *
 have G:∀ j,(cs.set M (min (cs.getD M 0) x)).getD j 0 = if j = M then min (cs.getD M 0) x else cs.getD j 0:=λ j=>b7M (by rw [I.len]; exact ml)
 have low:∀ S v,a3Z g (k + 1) S v->(cs.set M (min (cs.getD M 0) x)).getD (S - 2 ^ v) 0 = cs.getD (S - 2 ^ v) 0:=λ S v ⟨_,d⟩=>by
  rw [G,if_neg (by omega)]
 have iff:∀ S v,a3Z g (k + 1) S v ↔ a3Z g k S v\/(S = M/\v = k):=λ S v=>by
  unfold a3Z
  constructor
  ·rintro ⟨tt,h1 | ⟨h1,h2⟩⟩
   ·exact .inl ⟨tt,.inl h1⟩
   ·by_cases c:v = k
    ·subst c
     have:=a2M tt
     exact .inr ⟨by omega,rfl⟩
    ·exact .inl ⟨tt,.inr ⟨h1,by omega⟩⟩
  ·rintro (⟨tt,h1 | ⟨h1,h2⟩⟩ | ⟨rfl,rfl⟩)
   ·exact ⟨tt,.inl h1⟩
   ·exact ⟨tt,.inr ⟨h1,by omega⟩⟩
   ·exact ⟨t,.inr ⟨e,by omega⟩⟩
 refine ⟨by rw [List.length_set]; exact I.len,by rw [G,if_neg (by omega)]; exact I.nil,λ S=>?_,λ S h0 h1 v d=>?_,λ S h0 h1=>?_⟩
 ·rw [G]
  split
  ·omega
  ·exact I.top S
 ·rw [low S v d,G]
  rcases (iff S v).mp d with d' | ⟨rfl,rfl⟩
  ·have:=I.le S h0 h1 v d'
   split
   ·rename_i c; rw [<- c]; omega
   ·exact this
  ·rw [if_pos rfl,e,ex]; omega
 ·by_cases c:S = M
  ·subst c
   right
   by_cases d:x < cs.getD S 0
   ·refine ⟨k,(iff S k).mpr (.inr ⟨rfl,rfl⟩),?_⟩
    rw [G,if_pos rfl,G,if_neg (by omega),e,ex]
    omega
   ·rcases I.ex S h0 h1 with ⟨a,b⟩ | ⟨v,dd,ee⟩
    ·refine ⟨k,(iff S k).mpr (.inr ⟨rfl,rfl⟩),?_⟩
     rw [G,if_pos rfl,G,if_neg (by omega),e,ex]
     omega
    ·have d':=(iff S v).mpr (.inl dd)
     refine ⟨v,d',?_⟩
     rw [low S v d',G,if_pos rfl,<- ee]
     omega
  ·rcases I.ex S h0 h1 with ⟨a,b⟩ | ⟨v,dd,ee⟩
   ·refine .inl ⟨by rw [G,if_neg c]; exact a,λ v z=>?_⟩
    rcases (iff S v).mp z with z | z
    ·exact b v z
    ·exact c z.1
   ·have d':=(iff S v).mpr (.inl dd)
    exact .inr ⟨v,d',by rw [low S v d',G,if_neg c]; exact ee⟩
theorem b7O {n:Nat} {ts:List ζζ} {g:Nat} {cs:List Int} (I:CostI n ts g n cs):CostI n ts (g + 1) 0 cs:=by
 have iff:∀ S,S < 2 ^ n->∀ v,a3Z (g + 1) 0 S v ↔ a3Z g n S v:=λ S hS v=>by
  unfold a3Z
  constructor
  ·rintro ⟨t,h1 | h1⟩
   ·have vn:v < n:=by
     apply Classical.byContradiction
     intro c
     rw [a2F hS (by omega)] at t
     cases t
    by_cases c:S - 2 ^ v = g
    ·exact ⟨t,.inr ⟨c,vn⟩⟩
    ·exact ⟨t,.inl (by omega)⟩
   ·omega
  ·rintro ⟨t,h1 | ⟨h1,_⟩⟩
   ·exact ⟨t,.inl (by omega)⟩
   ·exact ⟨t,.inl (by omega)⟩
 refine ⟨I.len,I.nil,I.top,λ S h0 h1 v d=>I.le S h0 h1 v ((iff S h1 v).mp d),λ S h0 h1=>?_⟩
 rcases I.ex S h0 h1 with ⟨a,b⟩ | ⟨v,d,e⟩
 ·exact .inl ⟨a,λ v z=>b v ((iff S h1 v).mp z)⟩
 ·exact .inr ⟨v,(iff S h1 v).mpr d,e⟩
theorem b9Z {n:Nat} {ts:List ζζ} {cs:List Int} (I:CostI n ts (2 ^ n) 0 cs):CostOk n ts cs:=by
 have all:∀ S,S < 2 ^ n->∀ v,S.testBit v = true->a3Z (2 ^ n) 0 S v:=λ S hS v t=>⟨t,.inl (Nat.lt_of_le_of_lt (Nat.sub_le _ _) hS)⟩
 refine ⟨I.len,I.nil,λ S h0 h1 v t=>I.le S h0 h1 v (all S h1 v t),λ S h0 h1=>?_⟩
 rcases I.ex S h0 h1 with ⟨a,b⟩ | ⟨v,d,e⟩
 ·exact absurd (all S h1 _ (b7J h0).1) (b _)
 ·exact ⟨v,d.1,e⟩
def b0H (K:Φρ):Sp:=λ vs H Q _=>∃ (p:Addr) (qs:List Addr) (n:Nat) (ts:List ζζ),vs = [.ref p]/\H p = some (.lst (qs.map V.ref))/\qs.length = 2 ^ n/\n <= 10/\(∀ (g:Nat) q,qs[g]? = some q->BagQ n ts H q g) /\
 ∀ r cs H',Same H H'->H r = none->H' r = some (.lst (cs.map V.int))->CostOk n ts cs->Q (.ref r) H'
def c3V (K:Φρ):Sp:=λ vs H Q _=>∃ (g:V) (n:Nat) (ts:List ζζ),vs = [g]/\GraphV K H g n ts/\(∀ t ∈ ts,0 <= t.1/\t.1 < t.2/\t.2 < (n:Int))/\n <= 10 /\
 ∀ r cs H',Same H H'->H r = none->H' r = some (.lst (cs.map V.int))->CostOk n ts cs->Q (.ref r) H'
end K
namespace K
open PySem L2 Lw Bg
section
variable {P:Program} {w:World} {K:Φρ} {mg:Str->Option Value} {base:Heap}
abbrev DZ5 (K:PySem.W.Frag) (mg:Str->Option Value):=Dn K mg "all_bags" a7U ["graph"]
set_option maxHeartbeats 8000000 in
theorem b1P (B:Bl mg) (dZ11:DZ11 K mg) (dZ31:DZ31 K mg) (dZ5:DZ5 K mg):FnOk P w K mg base CX0 2 dZ5.f dZ5.fd ["graph"] (b7K K):=by
 have gZ11:FnOk P w K mg base CX0 1 _ _ _ _:=a4N B dZ11
 have gZ31:FnOk P w K mg base CX0 1 _ _ _ _:=a5O B dZ31
 refine dZ5.F.ok sc_all_bags (λ vs H Q E h=>?_) (λ cdv A outer s H vs Q E hr h=>?_)
 ·obtain ⟨g,n,ts,rfl,_⟩:=h
  rfl
 obtain ⟨g,n,ts,rfl,hG,okt,n10,q⟩:=h
 obtain ⟨pg,ta,rfl,hP,hT⟩:=id hG
 have p10:2 ^ n <= 2 ^ 10:=Nat.pow_le_pow_right (by decide) n10
 have p0:0 < 2 ^ n:=Nat.pow_pos (by decide)
 have e10:(2:Nat) ^ 10 = 1024:=by decide
 refine ⟨_,(a0C (a0J (i:=1) sc_all_bags.nd rfl (Or.inl rfl) (a1M (a0A (a0G gZ11 hr rfl dZ11.m dZ11.F.kp dZ11.b .nil a0L (a0A (pv 0) a0B)) a0B)))
   (a0C (a1R PassesOwn.never rfl (a3D rfl B.range (a0A a0F (a0A (a0O a4F a0F (a0S (a1K (K:=K) rfl) (pv 0) a0F (λ _ _=>rfl))) a0B))) (a0H (i:=2) sc_all_bags.nd rfl (Or.inl rfl))
   (a0C (a0J (i:=3) sc_all_bags.nd rfl (Or.inl rfl) (a0O a6B (b4W (K:=K) rfl PySem.F.plainAttrs_int PySem.F.slot_int_bit_length PySem.F.type_int_bit_length b5G (pv 2)) a0F))
   (a0D (a3C (a4I (K:=K) rfl PySem.F.plainAttrs_list PySem.F.slot_list_append PySem.F.type_list_append a7L (pv 1) (a0A (a0G gZ31 hr rfl dZ31.m dZ31.F.kp dZ31.b .nil a0L (a0A (a0S (a0I (K:=K) rfl) (pv 1) (a0O a6B (pv 2) (a0O a4F a0F (pv 3))) (λ _ _=>rfl)) (a0A (pv 3) a0B))) a0B))))))
   (a0D (a0M (pv 1))))),?_⟩
 refine ⟨_,rfl,.ref pg,n,ts,rfl,hG,okt,n10,λ p1 ms1 H1 s1 f1 h1 B1=>?_⟩
 refine ⟨(by show 1 <= 1000; decide),λ p H2 n2=>?_⟩
 have s02:Same H H2:=s1.trans n2.same
 have fp:H p = none:=s1.free n2.fresh
 have sh:=shl1 n
 obtain ⟨N,hN⟩:∃ N,N = 2 ^ n - 1:=⟨_,rfl⟩
 refine ⟨_,rfl,pg,_,_,_,rfl,rfl,s02.tupq hP,rfl,_,_,rfl,rfl,⟨by omega,by omega,by decide⟩,_,_,rfl,⟨by decide,by decide,by rw [sh]; omega,by rw [sh]; omega⟩,?_⟩
 rw [show ((1:Int) * 2 ^ ((n:Nat):Int).toNat - 1).toNat = N by rw [sh]; omega]
 refine a1O (lo:=1) (n:=N) (λ i σ H'=>∃ (qs:List Addr) (gg ll:Option V),σ = [some (.ref pg),some (.ref p),gg,ll]/\Same H H'/\H' p = some (.lst (qs.map V.ref))/\qs.length = i + 1/\p ∉ qs/\∀ (g:Nat) q,qs[g]? = some q->BagQ n ts H' q g) ⟨[p1],none,none,rfl,s02,n2.here,rfl,λ z=>?_,λ g q e=>?_⟩ ?_ ?_
 ·have z:=List.mem_singleton.mp z
  have:=n2.fresh
  rw [z,h1] at this
  cases this
 ·cases g with
  | zero =>
   have e':q = p1:=by
    have:some p1 = some q:=e
    injection this with this
    exact this.symm
   subst e'
   exact ⟨ms1,[],n2.same _ _ h1,.nil,λ u=>by rw [Nat.zero_testBit]; exact ⟨λ z=>absurd z List.not_mem_nil,λ z=>by cases z⟩,B1⟩
  | succ g=>cases e
 ·rintro i σ H3 hi ⟨qs,gg,ll,rfl,s3,h3,lq,np,bq⟩
  have ei:(1:Int) + (i:Int) = ((i + 1:Nat):Int):=by omega
  rw [ei]
  obtain ⟨tb,tp⟩:=b7J (m:=i + 1) (by omega)
  obtain ⟨L,hL⟩:∃ L,L = Builtin.Int.intBits ((i + 1:Nat):Int) - 1:=⟨_,rfl⟩
  rw [<- hL] at tb
  have Ln:L < n:=by
   apply Classical.byContradiction
   intro c
   rw [a2F (k:=n) (by omega) (by omega)] at tb
   cases tb
  have le:=a2M tb
  refine ⟨_,rfl,rfl,i + 1,rfl,rfl,_,_,rfl,rfl,?_⟩
  dsimp only
  have eL:((Builtin.Int.intBits ((i + 1:Nat):Int):Nat):Int) - 1 = (L:Int):=by omega
  rw [eL]
  have gl:i + 1 - 2 ^ L < qs.length:=by
   have:0 < 2 ^ L:=Nat.pow_pos (by decide)
   omega
  obtain ⟨ms,S,hq,nd,hS,BM⟩:=bq _ _ (List.getElem?_eq_getElem gl)
  have hx:(qs.map V.ref)[i + 1 - 2 ^ L]? = some (V.ref qs[i + 1 - 2 ^ L]):=by rw [List.getElem?_map,List.getElem?_eq_getElem gl]; rfl
  have ex:((i + 1:Nat):Int) - 1 * 2 ^ ((L:Nat):Int).toNat = ((i + 1 - 2 ^ L:Nat):Int):=by
   rw [shl1 L]; omega
  refine ⟨_,rfl,.inl ⟨rfl,_,SqL.of h3⟩,_,rfl,_,rfl,_,rfl,_,_,rfl,rfl,⟨by omega,by omega,by decide⟩,_,_,rfl,rfl,p,_,_,V.ref qs[i + 1 - 2 ^ L],rfl,rfl,SqL.of h3,(by rw [ex]; exact a1F hx),?_⟩
  refine ⟨_,rfl,_,n,ms,_,L,rfl,SqL.of hq,BM,Ln,λ p4 H4 s4 f4 h4=>?_⟩
  refine ⟨p,_,_,rfl,rfl,s4 _ _ h3,(by rw [List.length_map]; omega),λ H5 c5=>?_⟩
  have p4p:p4 ≠ p:=λ z=>by rw [z,h3] at f4; cases f4
  refine ⟨qs ++ [p4],_,_,rfl,(s3.trans s4).chg fp c5,?_,by rw [List.length_append,lq]; rfl,λ z=>?_,λ g q e=>?_⟩
  ·rw [c5.here,List.map_append]; rfl
  ·rcases List.mem_append.mp z with z | z
   ·exact np z
   ·exact p4p (List.mem_singleton.mp z).symm
  ·by_cases c:g < qs.length
   ·rw [List.getElem?_append_left c] at e
    obtain ⟨ms',S',hq',nd',hS',BM'⟩:=bq g q e
    have qp:q ≠ p:=λ z=>np (by rw [<- z]; exact List.mem_of_getElem? e)
    exact ⟨ms',S',(c5.rest q qp).trans (s4 _ _ hq'),nd',hS',BM'⟩
   ·rw [List.getElem?_append_right (by omega)] at e
    have g0:g - qs.length = 0:=by
     apply Classical.byContradiction
     intro z
     rw [List.getElem?_eq_none (by show 1 <= _; omega)] at e
     cases e
    rw [g0] at e
    have e':q = p4:=by
     have:some p4 = some q:=e
     injection this with this
     exact this.symm
    subst e'
    have gi:g = i + 1:=by omega
    subst gi
    have nL:L ∉ S:=λ z=>by
     have:=(hS L).mp z
     rw [a4Y tb,decide_eq_true rfl] at this
     simp at this
    refine ⟨a6I L ms,S ++ [L],(c5.rest q p4p).trans h4,List.nodup_append.mpr ⟨nd,by simp,λ x hx y hy z=>?_⟩,λ u=>?_,by rw [a2D]; exact b5I BM Ln⟩
    ·rw [List.mem_singleton.mp hy] at z
     rw [z] at hx
     exact nL hx
    ·rw [List.mem_append,List.mem_singleton,hS,a4Y tb]
     by_cases d:u = L
     ·subst d; rw [tb]; simp
     ·simp [d]
 ·rintro σ H3 ⟨qs,gg,ll,rfl,s3,h3,lq,np,bq⟩
  exact ⟨_,rfl,q p qs H3 s3 fp h3 (by omega) bq⟩
abbrev DZ9 (K:PySem.W.Frag) (mg:Str->Option Value):=Dn K mg "costs_along" a4S ["bags"]
set_option maxHeartbeats 8000000 in
theorem a6Z (B:Bl mg) (dZ24:DZ24 K mg) (dZ9:DZ9 K mg):FnOk P w K mg base CX0 2 dZ9.f dZ9.fd ["bags"] (b0H K):=by
 have gZ24:FnOk P w K mg base CX0 1 _ _ _ _:=a4O B dZ24
 refine dZ9.F.ok sc_costs_along (λ vs H Q E h=>?_) (λ cdv A outer s H vs Q E hr h=>?_)
 ·obtain ⟨p,qs,n,ts,rfl,_⟩:=h
  rfl
 obtain ⟨p,qs,n,ts,rfl,hp,lq,n10,bq,q⟩:=h
 have p10:2 ^ n <= 2 ^ 10:=Nat.pow_le_pow_right (by decide) n10
 have p0:0 < 2 ^ n:=Nat.pow_pos (by decide)
 have e10:(2:Nat) ^ 10 = 1024:=by decide
 refine ⟨_,(a0C (a0J (i:=1) sc_costs_along.nd rfl (Or.inr rfl) (a0K (a1E (K:=K) rfl) rfl B.len (by decide +kernel) (a0A (a0S (a0I (K:=K) rfl) (pv 0) a0F (λ _ _=>rfl)) a0B)))
   (a0C (a0J (i:=2) sc_costs_along.nd rfl (Or.inl rfl) (a0G gZ24 hr rfl dZ24.m dZ24.F.kp dZ24.b .nil a0L (a0A (pv 1) a0B)))
   (a0C (a0J (i:=3) sc_costs_along.nd rfl (Or.inl rfl) (a0O c2Y (a1M (a0A (b8C b1Y a0F) a0B)) (a9K ["mask", "n"] [none,some 1]  (by kernel_rfl) rfl (a3D rfl B.range (a0A a0F (a0A (a0K (a1E (K:=K) rfl) rfl B.len (by decide +kernel) (a0A (pv 0) a0B)) a0B))) (λ _ _ _ _ _=>(a0H (i:=0) (show (["mask", "n"]:List Str).Nodup by decide +kernel) rfl (Or.inl rfl))) (λ _ _ _ _ _=>a3V) (λ _ _ _ _ _=>(pv 1)))))
   (a0C (a1R PassesOwn.never rfl (a8A (K:=K) rfl rfl B.enumerate (a0A (pv 0) a0B)) (a2X (K:=K) (n:=2) rfl rfl (a1B (a0H (i:=4) sc_costs_along.nd rfl (Or.inl rfl)) (a1B (a0H (i:=5) sc_costs_along.nd rfl (Or.inl rfl)) a2V)))
   (a0D (a1R PassesOwn.never rfl (a8A (K:=K) rfl rfl B.enumerate (a0A (pv 5) a0B)) (a2X (K:=K) (n:=2) rfl rfl (a1B (a0H (i:=6) sc_costs_along.nd rfl (Or.inl rfl)) (a1B (a0H (i:=7) sc_costs_along.nd rfl (Or.inl rfl)) a2V)))
   (a0D (a3T (a0P (K:=K) rfl (pv 7) (λ _=>rfl))
   (a0C (a0J (i:=8) sc_costs_along.nd rfl (Or.inl rfl) (a0O b8D (pv 4) (a0O a4F a0F (pv 6))))
   (a0D (a4C (a0K (a3E rfl) rfl B.min (by decide +kernel) (a0A (a0S (a0I (K:=K) rfl) (pv 3) (pv 8) (λ _ _=>rfl)) (a0A (a0K (a6C rfl) rfl B.max (by decide +kernel) (a0A (a0S (a0I (K:=K) rfl) (pv 3) (pv 4) (λ _ _=>rfl)) (a0A (a0O a6B (a0S (a0I (K:=K) rfl) (pv 2) (pv 7) (λ _ _=>rfl)) a0F) a0B))) a0B))) (a4B (pv 3) (pv 8) a1Z))))
   a1S)))))
   (a0D (a0M (pv 3))))))),?_⟩
 obtain ⟨ms0,S0,hq0,nd0,hS0,B0⟩:=bq 0 _ (List.getElem?_eq_getElem (show 0 < qs.length by omega))
 have x0:(qs.map V.ref)[0]? = some (V.ref qs[0]):=by rw [List.getElem?_map,List.getElem?_eq_getElem (show 0 < qs.length by omega)]; rfl
 refine ⟨_,rfl,p,_,_,_,rfl,rfl,SqL.of hp,a1F (j:=0) x0,_,_,rfl,.inl (SqL.of hq0),?_⟩
 rw [a1U,B0.len]
 refine ⟨_,rfl,n,rfl,n10,λ pz H1 n1=>?_⟩
 refine ⟨_,rfl,(by show 1 <= 1000; decide),λ pm H2 n2=>?_⟩
 have s02:Same H H2:=n1.same.trans n2.same
 obtain ⟨N,hN⟩:∃ N,N = 2 ^ n - 1:=⟨_,rfl⟩
 have lq':(qs.map V.ref).length = 2 ^ n:=by rw [List.length_map,lq]
 refine ⟨_,rfl,p,_,rfl,.inl (SqL.of (s02 _ _ hp)),_,_,rfl,⟨by decide,by decide,by omega,by omega⟩,?_⟩
 rw [show ((((qs.map V.ref).length:Nat):Int) - 1).toNat = N by omega]
 refine c0U (λ _=>some (.int (n:Int))) (Nat.le_trans (show N <= 5000 by omega) (by decide)) (λ j H3 N' hj s3 hN'=>?_) (λ H3 pl s3 hfree=>?_)
 ·exact ⟨_,rfl,hN' H3 s3⟩
 obtain ⟨G,hnew⟩:∃ G,G = upd H3 pl (.lst ((List.range N).filterMap λ _=>some (V.int (n:Int)))):=⟨_,rfl⟩
 have nG:New H3 pl (.lst ((List.range N).filterMap λ _=>some (V.int (n:Int)))) G:=by rw [hnew]; exact New.mk0 hfree
 rw [<- hnew]
 have sG:Same H2 G:=s3.trans nG.same
 have eN:(List.range N).filterMap (λ _=>some (V.int (n:Int))) = (List.replicate N (n:Int)).map V.int:=by
  rw [List.map_replicate]
  have:∀ k,(List.range k).filterMap (λ _=>some (V.int (n:Int))) = List.replicate k (V.int (n:Int)):=λ k=>by
   induction k with
   | zero=>rfl
   | succ k ih=>rw [List.range_succ,List.filterMap_append,ih,List.replicate_succ']; rfl
  exact this N
 have hl:=nG.here
 rw [eN] at hl
 refine ⟨pm,pl,_,_,rfl,rfl,sG _ _ n2.here,hl,(by rw [List.length_map,List.length_replicate]; show 1 + N <= 5000; omega),λ pt H4 n4=>?_⟩
 have n4':New G pt (.lst ((-1 :: List.replicate (2 ^ n - 1) (n:Int)).map V.int)) H4:=by rw [<- hN]; exact n4
 have s14:Same H1 H4:=n2.same.trans (sG.trans n4.same)
 have s04:Same H H4:=n1.same.trans s14
 have fpt:H pt = none:=s02.free (sG.free n4.fresh)
 have pzt:pz ≠ pt:=λ z=>by
  have:=n4.fresh
  rw [<- z,(n2.same.trans sG) _ _ n1.here] at this
  cases this
 have minif:∀ i j:Int,(if j < i then j else i) = min i j:=λ i j=>by omega
 have maxif:∀ i j:Int,(if j > i then j else i) = max i j:=λ i j=>by omega
 have csAt:∀ {cs:List Int} {M:Nat},M < cs.length->atI (cs.map V.int) (M:Int) = some (.int (cs.getD M 0)):=λ {cs M} h=>a1F (by
  rw [List.getElem?_map,List.getElem?_eq_getElem h,τα,List.getElem?_eq_getElem h]; rfl)
 refine ⟨_,rfl,p,rfl,⟨_,SqL.of (s04 _ _ hp)⟩,?_⟩
 refine a8B (xs:=qs.map V.ref) (λ i σ H'=>∃ (cs:List Int) (gg ll vv bb mm:Option V),σ = [some (.ref p),some (.int n),some (.ref pz),some (.ref pt),gg,ll,vv,bb,mm]/\Same H H'/\H' pz = some (.lst (a2L (2 ^ n)))/\H' pt = some (.lst (cs.map V.int))/\CostI n ts i 0 cs) ⟨_,none,none,none,none,none,rfl,s04,s14 _ _ n1.here,n4'.here,b4C n ts⟩ (λ i σ H' _ ⟨_,_,_,_,_,_,_,s,_⟩=>SqL.of (s _ _ hp)) ?_ ?_
 ·rintro g x σ H5 pe H6 hx ⟨cs,gg,ll,vv,bb,mm,rfl,s5,hz5,ht5,CI⟩ n6
  rw [List.getElem?_map] at hx
  obtain ⟨qg,hqg,rfl⟩:=Option.map_eq_some_iff.mp hx
  have gl:g < 2 ^ n:=by
   rw [<- lq]
   exact (List.getElem?_eq_some_iff.mp hqg).1
  obtain ⟨ms,S,hms,nd,hS,BM⟩:=bq g qg hqg
  refine ⟨pe,_,rfl,SqT.of n6.here,rfl,_,_,rfl,_,_,rfl,rfl,?_⟩
  have s6:Same H H6:=s5.trans n6.same
  refine ⟨_,rfl,qg,rfl,⟨_,SqL.of (s6 _ _ hms)⟩,?_⟩
  refine a8B (xs:=natV ms) (λ v σ H'=>∃ (cs:List Int) (vv bb mm:Option V),σ = [some (.ref p),some (.int n),some (.ref pz),some (.ref pt),some (.int (g:Int)),some (.ref qg),vv,bb,mm]/\Same H H'/\H' pz = some (.lst (a2L (2 ^ n)))/\H' pt = some (.lst (cs.map V.int))/\CostI n ts g v cs) ⟨cs,_,_,_,rfl,s6,n6.same _ _ hz5,n6.same _ _ ht5,CI⟩ (λ i σ H' _ ⟨_,_,_,_,_,s,_⟩=>SqL.of (s _ _ hms)) ?_ ?_
  ·rintro v x σ H7 pf H8 hx ⟨cs,vv,bb,mm,rfl,s7,hz7,ht7,CI⟩ n8
   have vn:v < n:=by
    have:=(List.getElem?_eq_some_iff.mp hx).1
    rw [a1U,BM.len] at this
    exact this
   have ex:x = .int ((ms.getD v 0:Nat):Int):=by
    rw [List.getElem?_map,BM.get vn] at hx
    injection hx with hx
    exact hx.symm
   subst ex
   refine ⟨pf,_,rfl,SqT.of n8.here,rfl,_,_,rfl,_,_,rfl,rfl,?_⟩
   have s8:Same H H8:=s7.trans n8.same
   have hz8:=n8.same _ _ hz7
   have ht8:=n8.same _ _ ht7
   refine ⟨_,rfl,_,rfl,?_⟩
   by_cases c:v ∈ S
   ·rw [b9X BM vn c]
    exact iteF ⟨cs,_,_,_,rfl,s8,hz8,ht8,b7L CI ((hS v).mp c)⟩
   ·obtain ⟨nz,pop⟩:=b9Y BM nd gl hS vn c
    have gb:g.testBit v = false:=by
     cases e:g.testBit v with
     | false=>rfl
     | true=>exact absurd ((hS v).mpr e) c
    rw [show ((((ms.getD v 0:Nat):Int)) != 0) = true from by simpa using nz]
    refine iteT ?_
    obtain ⟨tb,sb,ab⟩:=a8P gb
    have ml:(g ||| 2 ^ v) < 2 ^ n:=Nat.or_lt_two_pow gl (Nat.pow_lt_pow_right (by decide) vn)
    refine ⟨_,rfl,_,rfl,_,_,rfl,rfl,⟨by omega,by omega,by decide⟩,_,_,rfl,rfl,?_⟩
    dsimp only
    rw [shl1,b2D]
    have bl:ms.getD v 0 < 2 ^ n:=a2G λ u hu=>by
     rw [BM.bit v vn] at hu
     exact (BM.far v u hu).2
    have lc:=CI.len
    refine ⟨_,rfl,_,rfl,pt,_,_,_,rfl,rfl,SqL.of ht8,csAt (by omega),_,rfl,_,rfl,pt,_,_,_,rfl,rfl,SqL.of ht8,csAt (by omega),_,rfl,_,rfl,pz,_,_,_,rfl,rfl,SqL.of hz8,a6Q bl,_,_,rfl,rfl,_,_,rfl,_,_,rfl,?_⟩
    rw [minif,maxif,show (((popF (ms.getD v 0):Nat):Int) - 1) = (degF n ts g v:Int) by omega]
    refine ⟨_,rfl,_,rfl,pt,_,_,g ||| 2 ^ v,rfl,rfl,ht8,a3G (by rw [List.length_map]; omega),λ H9 c9=>?_⟩
    refine ⟨_,_,_,_,rfl,s8.chg fpt c9,(c9.rest pz pzt).trans hz8,?_,b7N CI vn gl gb⟩
    rw [c9.here,List.map_set]
  ·rintro σ H7 ⟨cs,vv,bb,mm,rfl,s7,hz7,ht7,CI⟩
   rw [a1U,BM.len] at CI
   exact ⟨cs,_,_,_,_,_,rfl,s7,hz7,ht7,b7O CI⟩
 ·rintro σ H5 ⟨cs,gg,ll,vv,bb,mm,rfl,s5,hz5,ht5,CI⟩
  rw [lq'] at CI
  exact ⟨_,rfl,q pt cs H5 s5 fpt ht5 (b9Z CI)⟩
abbrev DZ8 (K:PySem.W.Frag) (mg:Str->Option Value):=Dn K mg "costs" b7I ["graph"]
set_option maxHeartbeats 4000000 in
theorem c0A (B:Bl mg) (dZ24:DZ24 K mg) (dZ11:DZ11 K mg) (dZ31:DZ31 K mg) (dZ5:DZ5 K mg) (dZ9:DZ9 K mg) (dZ8:DZ8 K mg):FnOk P w K mg base CX0 3 dZ8.f dZ8.fd ["graph"] (c3V K):=by
 have gZ5:FnOk P w K mg base CX0 2 _ _ _ _:=b1P B dZ11 dZ31 dZ5
 have gZ9:FnOk P w K mg base CX0 2 _ _ _ _:=a6Z B dZ24 dZ9
 refine dZ8.F.ok b9W (λ vs H Q E h=>?_) (λ cdv A outer s H vs Q E hr h=>?_)
 ·obtain ⟨g,n,ts,rfl,_⟩:=h
  rfl
 obtain ⟨g,n,ts,rfl,hG,okt,n10,q⟩:=h
 refine ⟨_,(a0D (a0M (a0G gZ9 hr rfl dZ9.m dZ9.F.kp dZ9.b .nil a0L (a0A (a0G gZ5 hr rfl dZ5.m dZ5.F.kp dZ5.b .nil a0L (a0A (pv 0) a0B)) a0B)))),?_⟩
 refine ⟨_,rfl,g,n,ts,rfl,hG,okt,n10,λ p qs H1 s1 f1 h1 lq bq=>?_⟩
 exact ⟨p,qs,n,ts,rfl,h1,lq,n10,bq,λ r cs H2 s2 f2 h2 C=>q r cs H2 (s1.trans s2) (s1.free f2) h2 C⟩
end
end K
namespace K
open PySem L2 Lw Bg
theorem a6T {n g:Nat} (n10:n <= 10) (gl:g < 2 ^ n):(a0X g).Nodup/\(∀ a ∈ a0X g,a < n)/\∀ u,u ∈ a0X g ↔ g.testBit u = true:=by
 have g10:g < 2 ^ 10:=Nat.lt_of_lt_of_le gl (Nat.pow_le_pow_right (by decide) n10)
 refine ⟨List.nodup_range.sublist List.filter_sublist,λ a ha=>?_,λ u=>a5F g10⟩
 apply Classical.byContradiction
 intro c
 have:=(a5F g10).mp ha
 rw [a2F gl (by omega)] at this
 cases this
inductive FreeP (n:Nat) (good:Nat->Nat->Prop):Nat->List Nat->Prop
 | nil:FreeP n good 0 []
 | snoc {S v:Nat} {os:List Nat}:FreeP n good S os->S.testBit v = false->v < n->good S v->FreeP n good (S ||| 2 ^ v) (os ++ [v])
theorem FreeP.lt {n:Nat} {good:Nat->Nat->Prop} {S:Nat} {os:List Nat} (h:FreeP n good S os):S < 2 ^ n:=by
 induction h with
 | nil=>exact Nat.pow_pos (by decide)
 | snoc _ _ vn _ ih=>exact Nat.or_lt_two_pow ih (Nat.pow_lt_pow_right (by decide) vn)
theorem FreeP.mem {n:Nat} {good:Nat->Nat->Prop} {S:Nat} {os:List Nat} (h:FreeP n good S os):∀ u,u ∈ os ↔ S.testBit u = true:=by
 induction h with
 | nil=>intro u; rw [Nat.zero_testBit]; simp
 | @snoc S v os _ _ vn _ ih =>
  intro u
  rw [List.mem_append,ih u,Nat.testBit_or,Nat.testBit_two_pow,Bool.or_eq_true,List.mem_singleton,decide_eq_true_iff]
  exact or_congr_right eq_comm
theorem FreeP.weak {n:Nat} {good good':Nat->Nat->Prop} {S:Nat} {os:List Nat} (h:FreeP n good S os) (hw:∀ S v,S < 2 ^ n->v < n->S.testBit v = false->good S v->good' S v):FreeP n good' S os:=by
 induction h with
 | nil=>exact .nil
 | snoc p f vn g ih=>exact .snoc ih f vn (hw _ _ p.lt vn f g)
inductive WidP (n:Nat) (ts:List ζζ):Nat->List Nat->Int->Prop
 | nil:WidP n ts 0 [] (-1)
 | snoc {S v:Nat} {os:List Nat} {G:Int}:WidP n ts S os G->S.testBit v = false->v < n->WidP n ts (S ||| 2 ^ v) (os ++ [v]) (max G (degF n ts S v:Int))
theorem WidP.free {n:Nat} {ts:List ζζ} {S:Nat} {os:List Nat} {G:Int} (h:WidP n ts S os G):FreeP n (λ S v=>(degF n ts S v:Int) <= G) S os:=by
 induction h with
 | nil=>exact .nil
 | snoc _ f vn ih=>exact .snoc (ih.weak λ S v _ _ _ g=>by omega) f vn (by omega)
theorem WidP.lt {n:Nat} {ts:List ζζ} {S:Nat} {os:List Nat} {G:Int} (h:WidP n ts S os G):S < 2 ^ n:=h.free.lt
theorem c6H {n:Nat} {ts:List ζζ} {w:Int} (w1 : -1 <= w) {S:Nat} {os:List Nat} (h:FreeP n (λ S v=>(degF n ts S v:Int) <= w) S os):∃ G,WidP n ts S os G/\G <= w:=by
 induction h with
 | nil=>exact ⟨-1,.nil,w1⟩
 | snoc p f vn g ih =>
  obtain ⟨G,hG,le⟩:=ih
  exact ⟨_,.snoc hG f vn,by omega⟩
theorem c0B {n:Nat} {ts:List ζζ} {cs:List Int} (C:CostOk n ts cs) {S:Nat} {os:List Nat} {G:Int} (h:WidP n ts S os G):cs.getD S 0 <= G:=by
 induction h with
 | nil=>rw [C.nil]; exact Int.le_refl _
 | @snoc S v os G p f vn ih =>
  obtain ⟨t,e,a⟩:=a8P f
  have p0:0 < 2 ^ v:=Nat.pow_pos (by decide)
  have:=C.le (S ||| 2 ^ v) (by omega) (Nat.or_lt_two_pow p.lt (Nat.pow_lt_pow_right (by decide) vn)) v t
  rw [e] at this
  omega
theorem b0I {n:Nat} {ts:List ζζ} {cs:List Int} (C:CostOk n ts cs) (w:Int):∀ (k S:Nat),S <= k->S < 2 ^ n->cs.getD S 0 <= w->∃ os,FreeP n (λ S v=>(degF n ts S v:Int) <= w) S os
 | 0,S,hk,hS,hw=>by
  obtain rfl:S = 0:=by omega
  exact ⟨[],.nil⟩
 | k + 1,S,hk,hS,hw=>by
  by_cases c:S = 0
  ·subst c; exact ⟨[],.nil⟩
  ·obtain ⟨v,t,e⟩:=C.ex S (by omega) hS
   have p0:0 < 2 ^ v:=Nat.pow_pos (by decide)
   have ge:=a2M t
   have vn:v < n:=by
    apply Classical.byContradiction
    intro z
    rw [a2F hS (by omega)] at t
    cases t
   obtain ⟨os,h⟩:=b0I C w k (S - 2 ^ v) (by omega) (by omega) (by omega)
   have f:(S - 2 ^ v).testBit v = false:=by rw [a4Y t,decide_eq_true rfl]; simp
   have r:=FreeP.snoc h f vn (show (degF n ts (S - 2 ^ v) v:Int) <= w by omega)
   obtain ⟨_,_,a⟩:=a8P f
   rw [<- a,Nat.sub_add_cancel ge] at r
   exact ⟨_,r⟩
theorem b7P {n:Nat} {ts:List ζζ} {cs:List Int} (C:CostOk n ts cs):∀ (k S:Nat),S <= k->S < 2 ^ n -> -1 <= cs.getD S 0
 | 0,S,hk,hS=>by
  obtain rfl:S = 0:=by omega
  rw [C.nil]; exact Int.le_refl _
 | k + 1,S,hk,hS=>by
  by_cases c:S = 0
  ·subst c; rw [C.nil]; exact Int.le_refl _
  ·obtain ⟨v,t,e⟩:=C.ex S (by omega) hS
   have p0:0 < 2 ^ v:=Nat.pow_pos (by decide)
   have ge:=a2M t
   have:=b7P C k (S - 2 ^ v) (by omega) (by omega)
   omega
theorem pigP {α:Type} [DecidableEq α]:∀ {l U:List α},l.Nodup->(∀ x ∈ l,x ∈ U)->l.length <= U.length
 | [],_,_,_=>Nat.zero_le _
 | x :: r,U,h,s=>by
  have h':=List.nodup_cons.mp h
  have hx:=s x List.mem_cons_self
  have:=List.length_erase_of_mem hx
  have p:=List.length_pos_of_mem hx
  have ih:=pigP (l:=r) (U:=U.erase x) h'.2 λ y hy=>(List.mem_erase_of_ne (λ (e:y = x)=>h'.1 (e ▸ hy))).mpr (s y (List.mem_cons_of_mem _ hy))
  rw [List.length_cons]; omega
theorem b7Q {n:Nat} {ts:List ζζ} {S v:Nat} (n10:n <= 10) (Sl:S < 2 ^ n) (vn:v < n) (vS:S.testBit v = false) {U:List Nat} (nd:U.Nodup) (h:∀ u ∈ U,u < n/\u ≠ v/\S.testBit u = false/\PathT ts (a0X S) v u):U.length <= degF n ts S v:=by
 obtain ⟨pn,pl,pm⟩:=a6T n10 Sl
 have vP:v ∉ a0X S:=λ z=>by
  have:=(pm v).mp z
  rw [vS] at this
  cases this
 have R:=a3K (ts:=ts) pn pl
 unfold degF
 refine pigP nd λ u hu=>?_
 obtain ⟨un,uv,uS,p⟩:=h u hu
 have uP:u ∉ a0X S:=λ z=>by
  have:=(pm u).mp z
  rw [uS] at this
  cases this
 unfold a1A
 rw [List.mem_filter,List.mem_range,Bool.and_eq_true]
 exact ⟨un,(R.path v u vn un vP uP).mpr (.inr p),by simpa using uv⟩
theorem c0C {n:Nat} {ts:List ζζ} {cs:List Int} (C:CostOk n ts cs) {S:Nat} (hS:S < 2 ^ n) {w:Int} (w1 : -1 <= w):cs.getD S 0 <= w ↔ ∃ os,FreeP n (λ S v=>(degF n ts S v:Int) <= w) S os:=by
 constructor
 ·exact b0I C w S S (Nat.le_refl _) hS
 ·rintro ⟨os,h⟩
  obtain ⟨G,hG,l⟩:=c6H w1 h
  have:=c0B C hG
  omega
abbrev a4T:Stmt:=top 36
theorem a7A:FnScope ["graph"] ["graph"] (a0E a4T):=⟨rfl,rfl,rfl,by decide +kernel,rfl,by decide +kernel,by decide +kernel⟩
def c0D (K:Φρ):Sp:=λ vs H Q _=>∃ (g:V) (n:Nat) (ts:List ζζ),vs = [g]/\GraphV K H g n ts/\(∀ t ∈ ts,0 <= t.1/\t.1 < t.2/\t.2 < (n:Int))/\n <= 10 /\
 ∀ cs H',Same H H'->CostOk n ts cs->Q (.int (cs.getD (2 ^ n - 1) 0)) H'
theorem c6I {xs:List V} {v:V} {j:Nat} (hl:xs.length = j + 1) (h:xs[j]? = some v):atI xs (-1) = some v:=by
 obtain ⟨hj,e⟩:=List.getElem?_eq_some_iff.mp h
 have:xs = xs.take j ++ [v]:=by
  rw [<- e,<- List.take_succ_eq_append_getElem hj,List.take_of_length_le (by omega)]
 rw [this]
 exact b8H _ _
section
variable {P:Program} {w:World} {K:Φρ} {mg:Str->Option Value} {base:Heap}
abbrev DZ20 (K:PySem.W.Frag) (mg:Str->Option Value):=Dn K mg "least_width" a4T ["graph"]
set_option maxHeartbeats 4000000 in
theorem a7B (B:Bl mg) (dZ24:DZ24 K mg) (dZ11:DZ11 K mg) (dZ31:DZ31 K mg) (dZ5:DZ5 K mg) (dZ9:DZ9 K mg) (dZ8:DZ8 K mg) (dZ20:DZ20 K mg):FnOk P w K mg base CX0 4 dZ20.f dZ20.fd ["graph"] (c0D K):=by
 have gZ8:FnOk P w K mg base CX0 3 _ _ _ _:=c0A B dZ24 dZ11 dZ31 dZ5 dZ9 dZ8
 refine dZ20.F.ok a7A (λ vs H Q E h=>?_) (λ cdv A outer s H vs Q E hr h=>?_)
 ·obtain ⟨g,n,ts,rfl,_⟩:=h
  rfl
 obtain ⟨g,n,ts,rfl,hG,okt,n10,q⟩:=h
 have p0:0 < 2 ^ n:=Nat.pow_pos (by decide)
 refine ⟨_,(a0D (a0M (a0S (a0I (K:=K) rfl) (a0G gZ8 hr rfl dZ8.m dZ8.F.kp dZ8.b .nil a0L (a0A (pv 0) a0B)) (b8C b1Y a0F) (λ _ _=>rfl)))),?_⟩
 refine ⟨_,rfl,g,n,ts,rfl,hG,okt,n10,λ r cs H1 s1 f1 h1 C=>?_⟩
 have l:=C.len
 refine ⟨_,rfl,r,_,_,.int (cs.getD (2 ^ n - 1) 0),rfl,rfl,SqL.of h1,c6I (j:=2 ^ n - 1) (by rw [List.length_map]; omega) ?_,q cs H1 s1 C⟩
 rw [List.getElem?_map,List.getElem?_eq_getElem (by omega),τα,List.getElem?_eq_getElem (by omega)]; rfl
end
inductive OrdL (n:Nat) (ts:List ζζ) (w:Int):List Nat->Prop
 | nil:OrdL n ts w []
 | snoc {os:List Nat} {v:Nat}:OrdL n ts w os->v ∉ os->v < n->(∀ U:List Nat,U.Nodup->(∀ u ∈ U,u < n/\u ≠ v/\u ∉ os/\PathT ts os v u)->(U.length:Int) <= w)->OrdL n ts w (os ++ [v])
def LW (n:Nat) (ts:List ζζ) (w:Int):Prop:=∃ os,OrdL n ts w os/\∀ v,v < n->v ∈ os
theorem OrdL.nodup {n:Nat} {ts:List ζζ} {w:Int} {os:List Nat} (h:OrdL n ts w os):os.Nodup:=by
 induction h with
 | nil=>exact .nil
 | @snoc os v h f _ _ ih =>
  refine List.nodup_append.mpr ⟨ih,by simp,λ x hx y hy z=>?_⟩
  rw [List.mem_singleton.mp hy] at z
  exact f (z ▸ hx)
theorem OrdL.inn {n:Nat} {ts:List ζζ} {w:Int} {os:List Nat} (h:OrdL n ts w os):∀ v ∈ os,v < n:=by
 induction h with
 | nil=>exact λ v hv=>absurd hv List.not_mem_nil
 | @snoc os v h _ vn _ ih =>
  intro x hx
  rcases List.mem_append.mp hx with hx | hx
  ·exact ih x hx
  ·rw [List.mem_singleton.mp hx]; exact vn
theorem c0E {n:Nat} {ts:List ζζ} {w:Int} {S:Nat} {os:List Nat} (n10:n <= 10) (h:FreeP n (λ S v=>(degF n ts S v:Int) <= w) S os):OrdL n ts w os:=by
 induction h with
 | nil=>exact .nil
 | @snoc S v os p f vn g ih =>
  have mem:=p.mem
  refine .snoc ih (λ z=>by rw [(mem v).mp z] at f; cases f) vn λ U nd hU=>?_
  obtain ⟨_,_,pm⟩:=a6T n10 p.lt
  have:=b7Q n10 p.lt vn f (ts:=ts) nd λ u hu=>by
   obtain ⟨un,uv,uo,pp⟩:=hU u hu
   refine ⟨un,uv,?_,pp.mono λ a ha=>(pm a).mpr ((mem a).mp ha)⟩
   cases c:S.testBit u with
   | false=>rfl
   | true=>exact absurd ((mem u).mpr c) uo
  have g':(degF n ts S v:Int) <= w:=g
  omega
theorem c0F {n:Nat} {ts:List ζζ} {w:Int} {os:List Nat} (n10:n <= 10) (h:OrdL n ts w os):∃ S,FreeP n (λ S v=>(degF n ts S v:Int) <= w) S os:=by
 induction h with
 | nil=>exact ⟨0,.nil⟩
 | @snoc os v h f vn g ih =>
  obtain ⟨S,p⟩:=ih
  have mem:=p.mem
  have fS:S.testBit v = false:=by
   cases c:S.testBit v with
   | false=>rfl
   | true=>exact absurd ((mem v).mpr c) f
  refine ⟨_,.snoc p fS vn ?_⟩
  obtain ⟨pn,pl,pm⟩:=a6T n10 p.lt
  have R:=a3K (ts:=ts) pn pl
  have vP:v ∉ a0X S:=λ z=>f ((mem v).mpr ((pm v).mp z))
  refine g (a1A n (runR n ts (a0X S)) v) (List.nodup_range.sublist List.filter_sublist) λ u hu=>?_
  unfold a1A at hu
  rw [List.mem_filter,List.mem_range,Bool.and_eq_true] at hu
  obtain ⟨un,hr,hv⟩:=hu
  have uv:u ≠ v:=by simpa using hv
  have uP:u ∉ a0X S:=λ z=>by
   rw [R.gone v u vn vP z] at hr
   cases hr
  exact ⟨un,uv,λ z=>uP ((pm u).mpr ((mem u).mp z)),(((R.path v u vn un vP uP).mp hr).resolve_left (Ne.symm uv)).mono λ a ha=>(mem a).mpr ((pm a).mp ha)⟩
theorem b7R {n S:Nat} (hS:S < 2 ^ n) (h:∀ v,v < n->S.testBit v = true):S = 2 ^ n - 1:=by
 refine Nat.eq_of_testBit_eq λ i=>?_
 rw [Nat.testBit_two_pow_sub_one]
 by_cases c:i < n
 ·rw [h i c,decide_eq_true c]
 ·rw [decide_eq_false c]
  exact Nat.testBit_lt_two_pow (Nat.lt_of_lt_of_le hS (Nat.pow_le_pow_right (by decide) (by omega)))
theorem c1F {n:Nat} {ts:List ζζ} {cs:List Int} {w:Int} (n10:n <= 10) (C:CostOk n ts cs) (w1 : -1 <= w):cs.getD (2 ^ n - 1) 0 <= w ↔ LW n ts w:=by
 have hS:2 ^ n - 1 < 2 ^ n:=Nat.sub_lt (Nat.pow_pos (by decide)) (by decide)
 rw [c0C C hS w1]
 constructor
 ·rintro ⟨os,h⟩
  exact ⟨os,c0E n10 h,λ v vn=>(h.mem v).mpr (by rw [Nat.testBit_two_pow_sub_one]; exact decide_eq_true vn)⟩
 ·rintro ⟨os,h,all⟩
  obtain ⟨S,p⟩:=c0F n10 h
  have e:S = 2 ^ n - 1:=b7R p.lt λ v vn=>(p.mem v).mp (all v vn)
  rw [e] at p
  exact ⟨os,p⟩
end K
namespace K
open PySem L2 Lw Bg
theorem a3O {n:Nat} {ts:List ζζ} (ok:TOk n ts) {x y:Nat} (h:tieT ts x y = true):x < n/\y < n/\x ≠ y:=by
 unfold tieT at h
 rw [Bool.or_eq_true,decide_eq_true_iff,decide_eq_true_iff] at h
 rcases h with h | h
 ·have:=ok _ h; dsimp only at this; omega
 ·have:=ok _ h; dsimp only at this; omega
theorem b2W {n:Nat} {ts:List ζζ} (ok:TOk n ts) (ac:Acy ts):b0D ts:=λ S ne=>by
 obtain ⟨x,hx⟩:=List.exists_mem_of_ne_nil S ne
 rcases a6S ok ac S x with h | ⟨v,hv,_,lo⟩
 ·refine ⟨x,hx,λ a ha b hb h1 _=>?_⟩
  have:=(a3O ok h1).2.2
  exact absurd (h a ha).symm this
 ·exact ⟨v,hv,lo⟩
theorem c0G {ts:List ζζ} {V:List Nat} {a b:Nat} (h:PathT ts V a b):∃ x,tieT ts a x = true/\(x = b\/PathT ts (V.filter λ v=>!decide (v = a)) x b):=by
 induction h with
 | one h=>exact ⟨_,h,.inl rfl⟩
 | @step c u p m h ih =>
  by_cases e:c = a
  ·rw [e] at h
   exact ⟨u,h,.inl rfl⟩
  ·obtain ⟨x,h1,h2⟩:=ih
   refine ⟨x,h1,.inr ?_⟩
   rcases h2 with h2 | h2
   ·rw [h2]
    exact .one h
   ·exact .step h2 (List.mem_filter.mpr ⟨m,by simp [e]⟩) h
theorem c3W {n:Nat} {ts:List ζζ} (ok:TOk n ts) {x y:Nat} (h:Cn ts x y):x = y\/PathT ts (List.range n) x y:=by
 induction h with
 | refl=>exact .inl rfl
 | @step y z _ h ih =>
  refine .inr ?_
  rcases ih with rfl | ih
  ·exact .one h
  ·exact .step ih (List.mem_range.mpr (a3O ok h).1) h
theorem b2X {n:Nat} {ts:List ζζ} (ok:TOk n ts) (nd:ts.Nodup) (W:b0D ts):Acy ts:=by
 have key:∀ us:List ζζ,us.Nodup->(∀ t ∈ us,t ∈ ts)->Acy us:=λ us=>by
  induction us with
  | nil=>exact λ _ _=>True.intro
  | cons t us ih =>
   intro ndu sub
   obtain ⟨n1,n2⟩:=List.nodup_cons.mp ndu
   have sub':∀ s ∈ us,s ∈ ts:=λ s hs=>sub s (List.mem_cons_of_mem _ hs)
   have oku:TOk n us:=λ s hs=>ok s (sub' s hs)
   refine ⟨ih n2 sub',λ c=>?_⟩
   have okt:=ok t (sub t List.mem_cons_self)
   obtain ⟨a,ea⟩:∃ a:Nat,t.1 = (a:Int):=⟨t.1.toNat,by omega⟩
   obtain ⟨b,eb⟩:∃ b:Nat,t.2 = (b:Int):=⟨t.2.toNat,by omega⟩
   rw [ea,eb,Int.toNat_natCast,Int.toNat_natCast] at c
   have up:∀ {x y:Nat},tieT us x y = true->tieT ts x y = true:=λ {x y} h=>by
    unfold tieT at h ⊢
    rw [Bool.or_eq_true,decide_eq_true_iff,decide_eq_true_iff] at h ⊢
    exact h.imp (sub' _) (sub' _)
   rcases c3W oku c with e | p
   ·omega
   ·obtain ⟨x,h1,h2⟩:=c0G p
    have xb:x ≠ b:=λ e=>by
     rw [e] at h1
     unfold tieT at h1
     rw [Bool.or_eq_true,decide_eq_true_iff,decide_eq_true_iff] at h1
     rcases h1 with h1 | h1
     ·exact n1 (by rw [show t = ((a:Int),(b:Int)) from Prod.ext ea eb]; exact h1)
     ·have:=oku _ h1
      dsimp only at this
      omega
    have p2:=h2.resolve_left xb
    have xl:=a3O oku h1
    have tab:tieT ts a b = true:=by
     unfold tieT
     rw [Bool.or_eq_true,decide_eq_true_iff]
     exact .inl (by rw [<- ea,<- eb]; exact sub t List.mem_cons_self)
    have bl:=a3O ok tab
    have eup:∀ {V:List Nat} {x u:Nat},PathT us V x u->PathT ts V x u:=λ {V x u} h=>by
     induction h with
     | one h=>exact .one (up h)
     | step _ m h ih=>exact .step ih m (up h)
    refine xb (c6D W (S:=(List.range n).filter λ v=>!decide (v = a)) (v:=a) ?_ ?_ ?_ (.inr (eup p2)) (up h1) tab)
    ·intro z
     have:=(List.mem_filter.mp z).2
     simp at this
    ·exact List.mem_filter.mpr ⟨List.mem_range.mpr xl.2.1,by have:=xl.2.2; simp; omega⟩
    ·exact List.mem_filter.mpr ⟨List.mem_range.mpr bl.2.1,by have:=bl.2.2; simp; omega⟩
 exact key ts nd λ t ht=>ht
theorem b7S {n:Nat} {ts:List ζζ} (ok:TOk n ts) (nd:ts.Nodup) (C:Core ts n []):b0D ts:=λ S ne=>by
 refine Classical.byContradiction λ no=>?_
 have two:∀ v ∈ S,∃ a ∈ S,∃ b ∈ S,tieT ts v a = true/\tieT ts v b = true/\a ≠ b:=λ v hv=>Classical.byContradiction λ z=>no ⟨v,hv,λ a ha b hb h1 h2=>Classical.byContradiction λ e=>z ⟨a,ha,b,hb,h1,h2,e⟩⟩
 obtain ⟨w,hw⟩:=List.exists_mem_of_ne_nil S ne
 have:=C.all S (λ v hv=>by
  obtain ⟨a,ha,b,hb,h1,h2,e⟩:=two v hv
  refine ⟨(a3O ok h1).1,?_⟩
  cases z:a1H ts S v with
  | false=>rfl
  | true=>exact absurd ((a3M ok nd S v).mp z a ha b hb h1 h2) e) w hw
 cases this
theorem b1Q {n:Nat} {ts:List ζζ} (ok:TOk n ts) (nd:ts.Nodup) (na:¬ Acy ts):∀ lf,Core ts n lf->lf ≠ []:=λ lf C e=>na (b2X ok nd (b7S ok nd (by rw [<- e]; exact C)))
theorem c3X {n:Nat} {ts:List ζζ} (ok:TOk n ts) (nd:ts.Nodup) (h:LW n ts 1):Acy ts:=by
 refine b2X ok nd λ S ne=>Classical.byContradiction λ no=>?_
 have two:∀ v ∈ S,∃ a ∈ S,∃ b ∈ S,tieT ts v a = true/\tieT ts v b = true/\a ≠ b:=λ v hv=>Classical.byContradiction λ z=>no ⟨v,hv,λ a ha b hb h1 h2=>Classical.byContradiction λ e=>z ⟨a,ha,b,hb,h1,h2,e⟩⟩
 obtain ⟨os,h,all⟩:=h
 have key:∀ {os:List Nat},OrdL n ts 1 os->¬ ∃ v ∈ S,v ∈ os:=λ {os} h=>by
  induction h with
  | nil=>rintro ⟨v,_,hv⟩; exact absurd hv List.not_mem_nil
  | @snoc os v h fv vn g ih =>
   rintro ⟨x,xS,hx⟩
   rcases List.mem_append.mp hx with hx | hx
   ·exact ih ⟨x,xS,hx⟩
   ·have e:=List.mem_singleton.mp hx
    subst e
    obtain ⟨a,ha,b,hb,h1,h2,ne⟩:=two x xS
    have l1:=a3O ok h1
    have l2:=a3O ok h2
    have:=g [a,b] (by simp [ne]) λ u hu=>by
     rcases List.mem_cons.mp hu with rfl | hu
     ·exact ⟨l1.2.1,Ne.symm l1.2.2,λ z=>ih ⟨u,ha,z⟩,.one h1⟩
     ·rw [List.mem_singleton.mp hu]
      exact ⟨l2.2.1,Ne.symm l2.2.2,λ z=>ih ⟨b,hb,z⟩,.one h2⟩
    simp at this
 obtain ⟨w,hw⟩:=List.exists_mem_of_ne_nil S ne
 obtain ⟨a,_,b,_,h1,_⟩:=two w hw
 exact key h ⟨w,hw,all w (a3O ok h1).1⟩
theorem c3Y {n:Nat} {ts:List ζζ} (ok:TOk n ts) (ac:Acy ts):LW n ts 1:=by
 have W:=b2W ok ac
 have key:∀ (m:Nat) (os:List Nat),n - os.length <= m->OrdL n ts 1 os->(∀ x u,x ∉ os->u ∉ os->x ≠ u->PathT ts os x u->tieT ts x u = true)->∃ os',OrdL n ts 1 os'/\∀ v,v < n->v ∈ os':=λ m=>by
  induction m with
  | zero =>
   intro os l O ff
   refine ⟨os,O,λ v vn=>Classical.byContradiction λ nv=>?_⟩
   have:=a2Z (m:=n) (l:=v :: os) (List.nodup_cons.mpr ⟨nv,O.nodup⟩) λ x hx=>by
    rcases List.mem_cons.mp hx with rfl | hx
    ·exact vn
    ·exact O.inn x hx
   rw [List.length_cons] at this
   omega
  | succ m ih =>
   intro os l O ff
   by_cases full:∀ v,v < n->v ∈ os
   ·exact ⟨os,O,full⟩
   ·obtain ⟨w,hw⟩:=Classical.not_forall.mp full
    obtain ⟨wn,wo⟩:=Classical.not_imp.mp hw
    have mem:∀ v,v ∈ (List.range n).filter (λ v=>!decide (v ∈ os)) ↔ v < n/\v ∉ os:=λ v=>by
     rw [List.mem_filter,List.mem_range]
     simp
    obtain ⟨v,hv,lo⟩:=W ((List.range n).filter λ v=>!decide (v ∈ os)) (λ z=>by
     have:=(mem w).mpr ⟨wn,wo⟩
     rw [z] at this
     cases this)
    obtain ⟨vn,vo⟩:=(mem v).mp hv
    refine ih (os ++ [v]) (by rw [List.length_append]; show n - (os.length + 1) <= m; omega) (.snoc O vo vn λ U ndU hU=>?_) λ x u hx hu ne p=>?_
    ·match U,ndU,hU with
     | [],_,_=>show (0:Int) <= 1; omega
     | [x],_,_=>show (1:Int) <= 1; omega
     | x :: y :: r,nd2,hU =>
      obtain ⟨x1,x2,x3,x4⟩:=hU x List.mem_cons_self
      obtain ⟨y1,y2,y3,y4⟩:=hU y (List.mem_cons_of_mem _ List.mem_cons_self)
      have:=lo x ((mem x).mpr ⟨x1,x3⟩) y ((mem y).mpr ⟨y1,y3⟩) (ff v x vo x3 (Ne.symm x2) x4) (ff v y vo y3 (Ne.symm y2) y4)
      exact absurd (by rw [this]; exact List.mem_cons_self) (List.nodup_cons.mp nd2).1
    ·have x':x ∉ os/\x ≠ v:=⟨λ z=>hx (List.mem_append_left _ z),λ z=>hx (List.mem_append_right _ (List.mem_singleton.mpr z))⟩
     have u':u ∉ os/\u ≠ v:=⟨λ z=>hu (List.mem_append_left _ z),λ z=>hu (List.mem_append_right _ (List.mem_singleton.mpr z))⟩
     rcases p.split with p | ⟨p1,p2⟩
     ·exact ff x u x'.1 u'.1 ne p
     ·have t1:=a1L (ff x v x'.1 vo x'.2 p1)
      have t2:=ff v u vo u'.1 (Ne.symm u'.2) p2
      exact absurd (lo x ((mem x).mpr ⟨(a3O ok t1).2.1,x'.1⟩) u ((mem u).mpr ⟨(a3O ok t2).2.1,u'.1⟩) t1 t2) ne
 exact key n [] (by simp) .nil λ x u _ _ _ p=>by
  cases p with
  | one h=>exact h
  | step _ m _=>cases m
theorem c1G {n:Nat} {ts:List ζζ} (ok:TOk n ts) (h:LW n ts 2):FoG n ts:=by
 obtain ⟨os,O,all⟩:=h
 refine (b2V ok).mp ?_
 have key:∀ {os:List Nat},OrdL n ts 2 os->(Fo (a3Y n []) (RnP n ts []) ↔ Fo (a3Y n os) (RnP n ts os)):=λ {os} O=>by
  induction O with
  | nil=>exact Iff.rfl
  | @snoc os v O fv vn g ih =>
   refine ih.trans (b6R vn fv ?_)
   have R:=a3K (ts:=ts) O.nodup O.inn
   have:=g (a1A n (runR n ts os) v) (List.nodup_range.sublist List.filter_sublist) λ u hu=>by
    unfold a1A at hu
    rw [List.mem_filter,List.mem_range,Bool.and_eq_true] at hu
    obtain ⟨un,hr,hv⟩:=hu
    have uv:u ≠ v:=by simpa using hv
    have uP:u ∉ os:=λ z=>by
     rw [R.gone v u vn fv z] at hr
     cases hr
    exact ⟨un,uv,uP,((R.path v u vn un fv uP).mp hr).resolve_left (Ne.symm uv)⟩
   omega
 exact (key O).mpr (.nil λ x hx=>hx.2 (all x hx.1))
theorem b2Y {n:Nat} {ts:List ζζ} {S:List Nat} (FR:FoldRun n ts S) (e:a5S n S = []):LW n ts 2:=by
 have key:∀ j,j <= S.length->OrdL n ts 2 (S.take j):=λ j=>by
  induction j with
  | zero=>exact λ _=>.nil
  | succ j ih =>
   intro hj
   have O:=ih (by omega)
   have gj:S[j]? = some S[j]:=List.getElem?_eq_getElem (by omega)
   rw [List.take_succ,gj]
   have vn:S[j] < n:=FR.lt _ (List.getElem_mem _)
   have vo:S[j] ∉ S.take j:=λ z=>by
    have nd:=FR.nd
    rw [<- List.take_append_drop j S,List.drop_eq_getElem_cons (by omega)] at nd
    exact (List.nodup_append.mp nd).2.2 _ z _ List.mem_cons_self rfl
   refine .snoc O vo vn λ U ndU hU=>?_
   have few:=FR.few j (by omega)
   unfold a8K at few
   rw [τα,gj] at few
   have R:=a3K (ts:=ts) O.nodup O.inn
   have:=pigN (U:=a1A n (runR n ts (S.take j)) S[j]) ndU λ u hu=>by
    obtain ⟨un,uv,uo,p⟩:=hU u hu
    unfold a1A
    rw [List.mem_filter,List.mem_range,Bool.and_eq_true]
    exact ⟨un,(R.path _ u vn un vo uo).mpr (.inr p),by simp [uv]⟩
   have few':(a1A n (runR n ts (S.take j)) S[j]).length <= 2:=few
   omega
 refine ⟨S,by have:=key S.length (Nat.le_refl _); rwa [List.take_length] at this,λ v vn=>Classical.byContradiction λ nv=>?_⟩
 have:v ∈ a5S n S:=List.mem_filter.mpr ⟨List.mem_range.mpr vn,by simp [nv]⟩
 rw [e] at this
 cases this
end K
namespace K
open PySem L2 Lw Bg
def mk1 (ls:List Nat) (f:Nat->Nat) (a b:Nat):Nat->Nat:=λ x=>if x = a\/x = b then min (f a) (f b) else f x
def mkT (ls:List Nat) (f:Nat->Nat) (t:Int × Int):Nat->Nat:=if t.1.toNat ∈ ls/\t.2.toNat ∈ ls then mk1 ls f t.1.toNat t.2.toNat else f
def mkS (ls:List Nat) (f:Nat->Nat) (ts:List ζζ):Nat->Nat:=ts.foldl (mkT ls) f
def mkR (ls:List Nat) (ts:List ζζ):Nat->Nat->Nat
 | 0=>id
 | k + 1=>mkS ls (mkR ls ts k) ts
theorem c0H (ls:List Nat) (f:Nat->Nat) (ts:List ζζ) (t:Int × Int):mkS ls f (ts ++ [t]) = mkT ls (mkS ls f ts) t:=by
 unfold mkS
 rw [List.foldl_append]; rfl
theorem b7T (ls:List Nat) (f:Nat->Nat) (t:Int × Int) (x:Nat):mkT ls f t x <= f x:=by
 unfold mkT
 split
 ·unfold mk1
  split
  ·rename_i c
   rcases c with c | c <;> subst c <;> omega
  ·exact Nat.le_refl _
 ·exact Nat.le_refl _
theorem b2Z (ls:List Nat):∀ (ts:List ζζ) (f:Nat->Nat) (x:Nat),mkS ls f ts x <= f x
 | [],f,x=>Nat.le_refl _
 | t :: ts,f,x=>Nat.le_trans (b2Z ls ts (mkT ls f t) x) (b7T ls f t x)
theorem b1R {ls:List Nat}:∀ {ts:List ζζ} {f:Nat->Nat} {a b:Nat},((a:Int),(b:Int)) ∈ ts->a ∈ ls->b ∈ ls->mkS ls f ts a <= f b/\mkS ls f ts b <= f a
 | [],_,_,_,h,_,_=>absurd h List.not_mem_nil
 | t :: ts,f,a,b,h,ha,hb=>by
  show mkS ls (mkT ls f t) ts a <= f b/\mkS ls (mkT ls f t) ts b <= f a
  rcases List.mem_cons.mp h with e | h
  ·have e1:mkT ls f t = mk1 ls f a b:=by
    unfold mkT
    rw [<- e]
    simp only [Int.toNat_natCast]
    rw [if_pos ⟨ha,hb⟩]
   rw [e1]
   have l1:=b2Z ls ts (mk1 ls f a b) a
   have l2:=b2Z ls ts (mk1 ls f a b) b
   have v1:mk1 ls f a b a = min (f a) (f b):=by unfold mk1; rw [if_pos (.inl rfl)]
   have v2:mk1 ls f a b b = min (f a) (f b):=by unfold mk1; rw [if_pos (.inr rfl)]
   omega
  ·have i:=b1R (f:=mkT ls f t) h ha hb
   have l1:=b7T ls f t a
   have l2:=b7T ls f t b
   omega
def MkOk (ts:List ζζ) (ls:List Nat) (f:Nat->Nat):Prop:=∀ x ∈ ls,f x ∈ ls/\(f x = x\/PathT ts ls x (f x))
theorem c6J {ts:List ζζ} {ls:List Nat} {f:Nat->Nat} {t:Int × Int} (h:MkOk ts ls f) (ht:tieT ts t.1.toNat t.2.toNat = true):MkOk ts ls (mkT ls f t):=by
 unfold mkT
 split
 ·rename_i c
  obtain ⟨ca,cb⟩:=c
  have via:∀ {a b:Nat},a ∈ ls->b ∈ ls->tieT ts a b = true->f b ∈ ls/\(f b = a\/PathT ts ls a (f b)):=λ {a b} ha hb t=>by
   obtain ⟨i,j⟩:=h b hb
   rcases j with j | j
   ·rw [j]; exact ⟨hb,.inr (.one t)⟩
   ·exact ⟨i,.inr (PathT.glue hb (.one t) j)⟩
  intro x hx
  unfold mk1
  split
  ·rename_i d
   rcases Nat.le_total (f t.1.toNat) (f t.2.toNat) with l | l
   ·rw [Nat.min_eq_left l]
    rcases d with d | d
    ·rw [d]; exact h _ ca
    ·rw [d]; exact via cb ca (a1L ht)
   ·rw [Nat.min_eq_right l]
    rcases d with d | d
    ·rw [d]; exact via ca cb ht
    ·rw [d]; exact h _ cb
  ·exact h x hx
 ·exact h
theorem c1H {ts:List ζζ} {ls:List Nat}:∀ {l:List ζζ} {f:Nat->Nat},(∀ t ∈ l,tieT ts t.1.toNat t.2.toNat = true)->MkOk ts ls f->MkOk ts ls (mkS ls f l)
 | [],_,_,h=>h
 | t :: l,f,hl,h=>c1H (l:=l) (f:=mkT ls f t) (λ u hu=>hl u (List.mem_cons_of_mem _ hu)) (c6J h (hl t List.mem_cons_self))
theorem b4D {ts:List ζζ} {n:Nat} (ok:∀ t ∈ ts,0 <= t.1/\t.1 < t.2/\t.2 < (n:Int)) {t:Int × Int} (h:t ∈ ts):tieT ts t.1.toNat t.2.toNat = true:=by
 have:=ok t h
 have e:(((t.1.toNat:Nat):Int),((t.2.toNat:Nat):Int)) = t:=Prod.ext (by show ((t.1.toNat:Nat):Int) = t.1; omega) (by show ((t.2.toNat:Nat):Int) = t.2; omega)
 unfold tieT
 rw [e,decide_eq_true h]; rfl
theorem b3A {ts:List ζζ} {ls:List Nat} {n:Nat} (ok:∀ t ∈ ts,0 <= t.1/\t.1 < t.2/\t.2 < (n:Int)):∀ k,MkOk ts ls (mkR ls ts k)
 | 0=>λ x hx=>⟨hx,.inl rfl⟩
 | k + 1=>c1H (λ t ht=>b4D ok ht) (b3A ok k)
def Rch (ts:List ζζ) (ls:List Nat) (y:Nat):Nat->Nat->Prop
 | 0,x=>x = y
 | k + 1,x=>Rch ts ls y k x\/∃ z ∈ ls,tieT ts x z = true/\Rch ts ls y k z
theorem b3B {ts:List ζζ} {ls:List Nat} {y:Nat}:∀ (k:Nat) {x:Nat},x ∈ ls->Rch ts ls y k x->mkR ls ts k x <= y
 | 0,x,_,h=>by rw [show x = y from h]; exact Nat.le_refl _
 | k + 1,x,hx,h=>by
  show mkS ls (mkR ls ts k) ts x <= y
  rcases h with h | ⟨z,hz,t,h⟩
  ·exact Nat.le_trans (b2Z ls ts _ x) (b3B k hx h)
  ·have i:=b3B k hz h
   unfold tieT at t
   rw [Bool.or_eq_true] at t
   rcases t with t | t
   ·have:=(b1R (f:=mkR ls ts k) (of_decide_eq_true t) hx hz).1
    omega
   ·have:=(b1R (f:=mkR ls ts k) (of_decide_eq_true t) hz hx).2
    omega
open Classical in
theorem b3C {ts:List ζζ} {ls:List Nat} {y:Nat} (hy:y ∈ ls):∀ k,(∀ x ∈ ls,Rch ts ls y (k + 1) x->Rch ts ls y k x)\/k + 1 <= ls.countP λ x=>decide (Rch ts ls y k x)
 | 0=>.inr (by
   show 0 < _
   rw [List.countP_pos_iff]
   exact ⟨y,hy,decide_eq_true rfl⟩)
 | k + 1=>by
  rcases b3C hy k with h | h
  ·refine .inl λ x hx r=>?_
   rcases r with r | ⟨z,hz,t,r⟩
   ·exact r
   ·exact .inr ⟨z,hz,t,h z hz r⟩
  ·by_cases c:∀ x ∈ ls,Rch ts ls y (k + 1 + 1) x->Rch ts ls y (k + 1) x
   ·exact .inl c
   ·refine .inr ?_
    have ex:∃ x,x ∈ ls/\Rch ts ls y (k + 1) x/\¬ Rch ts ls y k x:=by
     apply Classical.byContradiction
     intro z
     have cl:∀ x ∈ ls,Rch ts ls y (k + 1) x->Rch ts ls y k x:=λ x hx r=>Classical.byContradiction λ nr=>z ⟨x,hx,r,nr⟩
     refine c λ x hx r=>?_
     rcases r with r | ⟨w,hw,t,r⟩
     ·exact r
     ·exact .inr ⟨w,hw,t,cl w hw r⟩
    obtain ⟨x,hx,h1,h2⟩:=ex
    have:=Srt.countP_lt (p:=λ x=>decide (Rch ts ls y k x)) (q:=λ x=>decide (Rch ts ls y (k + 1) x)) (λ z hz=>decide_eq_true (.inl (of_decide_eq_true hz))) hx (decide_eq_false h2) (decide_eq_true h1)
    omega
open Classical in
theorem c3Z {ts:List ζζ} {ls:List Nat} {x y:Nat} (hx:x ∈ ls) (hy:y ∈ ls) (p:PathT ts ls y x):Rch ts ls y ls.length x:=by
 have cl:∀ x ∈ ls,Rch ts ls y (ls.length + 1) x->Rch ts ls y ls.length x:=by
  refine (b3C hy ls.length).resolve_right λ z=>?_
  have:=List.countP_le_length (p:=λ x=>decide (Rch ts ls y ls.length x)) (l:=ls)
  omega
 have self:∀ k,Rch ts ls y k y:=λ k=>by
  induction k with
  | zero=>rfl
  | succ k ih=>exact .inl ih
 have all:∀ u,PathT ts ls y u->u ∈ ls->Rch ts ls y ls.length u:=λ u p=>by
  induction p with
  | one t=>exact λ hu=>cl _ hu (.inr ⟨y,hy,a1L t,self _⟩)
  | step p m t ih=>exact λ hu=>cl _ hu (.inr ⟨_,m,a1L t,ih m⟩)
 exact all x p hx
theorem c4A {ts:List ζζ} {ls:List Nat} {x y:Nat} (hx:x ∈ ls) (hy:y ∈ ls) (p:x = y\/PathT ts ls x y):mkR ls ts ls.length x <= y:=by
 rcases p with rfl | p
 ·have self:∀ k,Rch ts ls x k x:=λ k=>by
   induction k with
   | zero=>rfl
   | succ k ih=>exact .inl ih
  exact b3B _ hx (self _)
 ·exact b3B _ hx (c3Z hx hy p.symm)
theorem c4B {ts:List ζζ} {ls:List Nat} {n:Nat} (ok:∀ t ∈ ts,0 <= t.1/\t.1 < t.2/\t.2 < (n:Int)) {x y:Nat} (hx:x ∈ ls) (hy:y ∈ ls) (p:PathT ts ls x y):mkR ls ts ls.length x = mkR ls ts ls.length y:=by
 have one:∀ {x y:Nat},x ∈ ls->y ∈ ls->PathT ts ls x y->mkR ls ts ls.length x <= mkR ls ts ls.length y:=λ {x y} hx hy p=>by
  obtain ⟨m,r⟩:=b3A (ls:=ls) ok ls.length y hy
  refine c4A hx m (.inr ?_)
  rcases r with r | r
  ·rw [r]; exact p
  ·exact PathT.glue hy p r
 exact Nat.le_antisymm (one hx hy p) (one hy hx p.symm)
abbrev a5R:Stmt:=top 41
theorem sc__law_heaps:FnScope ["_law_n", "_law_ties_here", "_law_least", "_law_k", "_law_a", "_law_b", "_law_low"] ["_law_n", "_law_ties_here"] (a0E a5R):=⟨rfl,rfl,rfl,by decide +kernel,rfl,by decide +kernel,by decide +kernel⟩
theorem c4C {ts:List ζζ} {V:List Nat} {x y:Nat} (h:PathT ts V x y):Cn ts x y:=by
 induction h with
 | one h=>exact .one h
 | step _ _ h ih=>exact ih.step h
theorem b7U {n a:Nat} {f:Nat->Nat} {x:Nat}:(natV ((List.range n).map f)).set a (.int (x:Int)) = natV ((List.range n).map λ y=>if y = a then x else f y):=by
 refine List.ext_getElem? λ i=>?_
 rw [List.getElem?_set]
 by_cases c:a = i
 ·subst c
  rw [if_pos rfl]
  by_cases d:a < n
  ·rw [if_pos (by rw [List.length_map,List.length_map,List.length_range]; exact d)]
   rw [List.getElem?_map,List.getElem?_map,List.getElem?_range d]
   simp
  ·rw [if_neg (by rw [List.length_map,List.length_map,List.length_range]; exact d)]
   rw [List.getElem?_eq_none (by rw [List.length_map,List.length_map,List.length_range]; omega)]
 ·rw [if_neg c,List.getElem?_map,List.getElem?_map,List.getElem?_map,List.getElem?_map]
  by_cases d:i < n
  ·rw [List.getElem?_range d]
   simp [Ne.symm c]
  ·rw [List.getElem?_eq_none (by rw [List.length_range]; omega)]; rfl
theorem c1I {n a:Nat} {f:Nat->Nat} (h:a < n):atI (natV ((List.range n).map f)) (a:Int) = some (.int ((f a:Nat):Int)):=a1F (by
 rw [List.getElem?_map,List.getElem?_map,List.getElem?_range h]; rfl)
def b7V (K:Φρ):Sp:=λ vs H Q _=>∃ (n:Nat) (r:Addr) (xs:List V) (ts:List ζζ),vs = [.int n,.ref r]/\n <= 10/\SqL K H r xs/\Paired (TieL H) xs ts/\TOk n ts /\
 ∀ (h:Nat) H',Same H H'->(h + ts.length = n ↔ Acy ts)->h <= n->Q (.int (h:Int)) H'
section
variable {P:Program} {w:World} {K:Φρ} {mg:Str->Option Value} {base:Heap}
abbrev DZ1 (K:PySem.W.Frag) (mg:Str->Option Value):=Dn K mg "_law_heaps" a5R ["_law_n", "_law_ties_here"]
set_option maxHeartbeats 8000000 in
theorem a8R (B:Bl mg) (dZ1:DZ1 K mg):FnOk P w K mg base CX0 1 dZ1.f dZ1.fd ["_law_n", "_law_ties_here"] (b7V K):=by
 refine dZ1.F.ok sc__law_heaps (λ vs H Q E h=>?_) (λ cdv A outer s H vs Q E hr h=>?_)
 ·obtain ⟨n,r,xs,ts,rfl,_⟩:=h
  rfl
 obtain ⟨n,r,xs,ts,rfl,n10,hR,hq,okt,q⟩:=h
 refine ⟨_,(a0C (a0J (i:=2) sc__law_heaps.nd rfl (Or.inl rfl) (a5Z rfl B.list B.range (a0A (pv 0) a0B)))
   (a0C (a1R PassesOwn.never rfl (a1D rfl B.range (a0A (pv 0) a0B)) (a0H (i:=3) sc__law_heaps.nd rfl (Or.inl rfl))
   (a0D (a1R PassesOwn.never rfl (a1G (K:=K) rfl (pv 1)) (a2X (K:=K) (n:=2) rfl rfl (a1B (a0H (i:=4) sc__law_heaps.nd rfl (Or.inl rfl)) (a1B (a0H (i:=5) sc__law_heaps.nd rfl (Or.inl rfl)) a2V)))
   (a0C (a0J (i:=6) sc__law_heaps.nd rfl (Or.inl rfl) (a0K (a3E rfl) rfl B.min (by decide +kernel) (a0A (a0S (a0I (K:=K) rfl) (pv 2) (pv 4) (λ _ _=>rfl)) (a0A (a0S (a0I (K:=K) rfl) (pv 2) (pv 5) (λ _ _=>rfl)) a0B))))
   (a0C (a4C (pv 6) (a4B (pv 2) (pv 4) a1Z))
   (a0D (a4C (pv 6) (a4B (pv 2) (pv 5) a1Z))))))))
   (a0D (a0M (a0K (a7M (w:=w) rfl) rfl B.len (by decide +kernel) (a0A (a2I (a4M (K:=K) (w:=w) rfl rfl rfl) rfl B.set (by decide +kernel) (a0A (pv 2) a0B)) a0B)))))),?_⟩
 refine ⟨_,rfl,n,rfl,by omega,λ pl H1 n1=>?_⟩
 refine ⟨_,rfl,_,rfl,by omega,by omega,?_⟩
 rw [Int.toNat_natCast]
 have h1:H1 pl = some (.lst (natV ((List.range n).map (mkR (List.range n) ts 0)))):=by
  rw [n1.here]
  show _ = some (HO.lst (natV ((List.range n).map id)))
  rw [List.map_id]
 have mr:∀ {x:Nat},x < n->x ∈ List.range n:=λ {x} h=>List.mem_range.mpr h
 refine a1O (n:=n) (λ i σ H'=>(∃ kk aa bb lo:Option V,σ = [some (.int n),some (.ref r),some (.ref pl),kk,aa,bb,lo])/\Same H H'/\H' pl = some (.lst (natV ((List.range n).map (mkR (List.range n) ts i))))) ⟨⟨_,_,_,_,rfl⟩,n1.same,h1⟩ ?_ ?_
 ·rintro i σ H2 hi ⟨⟨kk,aa,bb,lo,rfl⟩,s2,h2⟩
  refine ⟨_,rfl,r,rfl,⟨_,s2.seq hR⟩,?_⟩
  refine a3Q (xs:=xs) (λ j σ H'=>(∃ aa bb lo:Option V,σ = [some (.int n),some (.ref r),some (.ref pl),some (.int (0 + (i:Int))),aa,bb,lo])/\Same H H'/\H' pl = some (.lst (natV ((List.range n).map (mkS (List.range n) (mkR (List.range n) ts i) (ts.take j)))))) ⟨⟨_,_,_,rfl⟩,s2,h2⟩ (λ i σ H' _ ⟨_,s,_⟩=>s.seq hR) ?_ ?_
  ·rintro j y σ H3 hy ⟨⟨aa,bb,lo,rfl⟩,s3,h3⟩
   obtain ⟨t,ht,⟨pt,rfl,hTt⟩⟩:=a0V hq hy
   have tok:=okt t (List.mem_of_getElem? ht)
   obtain ⟨hjl,hjt⟩:=List.getElem?_eq_some_iff.mp ht
   have et:ts.take (j + 1) = ts.take j ++ [t]:=by rw [List.take_succ_eq_append_getElem hjl,hjt]
   have e1:t.1 = ((t.1.toNat:Nat):Int):=by omega
   have e2:t.2 = ((t.2.toNat:Nat):Int):=by omega
   have hTt':H pt = some (.tup [.int ((t.1.toNat:Nat):Int),.int ((t.2.toNat:Nat):Int)]):=by rw [<- e1,<- e2]; exact hTt
   have an:t.1.toNat < n:=by omega
   have bn:t.2.toNat < n:=by omega
   refine ⟨pt,_,rfl,SqT.of (s3 _ _ hTt'),rfl,_,_,rfl,_,_,rfl,rfl,?_⟩
   generalize hf:mkS (List.range n) (mkR (List.range n) ts i) (ts.take j) = f at h3
   have next:mkS (List.range n) (mkR (List.range n) ts i) (ts.take (j + 1)) = mkT (List.range n) f t:=by rw [et,c0H,hf]
   refine ⟨_,rfl,_,rfl,pl,_,_,_,rfl,rfl,SqL.of h3,c1I an,_,rfl,_,rfl,pl,_,_,_,rfl,rfl,SqL.of h3,c1I bn,_,_,rfl,?_⟩
   have emin:(if ((f t.2.toNat:Nat):Int) < ((f t.1.toNat:Nat):Int) then ((f t.2.toNat:Nat):Int) else ((f t.1.toNat:Nat):Int)) = ((min (f t.1.toNat) (f t.2.toNat):Nat):Int):=by
    by_cases c:((f t.2.toNat:Nat):Int) < ((f t.1.toNat:Nat):Int)
    ·rw [if_pos c]; omega
    ·rw [if_neg c]; omega
   rw [emin]
   have ln:∀ g:Nat->Nat,(natV ((List.range n).map g)).length = n:=λ g=>by rw [List.length_map,List.length_map,List.length_range]
   refine ⟨_,rfl,_,rfl,_,rfl,pl,_,_,t.1.toNat,rfl,rfl,h3,a3G (by rw [ln]; exact an),λ H4 c4=>?_⟩
   have h4:=c4.here
   rw [b7U] at h4
   refine ⟨_,rfl,_,rfl,_,rfl,pl,_,_,t.2.toNat,rfl,rfl,h4,a3G (by rw [ln]; exact bn),λ H5 c5=>?_⟩
   refine ⟨⟨_,_,_,rfl⟩,(s3.chg n1.fresh c4).chg n1.fresh c5,?_⟩
   have eT:mkT (List.range n) f t = mk1 (List.range n) f t.1.toNat t.2.toNat:=by unfold mkT; rw [if_pos ⟨mr an,mr bn⟩]
   rw [c5.here,b7U,next,eT]
   congr 4
   funext z
   unfold mk1
   by_cases z2:z = t.2.toNat
   ·rw [if_pos z2,if_pos (.inr z2)]
   ·rw [if_neg z2]
    by_cases z1:z = t.1.toNat
    ·rw [if_pos z1,if_pos (.inl z1)]
    ·rw [if_neg z1,if_neg (λ w=>w.elim z1 z2)]
  ·rintro σ H3 ⟨⟨aa,bb,lo,rfl⟩,s3,h3⟩
   rw [Paired.length hq,List.take_length] at h3
   exact ⟨⟨_,_,_,_,rfl⟩,s3,h3⟩
 ·rintro σ H2 ⟨⟨kk,aa,bb,lo,rfl⟩,s2,h2⟩
  rw [a0U] at h2
  have kl:∀ x,x < n->mkR (List.range n) ts n x < n:=λ x hx=>List.mem_range.mp ((b3A okt n (ls:=List.range n) x (mr hx)).1)
  refine ⟨_,rfl,pl,_,rfl,SqL.of h2,λ x hx=>?_,λ pS L H3 n3 hm=>?_⟩
  ·obtain ⟨y,hy,rfl⟩:=List.mem_map.mp hx
   obtain ⟨z,hz,rfl⟩:=List.mem_map.mp hy
   have:=kl z (List.mem_range.mp hz)
   omega
  refine ⟨pS,true,L,rfl,n3.here,λ ndL=>?_⟩
  have V:Vals49 n (mkR (List.range n) ts n) L:=⟨ndL,λ x=>by
   rw [hm x,List.mem_map]
   constructor
   ·rintro ⟨y,hy,e⟩
    obtain ⟨z,hz,e2⟩:=List.mem_map.mp hy
    exact ⟨z,List.mem_range.mp hz,by omega⟩
   ·rintro ⟨v,hv,e⟩
    exact ⟨x,List.mem_map.mpr ⟨v,mr hv,e⟩,rfl⟩⟩
  have ll:(List.range n).length = n:=List.length_range
  refine q L.length H3 (s2.trans n3.same) (b7H okt V (λ x y h=>?_) λ x hx=>⟨kl x hx,?_⟩) ?_
  ·have tl:=a3O okt h
   have:=c4B okt (mr tl.1) (mr tl.2.1) (PathT.one h)
   rw [ll] at this
   exact this
  ·rcases (b3A okt n (ls:=List.range n) x (mr hx)).2 with e | p
   ·rw [e]
    exact .refl
   ·exact c4C p
  ·refine a2Z ndL λ x hx=>?_
   obtain ⟨v,hv,e⟩:=(V.mem x).mp hx
   rw [<- e]
   exact kl v hv
end
theorem b7W (s t:Int × Int):PyData.eqv (tieD s) (tieD t) = decide (s = t):=by
 unfold tieD
 rw [PyData.eqv]
 have e:=PySem.W.ked_eqvAll [s.1,s.2] [t.1,t.2]
 have e':PyData.eqvAll [.int s.1,.int s.2] [.int t.1,.int t.2] = decide ([s.1,s.2] = [t.1,t.2]):=e
 rw [e']
 obtain ⟨a,b⟩:=s
 obtain ⟨c,d⟩:=t
 simp
theorem c4D (ts:List ζζ) (t:Int × Int):(ts.map tieD).any (λ e=>PyData.eqv e (tieD t)) = decide (t ∈ ts):=by
 rw [List.any_map]
 rw [Bool.eq_iff_iff,List.any_eq_true,decide_eq_true_iff]
 constructor
 ·rintro ⟨s,hs,e⟩
  have:PyData.eqv (tieD s) (tieD t) = true:=e
  rw [b7W] at this
  rw [<- of_decide_eq_true this]; exact hs
 ·intro h
  exact ⟨t,h,by show PyData.eqv (tieD t) (tieD t) = true; rw [b7W]; simp⟩
theorem b4E (t:Int × Int):SeqAt.shaped (tieD t) = true:=by
 unfold SeqAt.shaped
 rw [b5D,Bool.true_and]
 exact decide_eq_true (by have:=a6G t; omega)
abbrev a3B:Stmt:=top 42
theorem sc__law_ring:FnScope ["_law_ring_here", "_law_ties_here", "_law_k"] ["_law_ring_here", "_law_ties_here"] (a0E a3B):=⟨rfl,rfl,rfl,by decide +kernel,rfl,by decide +kernel,by decide +kernel⟩
def tieI (a b:Nat):Int × Int:=((min a b:Nat),(max a b:Nat))
theorem c7X {K:Φρ}:PySem.W.kitOne K (.type "list") (.type "list") = some true:=by rfl
theorem b7X {ts:List ζζ} {n:Nat} (ok:∀ t ∈ ts,0 <= t.1/\t.1 < t.2/\t.2 < (n:Int)) {a b:Nat}:tieT ts a b = true ↔ tieI a b ∈ ts:=by
 unfold tieT tieI
 rw [Bool.or_eq_true,decide_eq_true_iff,decide_eq_true_iff]
 rcases Nat.le_total a b with c | c
 ·rw [Nat.min_eq_left c,Nat.max_eq_right c]
  refine ⟨λ h=>h.elim id λ h=>?_,.inl⟩
  have:=ok _ h
  have:a = b:=by omega
  rw [this] at h ⊢
  exact h
 ·rw [Nat.min_eq_right c,Nat.max_eq_left c]
  refine ⟨λ h=>h.elim (λ h=>?_) id,.inr⟩
  have:=ok _ h
  have:a = b:=by omega
  rw [this] at h ⊢
  exact h
def c0I (K:Φρ):Sp:=λ vs H Q _=>∃ (n:Nat) (ru r:Addr) (rg:List Nat) (xs:List V) (ts:List ζζ),vs = [.ref ru,.ref r]/\H ru = some (.lst (natV rg))/\RingR ts n rg/\n <= 10/\SqL K H r xs/\Paired (TieL H) xs ts/\(∀ t ∈ ts,0 <= t.1/\t.1 < t.2/\t.2 < (n:Int))/\ts.length <= 49 /\
 ∀ H',Same H H'->Q (.bl true) H'
section
variable {P:Program} {w:World} {K:Φρ} {mg:Str->Option Value} {base:Heap}
abbrev DZ2 (K:PySem.W.Frag) (mg:Str->Option Value):=Dn K mg "_law_ring" a3B ["_law_ring_here", "_law_ties_here"]
set_option maxHeartbeats 8000000 in
theorem b0J (B:Bl mg) (dZ2:DZ2 K mg):FnOk P w K mg base CX0 1 dZ2.f dZ2.fd ["_law_ring_here", "_law_ties_here"] (c0I K):=by
 refine dZ2.F.ok sc__law_ring (λ vs H Q E h=>?_) (λ cdv A outer s H vs Q E hr h=>?_)
 ·obtain ⟨n,ru,r,rg,xs,ts,rfl,_⟩:=h
  rfl
 obtain ⟨n,ru,r,rg,xs,ts,rfl,hU,R,n10,hR,hq,okt,l45,q⟩:=h
 have hu:(A.deeper (PyProof.Rows.envOfC "_law_ring" (a0E a3B) s.heap.objs.size dZ2.f cdv)).units + 64 < cLine:=by have:=hr.un; omega
 have hv:(A.deeper (PyProof.Rows.envOfC "_law_ring" (a0E a3B) s.heap.objs.size dZ2.f cdv)).units + 65 < cLine:=by have:=hr.un; omega
 have lr:rg.length <= n:=a2Z R.nd R.lt
 have l3:=R.len
 refine ⟨_,(a0C (a3T (PW.pt (b0N (a7E (a0P (K:=K) rfl (a0K (a2C (K:=K) rfl) rfl B.isinstance (by decide +kernel) (a0A (pv 0) (a0A (a6A (v:=.ty "list") (u:=.type "list") rfl B.list (by decide +kernel) rfl) a0B))) (λ _=>rfl))) (b0N (a1C b3F (a0K (a1E (K:=K) rfl) rfl B.len (by decide +kernel) (a0A (pv 0) a0B)) a0F (a1N _)) (a8V (a1C c1M (a0K (a7M (w:=w) rfl) rfl B.len (by decide +kernel) (a0A (a2I (a4M (K:=K) (w:=w) rfl rfl rfl) rfl B.set (by decide +kernel) (a0A (pv 0) a0B)) a0B)) (a0K (a1E (K:=K) rfl) rfl B.len (by decide +kernel) (a0A (pv 0) a0B)) (a1N _))))))
   (a0D (a0M a8T))
   a1S)
   (a0C (a1R PassesOwn.never rfl (a1D rfl B.range (a0A (a0K (a1E (K:=K) rfl) rfl B.len (by decide +kernel) (a0A (pv 0) a0B)) a0B)) (a0H (i:=2) sc__law_ring.nd rfl (Or.inl rfl))
   (a0D (a3T (a1C (a3R (K:=K) rfl hv) (a2A (a0A (a0K (a3E rfl) rfl B.min (by decide +kernel) (a0A (a0S (a0I (K:=K) rfl) (pv 0) (pv 2) (λ _ _=>rfl)) (a0A (a0S (a0I (K:=K) rfl) (pv 0) (a0O a6B (pv 2) a0F) (λ _ _=>rfl)) a0B))) (a0A (a0K (a6C rfl) rfl B.max (by decide +kernel) (a0A (a0S (a0I (K:=K) rfl) (pv 0) (pv 2) (λ _ _=>rfl)) (a0A (a0S (a0I (K:=K) rfl) (pv 0) (a0O a6B (pv 2) a0F) (λ _ _=>rfl)) a0B))) a0B))) (pv 1) (by with_unfolding_all rfl))
   (a0D (a0M a8T))
   a1S)))
   (a0D (a0M a8T)))),?_⟩
 refine ⟨_,rfl,_,_,_,_,_,rfl,rfl,TyOf.lst hU,c7X,_,rfl,iteF ?_⟩
 have hUi:SqL K H ru ((a0T rg).map V.int):=by
  have:=SqL.of (K:=K) hU
  rw [a0U] at this
  exact this
 refine ⟨_,rfl,ru,_,rfl,.inl (SqL.of hU),_,_,rfl,rfl,_,rfl,?_⟩
 rw [show decide ((((natV rg).length:Nat):Int) < 3) = false from decide_eq_false (by rw [a1U]; omega)]
 refine iteF ?_
 refine ⟨_,rfl,ru,a0T rg,rfl,hUi,λ x hx=>?_,λ pS L H1 n1 hm=>?_⟩
 ·obtain ⟨u,hu,rfl⟩:=mem_natIp.mp hx
  have:=R.lt u hu
  omega
 refine ⟨pS,true,L,rfl,n1.here,λ ndL=>?_⟩
 have eL:L.length = rg.length:=by
  refine List.Perm.length_eq ((List.perm_ext_iff_of_nodup ndL R.nd).mpr λ x=>?_)
  rw [hm x,mem_natIp]
  constructor
  ·rintro ⟨u,hu,e⟩
   have:u = x:=by omega
   rw [<- this]; exact hu
  ·exact λ h=>⟨x,h,rfl⟩
 have hU1:=n1.same _ _ hU
 refine ⟨_,rfl,ru,_,rfl,.inl (SqL.of hU1),rfl,_,rfl,?_⟩
 rw [show (!decide (V.int ((L.length:Nat):Int) = V.int (((natV rg).length:Nat):Int))) = false by rw [a1U,eL,decide_eq_true rfl]; rfl]
 refine iteF ?_
 refine ⟨_,rfl,ru,_,rfl,.inl (SqL.of hU1),_,rfl,by omega,by rw [a1U]; omega,?_⟩
 rw [Int.toNat_natCast,a1U]
 have at_:∀ i:Nat,i < rg.length->atI (natV rg) (i:Int) = some (.int ((rg.getD i 0:Nat):Int)):=λ i hi=>a1F (by
  unfold natV
  rw [List.getElem?_map,List.getElem?_eq_getElem hi,τα,List.getElem?_eq_getElem hi]
  rfl)
 refine a1O (n:=rg.length) (λ i σ H'=>(∃ kk:Option V,σ = [some (.ref ru),some (.ref r),kk])/\Same H H') ⟨⟨_,rfl⟩,n1.same⟩ ?_ ?_
 ·rintro i σ H2 hi ⟨⟨kk,rfl⟩,s2⟩
  have ei:(0:Int) + (i:Int) = (i:Int):=by omega
  rw [ei]
  have hU2:=SqL.of (K:=K) (s2 _ _ hU)
  obtain ⟨u,at2,tu⟩:∃ u:Nat,atI (natV rg) ((i:Int) - 1) = some (.int (u:Int))/\tieT ts (rg.getD i 0) u = true:=by
   rcases Nat.eq_zero_or_pos i with c | c
   ·refine ⟨rg.getD (rg.length - 1) 0,?_,?_⟩
    ·have e:ixN (natV rg).length ((i:Int) - 1) = some (rg.length - 1):=by
      unfold ixN
      rw [a1U,if_neg (by omega),if_pos (by omega)]
      congr 1
      omega
     unfold atI
     rw [e]
     show (natV rg)[rg.length - 1]? = _
     unfold natV
     rw [List.getElem?_map,List.getElem?_eq_getElem (by omega),τα,List.getElem?_eq_getElem (by omega)]
     rfl
    ·have:=R.clo
     rw [c]
     unfold tieT at this ⊢
     rw [Bool.or_comm]; exact this
   ·refine ⟨rg.getD (i - 1) 0,?_,?_⟩
    ·rw [show (i:Int) - 1 = ((i - 1:Nat):Int) by omega]
     exact at_ _ (by omega)
    ·have:=R.tie (i - 1) (by omega)
     rw [show i - 1 + 1 = i by omega] at this
     unfold tieT at this ⊢
     rw [Bool.or_comm]; exact this
  have at1:=at_ i hi
  generalize rg.getD i 0 = x at tu at1
  refine ⟨_,rfl,_,rfl,ru,_,_,_,rfl,rfl,hU2,at1,_,rfl,_,rfl,_,_,rfl,rfl,ru,_,_,_,rfl,rfl,hU2,at2,_,_,rfl,_,rfl,_,rfl,ru,_,_,_,rfl,rfl,hU2,at1,_,rfl,_,rfl,_,_,rfl,rfl,ru,_,_,_,rfl,rfl,hU2,at2,_,_,rfl,(by show 2 <= 1000; decide),λ p3 H3 n3=>?_⟩
  have et:tieI x u = (if (u:Int) < (x:Int) then (u:Int) else (x:Int),if (u:Int) > (x:Int) then (u:Int) else (x:Int)):=by
   unfold tieI
   refine Prod.ext ?_ ?_
   ·show ((min x u:Nat):Int) = _
    by_cases c:(u:Int) < (x:Int)
    ·rw [if_pos c]; omega
    ·rw [if_neg c]; omega
   ·show ((max x u:Nat):Int) = _
    by_cases c:(u:Int) > (x:Int)
    ·rw [if_pos c]; omega
    ·rw [if_neg c]; omega
  have t3:TieL H3 (.ref p3) (tieI x u):=⟨p3,rfl,by rw [et]; exact n3.here⟩
  have tB:TiesAt K H3 r ts:=⟨xs,(s2.trans n3.same).seq hR,Paired.mapP hq λ _ _ q=>(TieL.same (s2.trans n3.same) q).v,by omega⟩
  refine ⟨_,rfl,tieD (tieI x u),ts.map tieD,(t3.v (K:=K)).isD,tB.isD,b4E _,a6H _,_,rfl,?_⟩
  rw [if_pos rfl,c4D,decide_eq_true ((b7X okt).mp tu)]
  exact iteF ⟨⟨_,rfl⟩,s2.trans n3.same⟩
 ·rintro σ H2 ⟨⟨kk,rfl⟩,s2⟩
  exact q H2 s2
end
end K
namespace K
open PySem L2 Lw Bg
abbrev a6U:Stmt:=top 38
theorem b0K:FnScope ["_law_script", "_law_k"] ["_law_script", "_law_k"] (a0E a6U):=⟨rfl,rfl,rfl,by decide +kernel,rfl,by decide +kernel,by decide +kernel⟩
def c4E (K:Φρ):Sp:=λ vs H Q _=>∃ (a:Addr) (ns:List Int) (k:Int),vs = [.ref a,.int k]/\Scr K H a ns/\ns.length <= 63/\0 <= k/\k <= 1000/\∀ z,Q (.int z) H
section
variable {P:Program} {w:World} {K:Φρ} {mg:Str->Option Value} {base:Heap}
abbrev DZ0 (K:PySem.W.Frag) (mg:Str->Option Value):=Dn K mg "_law_cell" a6U ["_law_script", "_law_k"]
set_option maxHeartbeats 4000000 in
theorem a3P (B:Bl mg) (dZ0:DZ0 K mg):FnOk P w K mg base CX0 1 dZ0.f dZ0.fd ["_law_script", "_law_k"] (c4E K):=by
 refine dZ0.F.ok b0K (λ vs H Q E h=>?_) (λ cdv A outer s H vs Q E hr h=>?_)
 ·obtain ⟨a,ns,k,rfl,_⟩:=h
  rfl
 obtain ⟨a,ns,k,rfl,hS,h63,h0,h1,q⟩:=h
 refine ⟨_,(a0C (a3T (a1C b3F (pv 1) (a0K (a1E (K:=K) rfl) rfl B.len (by decide +kernel) (a0A (pv 0) a0B)) (a1N _))
   (a0D (a0M (a0S (a0I (K:=K) rfl) (pv 0) (pv 1) (λ _ _=>rfl))))
   a1S)
   (a0C (a3T (a1C a7V (a0K (a1E (K:=K) rfl) rfl B.len (by decide +kernel) (a0A (pv 0) a0B)) a0F (a1N _))
   (a0D (a0M (a0O a2R (a0O a4E (a0O a4E (pv 1) (pv 1)) a0F) a0F)))
   a1S)
   (a0D (a0M (a0O a2R (a0O a4E (a0O a2N (a0S (a0I (K:=K) rfl) (pv 0) (a0O a2N (a0O a4E (pv 1) a0F) (a0K (a1E (K:=K) rfl) rfl B.len (by decide +kernel) (a0A (pv 0) a0B))) (λ _ _=>rfl)) a0F) a0F) (a0O a4E (a0O a4E (pv 1) (pv 1)) a0F)))))),?_⟩
 have hl:(ns.map V.int).length = ns.length:=List.length_map _
 refine ⟨_,rfl,_,rfl,a,_,rfl,.inl hS.seq,_,_,rfl,rfl,_,rfl,?_⟩
 refine ite2 (λ c=>?_) (λ c=>?_)
 ·have c':k < (((ns.map V.int).length:Nat):Int):=of_decide_eq_true c
  rw [hl] at c'
  exact ⟨_,rfl,_,rfl,a,_,_,_,rfl,rfl,hS.seq,b4Y h0 c',q _⟩
 refine ⟨_,rfl,a,_,rfl,.inl hS.seq,rfl,_,rfl,?_⟩
 refine ite2 (λ c2=>?_) (λ c2=>?_)
 ·exact ⟨_,rfl,_,rfl,_,_,rfl,rfl,.inl ⟨by omega,by omega⟩,_,_,rfl,rfl,.inr ⟨by decide,by decide⟩,_,_,rfl,rfl,q _⟩
 ·have c2':¬ V.int (((ns.map V.int).length:Nat):Int) = V.int 0:=of_decide_eq_false (Bool.eq_false_iff.mpr c2)
  rw [hl] at c2'
  have z':(0:Int) < (ns.length:Int):=by
   rcases Nat.eq_zero_or_pos ns.length with e | e
   ·exact absurd (by rw [e]; rfl) c2'
   ·omega
  have m0:=Int.emod_nonneg (k * 3) (show (ns.length:Int) ≠ 0 by omega)
  have m1:=Int.emod_lt_of_pos (k * 3) z'
  exact ⟨_,rfl,_,rfl,_,_,rfl,rfl,.inr ⟨by decide,by decide⟩,_,rfl,a,_,rfl,.inl hS.seq,_,_,rfl,rfl,(by rw [hl]; exact z'),a,_,_,_,rfl,rfl,hS.seq,(by rw [hl]; exact b4Y m0 m1),_,_,rfl,rfl,(show (0:Int) < _ by decide),_,_,rfl,rfl,.inr ⟨by decide,by decide⟩,_,rfl,_,rfl,_,_,rfl,rfl,.inl ⟨by omega,by omega⟩,_,_,rfl,rfl,.inr ⟨by decide,by decide⟩,_,_,rfl,rfl,q _⟩
end
abbrev a4U:Stmt:=top 39
theorem sc__law_turned:FnScope ["_law_script", "_law_n", "_law_turned_here", "_law_v"] ["_law_script", "_law_n"] (a0E a4U):=⟨rfl,rfl,rfl,by decide +kernel,rfl,by decide +kernel,by decide +kernel⟩
abbrev rng (n:Nat):List Int:=(List.range n).map λ i=>((i:Nat):Int)
theorem mem_rng {n:Nat} {v:Int}:v ∈ rng n ↔ 0 <= v/\v < (n:Int):=by
 rw [List.mem_map]
 constructor
 ·rintro ⟨i,hi,rfl⟩
  have:=List.mem_range.mp hi
  omega
 ·rintro ⟨h0,h1⟩
  exact ⟨v.toNat,List.mem_range.mpr (by omega),by omega⟩
def c0J (K:Φρ):Sp:=λ vs H Q _=>∃ (a:Addr) (ns:List Int) (n:Nat),vs = [.ref a,.int n]/\Scr K H a ns/\ns.length <= 63/\n <= 10/\∀ r us H',New H r (.lst (List.map V.int us)) H'->us.Perm (rng n)->Q (.ref r) H'
section
variable {P:Program} {w:World} {K:Φρ} {mg:Str->Option Value} {base:Heap}
abbrev DZ4 (K:PySem.W.Frag) (mg:Str->Option Value):=Dn K mg "_law_turned" a4U ["_law_script", "_law_n"]
set_option maxHeartbeats 4000000 in
theorem a7C (B:Bl mg) (dZ0:DZ0 K mg) (dZ4:DZ4 K mg):FnOk P w K mg base CX0 2 dZ4.f dZ4.fd ["_law_script", "_law_n"] (c0J K):=by
 have gZ0:FnOk P w K mg base CX0 1 _ _ _ _:=a3P B dZ0
 refine dZ4.F.ok sc__law_turned (λ vs H Q E h=>?_) (λ cdv A outer s H vs Q E hr h=>?_)
 ·obtain ⟨a,ns,n,rfl,_⟩:=h
  rfl
 obtain ⟨a,ns,n,rfl,hS,h63,hn,q⟩:=h
 refine ⟨_,(a0C (a0J (i:=2) sc__law_turned.nd rfl (Or.inl rfl) (a1M a0B))
   (a0C (a1R PassesOwn.never rfl (a1D rfl B.range (a0A (pv 1) a0B)) (a0H (i:=3) sc__law_turned.nd rfl (Or.inl rfl))
   (a0D (a3C (a4I (K:=K) rfl PySem.F.plainAttrs_list PySem.F.slot_list_insert PySem.F.type_list_insert b3K (pv 2) (a0A (a0O a2N (a0G gZ0 hr rfl dZ0.m dZ0.F.kp dZ0.b .nil a0L (a0A (pv 0) (a0A (a0O a2R a0F (pv 3)) a0B))) (a0O a2R (pv 3) a0F)) (a0A (pv 3) a0B))))))
   (a0D (a0M (pv 2))))),?_⟩
 refine ⟨(by show 0 <= 1000; decide),λ r H0 nw=>?_⟩
 refine ⟨_,rfl,_,rfl,by omega,by omega,?_⟩
 rw [Int.toNat_natCast]
 refine a1O (n:=n) (λ i σ H'=>∃ (us:List Int) (v:Option V),σ = [some (.ref a),some (.int n),some (.ref r),v]/\New H r (.lst (us.map V.int)) H'/\us.Perm (rng i)) ⟨[],none,rfl,nw,.nil⟩ ?_ ?_
 ·rintro i σ H1 hi ⟨us,v,rfl,n1,pm⟩
  have ei:(0 + (i:Int)) = ((i:Nat):Int):=by omega
  rw [ei]
  have lu:us.length = i:=by rw [pm.length_eq]; simp
  refine ⟨_,rfl,.inl ⟨rfl,_,SqL.of n1.here⟩,_,rfl,_,rfl,_,_,rfl,rfl,a,ns,_,rfl,hS.same n1.same,h63,(by omega),(by omega),λ z=>?_⟩
  have m0:=Int.emod_nonneg z (show (i:Int) + 1 ≠ 0 by omega)
  have m1:=Int.emod_lt_of_pos z (show (0:Int) < (i:Int) + 1 by omega)
  refine ⟨_,rfl,_,_,rfl,rfl,_,_,rfl,rfl,(show (0:Int) < _ by omega),_,rfl,r,_,_,_,rfl,rfl,n1.here,(by rw [List.length_map]; omega),m0,(by rw [List.length_map]; omega),λ H2 ch=>?_⟩
  refine ⟨us.take (z % ((i:Int) + 1)).toNat ++ (i:Int) :: us.drop (z % ((i:Int) + 1)).toNat,_,rfl,⟨n1.fresh,?_,λ b hb=>(ch.rest b hb).trans (n1.rest b hb)⟩,?_⟩
  ·rw [ch.here,<- List.map_take,<- List.map_drop,List.map_append,List.map_cons]
  ·refine List.perm_middle.trans ?_
   rw [List.take_append_drop]
   have e:rng (i + 1) = rng i ++ [(i:Int)]:=by unfold rng; rw [List.range_succ,List.map_append]; rfl
   rw [e]
   exact (pm.cons _).trans (List.perm_append_singleton _ _).symm
 ·rintro σ H1 ⟨us,v,rfl,n1,pm⟩
  exact ⟨_,rfl,q r us H1 n1 pm⟩
end
theorem c0K {us:List Int} {n:Nat} (h:us.Perm (rng n)):∃ os:List Nat,us.map V.int = natV os/\os.Perm (List.range n)/\us = os.map λ (x:Nat)=>(x:Int):=by
 have e:us = (us.map Int.toNat).map λ (x:Nat)=>(x:Int):=by
  rw [List.map_map]
  conv=>lhs; rw [<- List.map_id us]
  refine List.map_congr_left λ x hx=>?_
  have:=mem_rng.mp (h.mem_iff.mp hx)
  show x = ((x.toNat:Nat):Int)
  omega
 refine ⟨us.map Int.toNat,by rw [a0U,<- e],?_,e⟩
 have:=h.map Int.toNat
 rw [List.map_map] at this
 have e2:(List.range n).map (Int.toNat ∘ λ i=>((i:Nat):Int)) = List.range n:=by
  conv=>rhs; rw [<- List.map_id (List.range n)]
  exact List.map_congr_left λ x _=>by simp
 rw [e2] at this
 exact this
abbrev a6V:Stmt:=top 40
theorem sc__law_ties:FnScope ["_law_script", "_law_n", "_law_turned_here", "_law_tied", "_law_k", "_law_most", "_law_cell_here", "_law_j", "_law_other", "_law_share", "_law_ties_here", "_law_a", "_law_b", "_law_mixed"] ["_law_script", "_law_n"] (a0E a6V):=⟨rfl,rfl,rfl,by decide +kernel,rfl,by decide +kernel,by decide +kernel⟩
abbrev lexT (s t:Int × Int):Prop:=s.1 < t.1\/(s.1 = t.1/\s.2 < t.2)
structure Web (n:Int) (ts:List ζζ):Prop where
 ok:∀ t ∈ ts,0 <= t.1/\t.1 < t.2/\t.2 < n
 up:ts.Pairwise lexT
theorem Web.nd {n:Int} {ts:List ζζ} (w:Web n ts):ts.Nodup:=w.up.imp λ h e=>by
 rw [e] at h
 rcases h with h | h <;> omega
def c0L (K:Φρ):Sp:=λ vs H Q _=>∃ (a:Addr) (ns:List Int) (n:Nat),vs = [.ref a,.int n]/\Scr K H a ns/\ns.length <= 63/\n <= 7 /\
 ∀ r xs ts H',Same H H'->H r = none->H' r = some (.lst xs)->Paired (TieL H') xs ts->Web n ts->ts.length <= 49->Q (.ref r) H'
section
variable {P:Program} {w:World} {K:Φρ} {mg:Str->Option Value} {base:Heap}
abbrev DZ3 (K:PySem.W.Frag) (mg:Str->Option Value):=Dn K mg "_law_ties" a6V ["_law_script", "_law_n"]
set_option maxHeartbeats 8000000 in
theorem b0L (B:Bl mg) (dZ0:DZ0 K mg) (dZ4:DZ4 K mg) (dZ3:DZ3 K mg):FnOk P w K mg base CX0 3 dZ3.f dZ3.fd ["_law_script", "_law_n"] (c0L K):=by
 have gZ0:FnOk P w K mg base CX0 2 _ _ _ _:=(a3P B dZ0).mono (by decide)
 have gZ4:FnOk P w K mg base CX0 2 _ _ _ _:=a7C B dZ0 dZ4
 refine dZ3.F.ok sc__law_ties (λ vs H Q E h=>?_) (λ cdv A outer s H vs Q E hr h=>?_)
 ·obtain ⟨a,ns,n,rfl,_⟩:=h
  rfl
 obtain ⟨a,ns,n,rfl,hS,h63,n7,q⟩:=h
 refine ⟨_,(a0C (a0J (i:=2) sc__law_ties.nd rfl (Or.inl rfl) (a0G gZ4 hr rfl dZ4.m dZ4.F.kp dZ4.b .nil a0L (a0A (pv 0) (a0A (pv 1) a0B))))
   (a0C (a2E (i:=3) ["_law_k", "_law_n"] [none,some 1] sc__law_ties.nd rfl rfl (by kernel_rfl) rfl (a1D rfl B.range (a0A (pv 1) a0B)) (λ _ _ _ _ _=>(a0H (i:=0) (show (["_law_k", "_law_n"]:List Str).Nodup by decide +kernel) rfl (Or.inl rfl))) (λ _ _ _ _ _=>a3V) (λ _ _ _ _ _=>(a0O c2F (a1M (a0A a8T a0B)) (pv 1))) (by rfl))
   (a0C (a0J (i:=5) sc__law_ties.nd rfl (Or.inl rfl) (a0O a2R a0F (a0O a2N (a0O b0O (a0G gZ0 hr rfl dZ0.m dZ0.F.kp dZ0.b .nil a0L (a0A (pv 0) (a0A a0F a0B))) a0F) a0F)))
   (a0C (a1R PassesOwn.never rfl (a3D rfl B.range (a0A a0F (a0A (pv 1) a0B))) (a0H (i:=4) sc__law_ties.nd rfl (Or.inl rfl))
   (a0C (a0J (i:=6) sc__law_ties.nd rfl (Or.inl rfl) (a0G gZ0 hr rfl dZ0.m dZ0.F.kp dZ0.b .nil a0L (a0A (pv 0) (a0A (a0O a2R a0F (pv 4)) a0B))))
   (a0D (a1R PassesOwn.never rfl (a1D rfl B.range (a0A (a0K (a3E rfl) rfl B.min (by decide +kernel) (a0A (a0O a2N (pv 6) a0F) (a0A (pv 5) a0B))) a0B)) (a0H (i:=7) sc__law_ties.nd rfl (Or.inl rfl))
   (a0C (a0J (i:=8) sc__law_ties.nd rfl (Or.inl rfl) (a0S (a0I (K:=K) rfl) (pv 2) (a0O a2N (a0O a2R (a0O a2N (a0O b0O (pv 6) a0F) a0F) (pv 7)) (pv 4)) (λ _ _=>rfl)))
   (a0D (a4C a8T (a4B (a0S (a0I (K:=K) rfl) (pv 3) (a0K (a3E rfl) rfl B.min (by decide +kernel) (a0A (a0S (a0I (K:=K) rfl) (pv 2) (pv 4) (λ _ _=>rfl)) (a0A (pv 8) a0B))) (λ _ _=>rfl)) (a0K (a6C rfl) rfl B.max (by decide +kernel) (a0A (a0S (a0I (K:=K) rfl) (pv 2) (pv 4) (λ _ _=>rfl)) (a0A (pv 8) a0B))) a1Z))))))))
   (a0C (a0J (i:=9) sc__law_ties.nd rfl (Or.inl rfl) (a0S (a0I (K:=K) rfl) (a1M (a0A a0F (a0A a0F (a0A a0F (a0A a0F a0B))))) (a0O a2N (a0G gZ0 hr rfl dZ0.m dZ0.F.kp dZ0.b .nil a0L (a0A (pv 0) (a0A a0F a0B))) a0F) (λ _ _=>rfl)))
   (a0C (a0J (i:=10) sc__law_ties.nd rfl (Or.inl rfl) (a1M a0B))
   (a0C (a1R PassesOwn.never rfl (a1D rfl B.range (a0A (pv 1) a0B)) (a0H (i:=11) sc__law_ties.nd rfl (Or.inl rfl))
   (a0D (a1R PassesOwn.never rfl (a3D rfl B.range (a0A (a0O a2R (pv 11) a0F) (a0A (pv 1) a0B))) (a0H (i:=12) sc__law_ties.nd rfl (Or.inl rfl))
   (a0C (a0J (i:=13) sc__law_ties.nd rfl (Or.inl rfl) (a0O a2N (a0O a4E (a0O a2R (a0O a2R (a0O a2N (a0G gZ0 hr rfl dZ0.m dZ0.F.kp dZ0.b .nil a0L (a0A (pv 0) (a0A (a0O a2R (a0O a2R a0F (a0O a4E a0F (pv 11))) (pv 12)) a0B))) a0F) (a0O a4E a0F (pv 11))) (pv 12)) a0F) a0F))
   (a0D (a3T (PW.pt (b0N (a0P (K:=K) rfl (a0S (a0I (K:=K) rfl) (a0S (a0I (K:=K) rfl) (pv 3) (pv 11) (λ _ _=>rfl)) (pv 12) (λ _ _=>rfl)) (λ _=>rfl)) (a8V (a1C b3F (a0O a2N (a0O b0O (pv 13) a0F) a0F) (pv 9) (a1N _)))))
   (a0D (a3C (a4I (K:=K) rfl PySem.F.plainAttrs_list PySem.F.slot_list_append PySem.F.type_list_append a3S (pv 10) (a0A (a2A (a0A (pv 11) (a0A (pv 12) a0B))) a0B))))
   a1S))))))
   (a0D (a0M (pv 10)))))))))),?_⟩
 refine ⟨_,rfl,_,rfl,a,ns,n,rfl,hS,h63,by omega,λ rt us H1 n1 pu=>?_⟩
 obtain ⟨os,eo,po,_⟩:=c0K pu
 have h1:H1 rt = some (.lst (natV os)):=by rw [n1.here,eo]
 have lo:os.length = n:=by rw [po.length_eq,List.length_range]
 have olt:∀ k,k < n->os.getD k 0 < n:=λ k hk=>by
  rw [τα,List.getElem?_eq_getElem (by omega)]
  exact List.mem_range.mp (po.mem_iff.mp (List.getElem_mem _))
 have ix:=λ {H':Hp} (s:Same H1 H')=>(SqL.of (K:=K) (s _ _ h1):SqL K H' rt (natV os))
 have at_:∀ k:Nat,k < n->atI (natV os) (k:Int) = some (.int ((os.getD k 0:Nat):Int)):=λ k hk=>a6N (by omega)
 refine ⟨_,rfl,_,rfl,by omega,by omega,?_⟩
 rw [Int.toNat_natCast]
 refine a5W (lo:=0) (n:=n) (λ i ys G=>Same H1 G/\∃ qs:List Addr,ys = qs.map V.ref/\qs.length = i/\(∀ q ∈ qs,H1 q = none)/\TabL G qs n (λ _ _=>false)) ⟨Same.refl _,[],rfl,rfl,λ q h=>absurd h List.not_mem_nil,⟨.nil,λ j q e=>by simp at e⟩⟩ (λ i ys G hi ⟨s,qs,e,l,_⟩=>?_) (λ i ys G hi ⟨s,qs,e,l,fr,nl⟩=>?_) ?_
 ·rw [e,List.length_map,l]
  exact Nat.le_of_lt (a0W (by omega))
 ·refine ⟨(by show 1 <= 1000; decide),λ p6 H6 n6=>?_⟩
  refine ⟨_,rfl,p6,_,_,rfl,rfl,n6.here,by omega,by omega,by rw [Int.toNat_natCast]; show 1 * n <= 1000; omega,λ p7 H7 n7=>?_⟩
  rw [Int.toNat_natCast,c2G,b3O] at n7
  have s7:Same G H7:=n6.same.trans n7.same
  refine ⟨s.trans s7,qs ++ [p7],by rw [e,List.map_append]; rfl,by rw [List.length_append,l]; rfl,λ q hq=>?_,?_,λ j q ej=>?_⟩
  ·rcases List.mem_append.mp hq with hq | hq
   ·exact fr q hq
   ·rw [List.mem_singleton.mp hq]; exact s.free (n6.same.free n7.fresh)
  ·refine List.nodup_append.mpr ⟨nl.nd,List.nodup_cons.mpr ⟨List.not_mem_nil,.nil⟩,λ x hx y hy z=>?_⟩
   rw [List.mem_singleton.mp hy] at z
   obtain ⟨j,hj,ej⟩:=List.getElem_of_mem hx
   have:=nl.at_ j x (by rw [<- ej]; exact List.getElem?_eq_getElem hj)
   have g:=n7.fresh
   rw [<- z,n6.same _ _ this] at g; cases g
  ·by_cases c:j < qs.length
   ·rw [List.getElem?_append_left c] at ej
    exact s7 _ _ (nl.at_ j q ej)
   ·rw [List.getElem?_append_right (by omega)] at ej
    cases z:j - qs.length with
    | zero=>rw [z] at ej; simp at ej; rw [<- ej]; exact n7.here
    | succ k=>rw [z] at ej; simp at ej
 rintro ys G0 ⟨s0,qs,rfl,lq,fq,tl0⟩ pn hfree
 have nG:=New.mk0 (o:=.lst (qs.map V.ref)) hfree
 generalize upd G0 pn (.lst (qs.map V.ref)) = G at nG
 have sG:Same H1 G:=s0.trans nG.same
 have pq:pn ∉ qs:=λ hm=>by
  obtain ⟨j,hj,ej⟩:=List.getElem_of_mem hm
  have:=tl0.at_ j pn (by rw [<- ej]; exact List.getElem?_eq_getElem hj)
  rw [nG.fresh] at this; cases this
 have fpn:H1 pn = none:=s0.free hfree
 have qat:∀ i,i < n->qs[i]? = some (qs.getD i 0):=λ i hi=>by
  have:i < qs.length:=by omega
  rw [τα,List.getElem?_eq_getElem this]; rfl
 have qmem:∀ i,i < n->qs.getD i 0 ∈ qs:=λ i hi=>List.mem_of_getElem? (qat i hi)
 have qref:∀ i,i < n->atI (qs.map V.ref) (i:Int) = some (V.ref (qs.getD i 0)):=λ i hi=>a1F (by rw [List.getElem?_map,qat i hi]; rfl)
 have tlG:TabL G qs n (λ _ _=>false):=tl0.same λ q hq u e=>nG.same _ _ e
 have sc:=λ {H':Hp} (s:Same H1 H')=>hS.same (n1.same.trans s)
 refine ⟨_,rfl,a,ns,1,rfl,sc sG,h63,by decide,by decide,λ z0=>?_⟩
 have w0:=Int.emod_nonneg (z0 / 3) (show (4:Int) ≠ 0 by decide)
 have w1:=Int.emod_lt_of_pos (z0 / 3) (show (0:Int) < 4 by decide)
 refine ⟨_,_,rfl,rfl,⟨by decide,by decide⟩,_,_,rfl,rfl,(show (0:Int) < 4 by decide),_,_,rfl,rfl,?_⟩
 dsimp only
 generalize hmo:1 + z0 / 3 % 4 = mo
 have mo0:0 <= mo:=by omega
 have mo1:mo <= 4:=by omega
 refine ⟨_,rfl,_,_,rfl,⟨by omega,by omega,by omega,by omega⟩,?_⟩
 obtain ⟨m,hm,mn⟩:∃ m:Nat,((n:Int) - 1).toNat = m/\m <= n - 1:=⟨_,rfl,by omega⟩
 rw [hm]
 refine a1O (lo:=1) (n:=m) (λ i σ H'=>∃ (kk cc jj oo:Option V) (T:Nat->Nat->Bool),σ = [some (.ref a),some (.int n),some (.ref rt),some (.ref pn),kk,some (.int mo),cc,jj,oo,none,none,none,none,none]/\Same H1 H'/\H' pn = some (.lst (qs.map V.ref))/\TabL H' qs n T)
  ⟨_,_,_,_,_,rfl,sG,nG.here,tlG⟩ ?_ ?_
 ·rintro i σ H2 hi ⟨kk,cc,jj,oo,T,rfl,s2,hp2,tl2⟩
  have ei:(1:Int) + (i:Int) = ((1 + i:Nat):Int):=by omega
  rw [ei]
  generalize hk:1 + i = k
  have kn:k < n:=by omega
  refine ⟨_,rfl,_,rfl,_,_,rfl,rfl,a,ns,_,rfl,sc s2,h63,by omega,by omega,λ c=>?_⟩
  have c0:=Int.emod_nonneg c (show (4:Int) ≠ 0 by decide)
  have c1:=Int.emod_lt_of_pos c (show (0:Int) < 4 by decide)
  obtain ⟨z,hz⟩:∃ z:Nat,(if mo < c % 4 then mo else c % 4) = (z:Int):=by
   by_cases d:mo < c % 4
   ·rw [if_pos d]; exact ⟨mo.toNat,by omega⟩
   ·rw [if_neg d]; exact ⟨(c % 4).toNat,by omega⟩
  have z4:z <= 4:=by
   by_cases d:mo < c % 4
   ·rw [if_pos d] at hz; omega
   ·rw [if_neg d] at hz; omega
  refine ⟨_,rfl,_,_,rfl,rfl,(show (0:Int) < 4 by decide),_,rfl,_,_,rfl,(z:Int),congrArg (λ x=>[V.int x]) hz,by omega,by omega,?_⟩
  rw [Int.toNat_natCast]
  refine a1O (n:=z) (λ j σ H'=>∃ (jj oo:Option V) (T:Nat->Nat->Bool),σ = [some (.ref a),some (.int n),some (.ref rt),some (.ref pn),some (.int (k:Int)),some (.int mo),some (.int c),jj,oo,none,none,none,none,none]/\Same H1 H'/\H' pn = some (.lst (qs.map V.ref))/\TabL H' qs n T)
   ⟨_,_,_,rfl,s2,hp2,tl2⟩ ?_ ?_
  ·rintro j σ H3 hj ⟨jj,oo,T,rfl,s3,hp3,tl3⟩
   have ej:(0 + (j:Int)) = ((j:Nat):Int):=by omega
   rw [ej]
   have u0:=Int.emod_nonneg (c / 4 % 997 + (j:Int)) (show (k:Int) ≠ 0 by omega)
   have u1:=Int.emod_lt_of_pos (c / 4 % 997 + (j:Int)) (show (0:Int) < (k:Int) by omega)
   obtain ⟨u,hu⟩:∃ u:Nat,(c / 4 % 997 + (j:Int)) % (k:Int) = (u:Int):=⟨((c / 4 % 997 + (j:Int)) % (k:Int)).toNat,by omega⟩
   refine ⟨_,rfl,_,rfl,_,_,rfl,rfl,⟨by decide,by decide⟩,_,_,rfl,rfl,(show (0:Int) < 997 by decide),_,rfl,_,_,rfl,rfl,_,rfl,_,_,rfl,rfl,(show (0:Int) < (k:Int) by omega),rt,_,_,_,rfl,rfl,ix s3,(show atI (natV os) ((c / 4 % 997 + (j:Int)) % (k:Int)) = _ by rw [hu]; exact at_ u (by omega)),?_⟩
   have ok1:=olt k kn
   have ok2:=olt u (by omega)
   generalize os.getD u 0 = x at ok2
   have atk:=at_ k kn
   generalize os.getD k 0 = y at ok1 atk
   obtain ⟨p,hp⟩:∃ p:Nat,(if (x:Int) < (y:Int) then (x:Int) else (y:Int)) = (p:Int):=by
    by_cases d:(x:Int) < (y:Int)
    ·rw [if_pos d]; exact ⟨x,rfl⟩
    ·rw [if_neg d]; exact ⟨y,rfl⟩
   have pn':p < n:=by
    by_cases d:(x:Int) < (y:Int)
    ·rw [if_pos d] at hp; omega
    ·rw [if_neg d] at hp; omega
   obtain ⟨r,hr'⟩:∃ r:Nat,(if (x:Int) > (y:Int) then (x:Int) else (y:Int)) = (r:Int):=by
    by_cases d:(x:Int) > (y:Int)
    ·rw [if_pos d]; exact ⟨x,rfl⟩
    ·rw [if_neg d]; exact ⟨y,rfl⟩
   have rn':r < n:=by
    by_cases d:(x:Int) > (y:Int)
    ·rw [if_pos d] at hr'; omega
    ·rw [if_neg d] at hr'; omega
   refine ⟨_,rfl,_,rfl,_,rfl,rt,_,_,_,rfl,rfl,ix s3,atk,_,rfl,_,_,rfl,pn,_,_,_,rfl,congrArg V.int hp,SqL.of hp3,qref p pn',_,rfl,_,rfl,rt,_,_,_,rfl,rfl,ix s3,atk,_,rfl,_,_,rfl,qs.getD p 0,_,_,r,rfl,congrArg V.int hr',tl3.at_ p _ (qat p pn'),a3G (by rw [b8N]; exact rn'),λ H4 c4=>?_⟩
   refine ⟨_,_,_,rfl,s3.chg (fq _ (qmem p pn')) c4,?_,tl3.set (qat p pn') c4⟩
   exact (c4.rest pn λ z=>pq (by rw [z]; exact qmem p pn')).trans hp3
  ·rintro σ H3 ⟨jj,oo,T,rfl,s3,hp3,tl3⟩
   exact ⟨_,_,_,_,_,rfl,s3,hp3,tl3⟩
 rintro σ H2 ⟨kk,cc,jj,oo,T,rfl,s2,hp2,tl2⟩
 refine ⟨(by show 4 <= 1000; decide),λ p4 H4 n4=>?_⟩
 have s4:Same H1 H4:=s2.trans n4.same
 refine ⟨_,rfl,a,ns,1,rfl,sc s4,h63,by decide,by decide,λ y=>?_⟩
 have y0:=Int.emod_nonneg y (show (4:Int) ≠ 0 by decide)
 have y1:=Int.emod_lt_of_pos y (show (0:Int) < 4 by decide)
 obtain ⟨sh,esh⟩:∃ k:Nat,y % 4 = (k:Int):=⟨(y % 4).toNat,by omega⟩
 obtain ⟨lim,hlim⟩:∃ lim:Int,atI [V.int 0,V.int 0,V.int 1,V.int 3] (y % 4) = some (.int lim):=by
  rw [esh]
  have:sh = 0\/sh = 1\/sh = 2\/sh = 3:=by omega
  rcases this with rfl | rfl | rfl | rfl
  ·exact ⟨_,a1F rfl⟩
  ·exact ⟨_,a1F rfl⟩
  ·exact ⟨_,a1F rfl⟩
  ·exact ⟨_,a1F rfl⟩
 refine ⟨_,_,rfl,rfl,(show (0:Int) < 4 by decide),p4,_,_,_,rfl,rfl,SqL.of n4.here,hlim,?_⟩
 refine ⟨(by show 0 <= 1000; decide),λ r H5 n5=>?_⟩
 have s5:Same H1 H5:=s4.trans n5.same
 have s25:Same H2 H5:=n4.same.trans n5.same
 have fr:H1 r = none:=s4.free n5.fresh
 have rq:∀ x,x ∈ qs->x ≠ r:=λ x hx z=>by
  obtain ⟨j,hj,ej⟩:=List.getElem_of_mem hx
  have:=n4.same _ _ (tl2.at_ j x (by rw [<- ej]; exact List.getElem?_eq_getElem hj))
  rw [z,n5.fresh] at this; cases this
 have rpn:pn ≠ r:=n5.ne (n4.same _ _ hp2)
 have tl5:TabL H5 qs n T:=tl2.same λ x _ u e=>s25 _ _ e
 have hp5:=s25 _ _ hp2
 refine ⟨_,rfl,_,rfl,by omega,by omega,?_⟩
 rw [Int.toNat_natCast]
 refine a1O (n:=n) (λ i σ H'=>∃ (aa bb mm:Option V) (xs:List V) (ts:List ζζ),σ = [some (.ref a),some (.int n),some (.ref rt),some (.ref pn),kk,some (.int mo),cc,jj,oo,some (.int lim),some (.ref r),aa,bb,mm]/\Same H1 H'/\H' pn = some (.lst (qs.map V.ref))/\TabL H' qs n T/\H' r = some (.lst xs)/\Paired (TieL H') xs ts/\ts.length <= 7 * i/\Web n ts/\∀ t ∈ ts,t.1 < (i:Int))
  ⟨_,_,_,[],[],rfl,s5,hp5,tl5,n5.here,.nil,Nat.zero_le _,⟨λ t h=>absurd h List.not_mem_nil,.nil⟩,λ t h=>absurd h List.not_mem_nil⟩ ?_ ?_
 ·rintro i σ H6 hi ⟨aa,bb,mm,xs,ts,rfl,s6,hp6,tl6,hr6,pr6,lz6,hw6,lt6⟩
  refine ⟨_,rfl,_,_,rfl,rfl,_,rfl,_,_,rfl,⟨by omega,by omega,by omega,by omega⟩,?_⟩
  refine a1O (n:=_) (λ j σ H'=>∃ (bb mm:Option V) (xs:List V) (ts:List ζζ),σ = [some (.ref a),some (.int n),some (.ref rt),some (.ref pn),kk,some (.int mo),cc,jj,oo,some (.int lim),some (.ref r),some (.int (0 + (i:Int))),bb,mm]/\Same H1 H'/\H' pn = some (.lst (qs.map V.ref))/\TabL H' qs n T/\H' r = some (.lst xs)/\Paired (TieL H') xs ts/\ts.length <= 7 * i + j/\Web n ts/\∀ t ∈ ts,t.1 < (i:Int)\/(t.1 = (i:Int)/\t.2 < (i:Int) + 1 + j))
   ⟨_,_,xs,ts,rfl,s6,hp6,tl6,hr6,pr6,by omega,hw6,λ t h=>.inl (lt6 t h)⟩ ?_ ?_
  ·rintro j σ H7 hj ⟨bb,mm,xs,ts,rfl,s7,hp7,tl7,hr7,pr7,lz7,hw7,lt7⟩
   have jn:(j:Int) + (0 + (i:Int) + 1) < n:=by omega
   obtain ⟨b,eb⟩:∃ b:Nat,0 + (i:Int) + 1 + (j:Int) = (b:Int):=⟨(0 + (i:Int) + 1 + (j:Int)).toNat,by omega⟩
   have bn:b < n:=by omega
   refine ⟨_,rfl,_,rfl,_,_,rfl,rfl,.inl ⟨by decide,by decide⟩,_,_,rfl,rfl,_,rfl,_,_,rfl,rfl,a,ns,_,rfl,sc s7,h63,(by omega),(by omega),λ z1=>⟨_,_,rfl,rfl,(show (0:Int) < _ by decide),_,rfl,_,_,rfl,rfl,.inl ⟨by decide,by decide⟩,_,_,rfl,rfl,_,rfl,_,_,rfl,rfl,_,_,rfl,rfl,.inr ⟨by decide,by decide⟩,_,_,rfl,rfl,(show (0:Int) < _ by decide),?_⟩⟩
   dsimp only
   have fin:∀ (mv:Int),∀ p8 H8,New H7 p8 (.tup [.int (0 + (i:Int)),.int (0 + (i:Int) + 1 + (j:Int))]) H8->∀ H9,Chg H8 r (.lst (xs ++ [.ref p8])) H9->Same H1 H9/\H9 pn = some (.lst (qs.map V.ref))/\TabL H9 qs n T/\H9 r = some (.lst (xs ++ [.ref p8]))/\Paired (TieL H9) (xs ++ [.ref p8]) (ts ++ [(0 + (i:Int),0 + (i:Int) + 1 + (j:Int))])/\(ts ++ [(0 + (i:Int),0 + (i:Int) + 1 + (j:Int))]).length <= 7 * i + (j + 1)/\Web n (ts ++ [(0 + (i:Int),0 + (i:Int) + 1 + (j:Int))])/\∀ t ∈ ts ++ [(0 + (i:Int),0 + (i:Int) + 1 + (j:Int))],t.1 < (i:Int)\/(t.1 = (i:Int)/\t.2 < (i:Int) + 1 + (j + 1:Nat)):=λ mv p8 H8 n8 H9 c9=>by
    refine ⟨(s7.trans n8.same).chg fr c9,(c9.rest pn rpn).trans (n8.same _ _ hp7),tl7.same λ x hx u e=>(c9.rest x (rq x hx)).trans (n8.same _ _ e),c9.here,?_,?_,⟨λ t ht=>?_,?_⟩,λ t ht=>?_⟩
    ·refine a1P (Paired.mapP pr7 λ v t q=>(TieL.same n8.same q).chg (n8.same _ _ hr7) c9) ?_
     exact TieL.chg (n8.same _ _ hr7) c9 ⟨p8,rfl,n8.here⟩
    ·rw [List.length_append]; show ts.length + 1 <= _; omega
    ·rcases List.mem_append.mp ht with ht | ht
     ·exact hw7.ok t ht
     ·rw [List.mem_singleton.mp ht]
      exact ⟨by show 0 <= 0 + (i:Int); omega,by show 0 + (i:Int) < 0 + (i:Int) + 1 + (j:Int); omega,by show 0 + (i:Int) + 1 + (j:Int) < n; omega⟩
    ·refine List.pairwise_append.mpr ⟨hw7.up,List.pairwise_singleton _ _,λ t ht u hu=>?_⟩
     rw [List.mem_singleton.mp hu]
     show t.1 < 0 + (i:Int)\/(t.1 = 0 + (i:Int)/\t.2 < 0 + (i:Int) + 1 + (j:Int))
     have:=lt7 t ht
     omega
    ·rcases List.mem_append.mp ht with ht | ht
     ·have:=lt7 t ht
      omega
     ·rw [List.mem_singleton.mp ht]
      show 0 + (i:Int) < (i:Int)\/(0 + (i:Int) = (i:Int)/\0 + (i:Int) + 1 + (j:Int) < (i:Int) + 1 + (j + 1:Nat))
      omega
   have lx:=Paired.length pr7
   have atr:atI (qs.map V.ref) (0 + (i:Int)) = some (V.ref (qs.getD i 0)):=by
    rw [show (0 + (i:Int)) = (i:Int) by omega]
    exact qref i hi
   have atc:atI (rowT n (T i)) (0 + (i:Int) + 1 + (j:Int)) = some (.bl (T i b)):=by
    rw [eb]
    exact c2H bn
   refine ⟨_,rfl,_,rfl,pn,_,_,_,rfl,rfl,SqL.of hp7,atr,_,rfl,qs.getD i 0,_,_,_,rfl,rfl,SqL.of (tl7.at_ i _ (qat i hi)),atc,_,rfl,?_⟩
   cases T i b with
   | true =>
    refine iteT (iteT ?_)
    refine ⟨_,rfl,.inl ⟨rfl,_,SqL.of hr7⟩,_,rfl,_,rfl,(by show 2 <= 1000; decide),λ p8 H8 n8=>?_⟩
    refine ⟨r,_,_,rfl,rfl,n8.same _ _ hr7,(by omega),λ H9 c9=>?_⟩
    exact ⟨_,_,_,_,rfl,fin 0 p8 H8 n8 H9 c9⟩
   | false =>
    refine iteF ?_
    refine ⟨_,rfl,_,_,rfl,rfl,⟨by decide,by decide⟩,_,_,rfl,rfl,(show (0:Int) < 6 by decide),_,rfl,_,_,rfl,rfl,_,rfl,ite2 (λ c=>?_) (λ c=>?_)⟩
    ·refine ⟨_,rfl,.inl ⟨rfl,_,SqL.of hr7⟩,_,rfl,_,rfl,(by show 2 <= 1000; decide),λ p8 H8 n8=>?_⟩
     refine ⟨r,_,_,rfl,rfl,n8.same _ _ hr7,(by omega),λ H9 c9=>?_⟩
     exact ⟨_,_,_,_,rfl,fin 0 p8 H8 n8 H9 c9⟩
    ·exact ⟨_,_,xs,ts,rfl,s7,hp7,tl7,hr7,pr7,by omega,hw7,λ t ht=>by have:=lt7 t ht; omega⟩
  ·rintro σ H7 ⟨bb,mm,xs,ts,rfl,s7,hp7,tl7,hr7,pr7,lz7,hw7,lt7⟩
   exact ⟨_,_,_,xs,ts,rfl,s7,hp7,tl7,hr7,pr7,by omega,hw7,λ t ht=>by have:=lt7 t ht; omega⟩
 ·rintro σ H6 ⟨aa,bb,mm,xs,ts,rfl,s6,hp6,tl6,hr6,pr6,lz6,hw6,lt6⟩
  exact ⟨_,rfl,q r xs ts H6 (n1.same.trans s6) (n1.same.free fr) hr6 pr6 hw6 (by omega)⟩
end
end K
namespace K
open PySem L2 Lw Bg
theorem FnOk.either {P:Program} {w:World} {K:Φρ} {mg:Str->Option Value} {base:Heap} {CX:CXT} {k:Nat} {f:Addr} {fd:FuncData} {ps:List Str} {sp sp':Sp} (F:FnOk P w K mg base CX k f fd ps sp) (G:FnOk P w K mg base CX k f fd ps sp'):FnOk P w K mg base CX k f fd ps (λ vs H Q E=>sp vs H Q E\/sp' vs H Q E) :=
 ⟨λ vs H Q E h=>h.elim (F.len vs H Q E) (G.len vs H Q E),λ A outer s H args us vs Q E hr he hb hv hs=>hs.elim (F.run A outer s H args us vs Q E hr he hb hv) (G.run A outer s H args us vs Q E hr he hb hv)⟩
abbrev c4F:Stmt:=top 43
theorem sc_law:FnScope ["_law_script", "_law_n", "_law_ties_here", "_law_web", "_law_wide", "_law_told", "_law_smooth", "_law_none", "_law_found"] ["_law_script"] (a0E c4F):=⟨rfl,rfl,rfl,by decide +kernel,rfl,by decide +kernel,by decide +kernel⟩
theorem c7Y {K:Φρ}:PySem.W.kitOne K (.type "int") (.type "int") = some true:=by rfl
theorem c7Z {K:Φρ}:PySem.W.kitOne K (.type "int") (.type "bool") = some false:=by rfl
theorem andS {a b:TT} {σ:St} {H:Hp} {Q:Bool->Hp->Prop} {c1:Bool} (h1:∀ Q:Bool->Hp->Prop,Q c1 H->a σ H Q) (h2:c1 = true->∀ Q:Bool->Hp->Prop,(∀ H',Same H H'->Q false H')->b σ H Q) (h:∀ H',Same H H'->Q false H'):tAnd a b σ H Q:=by
 refine h1 _ ?_
 cases c1 with
 | false=>exact iteF (h H (Same.refl _))
 | true=>exact iteT (h2 rfl _ h)
def b7Y (K:Φρ):Sp:=λ vs H Q _=>∃ (g:V) (n:Nat) (ts:List ζζ),vs = [g]/\GraphV K H g n ts/\TOk n ts/\ts.Nodup/\n <= 10/\ts.length <= 100 /\
 ∀ p q (sm:Bool) r H',Same H H'->H' p = some (.tup [.str (if sm = true then "wood" else "ring"),.ref q])->(sm = true ↔ Acy ts)->(sm = false->H' q = some (.lst (natV r))/\RingR ts n r)->Q (.ref p) H'
theorem c8A {K:Φρ} {vs:List V} {H:Hp} {Q:VK} {E:XK} (h:b7Y K vs H Q E):b7E K vs H Q E\/b7F K vs H Q E:=by
 obtain ⟨g,n,ts,e,hG,okt,nd,n10,l100,q⟩:=h
 by_cases ac:Acy ts
 ·refine .inr ⟨g,n,ts,e,hG,okt,nd,b2W okt ac,n10,l100,λ r ru ps us H' s1 _ h1 h2 _=>q r ru true [] H' s1 h1 ⟨λ _=>ac,λ _=>rfl⟩ λ z=>absurd z (by decide)⟩
 ·exact .inl ⟨g,n,ts,e,hG,okt,nd,n10,l100,b1Q okt nd ac,λ p q' r H' s1 _ h1 h2 R=>q p q' false r H' s1 h2 ⟨λ z=>absurd z (by decide),λ z=>absurd z ac⟩ λ _=>⟨h1,R⟩⟩
section
variable {P:Program} {w:World} {K:Φρ} {mg:Str->Option Value} {base:Heap}
set_option maxHeartbeats 16000000 in
theorem c8B (B:Bl mg) (dZ17:DZ17 K mg) (dZ15:DZ15 K mg) (dZ7:DZ7 K mg) (dZ18:DZ18 K mg) (dZ21:DZ21 K mg) (dZ6:DZ6 K mg) (dZ26:DZ26 K mg) (dZ25:DZ25 K mg) (dZ28:DZ28 K mg) (dZ32:DZ32 K mg) (dZ27:DZ27 K mg) (dZ24:DZ24 K mg) (dZ11:DZ11 K mg) (dZ31:DZ31 K mg) (dZ5:DZ5 K mg) (dZ8:DZ8 K mg) (dZ9:DZ9 K mg) (dZ20:DZ20 K mg) (dZ34:DZ34 K mg) (dZ30:DZ30 K mg) (dZ22:DZ22 K mg) (dZ29:DZ29 K mg) (dZ33:DZ33 K mg) (dZ13:DZ13 K mg) (dZ12:DZ12 K mg) (dZ14:DZ14 K mg) (dZ16:DZ16 K mg) (dZ10:DZ10 K mg) (dZ23:DZ23 K mg) (dZ0:DZ0 K mg) (dZ4:DZ4 K mg) (dZ3:DZ3 K mg) (dZ1:DZ1 K mg) (dZ2:DZ2 K mg) (dZ19:Dn K mg "law" c4F ["_law_script"]):FnOk P w K mg base CX0 10 dZ19.f dZ19.fd ["_law_script"] (spLaw K):=by
 have gZ14:FnOk P w K mg base CX0 9 _ _ _ _:=(c3P B dZ17 dZ15 dZ7 dZ21 dZ18 dZ6 dZ28 dZ32 dZ27 dZ24 dZ11 dZ31 dZ13 dZ12 dZ16 dZ10 dZ23 dZ14).mono (by decide)
 have G_ring0:FnOk P w K mg base CX0 7 dZ29.f dZ29.fd ["graph", "left"] λ _ _ _ _=>False:=by
  refine dZ29.F.ok sc_ring_among (λ vs H Q E h=>?_) (λ cdv A outer s H vs Q E hr h=>?_)
  ·exact h.elim
  ·exact h.elim
 have G_wood0:FnOk P w K mg base CX0 9 _ _ _ _:=FnOk.either ((b9V B dZ17 dZ15 dZ7 dZ21 dZ6 dZ22 dZ30 dZ29 dZ26 dZ33 dZ34).mono (by decide)) ((c3T B dZ17 dZ15 dZ7 dZ18 dZ21 dZ6 dZ28 dZ25 dZ26 dZ22 dZ30 dZ29 dZ33 dZ34 G_ring0).mono (by decide))
 have gZ34:FnOk P w K mg base CX0 9 dZ34.f dZ34.fd ["graph"] (b7Y K):=G_wood0.imp λ vs H Q E h=>c8A h
 have gZ13:FnOk P w K mg base CX0 9 _ _ _ _:=(b2P B dZ21 dZ27 dZ24 dZ11 dZ31 dZ13 dZ12).mono (by decide)
 have gZ20:FnOk P w K mg base CX0 9 _ _ _ _:=(a7B B dZ24 dZ11 dZ31 dZ5 dZ9 dZ8 dZ20).mono (by decide)
 have gZ0:FnOk P w K mg base CX0 9 _ _ _ _:=(a3P B dZ0).mono (by decide)
 have gZ3:FnOk P w K mg base CX0 9 _ _ _ _:=(b0L B dZ0 dZ4 dZ3).mono (by decide)
 have gZ1:FnOk P w K mg base CX0 9 _ _ _ _:=(a8R B dZ1).mono (by decide)
 have gZ2:FnOk P w K mg base CX0 9 _ _ _ _:=(b0J B dZ2).mono (by decide)
 refine dZ19.F.ok sc_law (λ vs H Q E h=>?_) (λ cdv A outer s H vs Q E hr h=>?_)
 ·obtain ⟨a,ns,rfl,_⟩:=h
  rfl
 obtain ⟨a,ns,rfl,hS,h63,q⟩:=h
 have hu:(A.deeper (PyProof.Rows.envOfC "law" (a0E c4F) s.heap.objs.size dZ19.f cdv)).units + 64 < cLine:=hr.units
 refine ⟨_,(a0C (a0J (i:=1) sc_law.nd rfl (Or.inl rfl) (a0O a2N (a0G gZ0 hr rfl dZ0.m dZ0.F.kp dZ0.b .nil a0L (a0A (pv 0) (a0A a0F a0B))) a0F))
   (c2C (a3T (a1C a7V (a0O a2N (a0G gZ0 hr rfl dZ0.m dZ0.F.kp dZ0.b .nil a0L (a0A (pv 0) (a0A a0F a0B))) a0F) a0F (a1N _))
   (a0D (a0J (i:=1) sc_law.nd rfl (Or.inl rfl) a0F))
   a1S)
   (a0C (a0J (i:=2) sc_law.nd rfl (Or.inl rfl) (a0G gZ3 hr rfl dZ3.m dZ3.F.kp dZ3.b .nil a0L (a0A (pv 0) (a0A (pv 1) a0B))))
   (a0C (a0J (i:=3) sc_law.nd rfl (Or.inl rfl) (a2A (a0A (pv 1) (a0A (a2I (b3J (K:=K) rfl) rfl B.list (by decide +kernel) (a0A (pv 2) a0B)) a0B))))
   (a0C (a0J (i:=4) sc_law.nd rfl (Or.inl rfl) (a0G gZ20 hr rfl dZ20.m dZ20.F.kp dZ20.b .nil a0L (a0A (pv 3) a0B)))
   (a0C (a3T (PW.pt (b0N (a7E (a0P (K:=K) rfl (a0K (a2C (K:=K) rfl) rfl B.isinstance (by decide +kernel) (a0A (pv 4) (a0A (a6A (v:=.ty "int") (u:=.type "int") rfl B.int (by decide +kernel) rfl) a0B))) (λ _=>rfl))) (b0N (a0P (K:=K) rfl (a0K (a2C (K:=K) rfl) rfl B.isinstance (by decide +kernel) (a0A (pv 4) (a0A (a6A (v:=.ty "bool") (u:=.type "bool") rfl B.bool (by decide +kernel) rfl) a0B))) (λ _=>rfl)) (a8V (a1C (c1Z (K:=K) rfl hu) (pv 3) (a2A (a0A (pv 1) (a0A (pv 2) a0B))) (a1N _))))))
   (a0D (a0M a8T))
   a1S)
   (a0C (a0J (i:=5) sc_law.nd rfl (Or.inl rfl) (a0G gZ34 hr rfl dZ34.m dZ34.F.kp dZ34.b .nil a0L (a0A (pv 3) a0B)))
   (a0C (a0J (i:=6) sc_law.nd rfl (Or.inl rfl) (a2W a7V (a0S (a1K (K:=K) rfl) (pv 5) a0F (λ _ _=>rfl)) a8U (a1N _)))
   (a0C (a3T (PW.pt (c0M (a7E (a0P (K:=K) rfl (pv 6) (λ _=>rfl))) (b4G (a7E (a0P (K:=K) rfl (a0G gZ2 hr rfl dZ2.m dZ2.F.kp dZ2.b .nil a0L (a0A (a0S (a1K (K:=K) rfl) (pv 5) a0F (λ _ _=>rfl)) (a0A (pv 2) a0B))) (λ _=>rfl))))))
   (a0D (a0M a8T))
   a1S)
   (a0C (a3T (PW.pt (b0N (a1C c1M (pv 6) (a2W b8E (pv 4) a0F (a1N _)) (a1N _)) (a8V (a1C c1M (pv 6) (a2W a7V (a0K (a1E (K:=K) rfl) rfl B.len (by decide +kernel) (a0A (pv 2) a0B)) (a0O a6B (pv 1) (a0G gZ1 hr rfl dZ1.m dZ1.F.kp dZ1.b .nil a0L (a0A (pv 1) (a0A (pv 2) a0B)))) (a1N _)) (a1N _)))))
   (a0D (a0M a8T))
   a1S)
   (a0C (a0J (i:=7) sc_law.nd rfl (Or.inl rfl) (a2W a7V (a0K (a1E (K:=K) rfl) rfl B.len (by decide +kernel) (a0A (a0S (a1K (K:=K) rfl) (a0G gZ13 hr rfl dZ13.m dZ13.F.kp dZ13.b .nil a0L (a0A (pv 3) a0B)) a0F (λ _ _=>rfl)) a0B)) a0F (a1N _)))
   (a0C (a0J (i:=8) sc_law.nd rfl (Or.inl rfl) (a0G gZ14 hr rfl dZ14.m dZ14.F.kp dZ14.b .nil a0L (a0A (pv 3) a0B)))
   (a0D (a0M (b1V (a2W a7V (pv 7) (a2W b8E (pv 4) a0F (a1N _)) (a1N _)) (b1V (a2W a7V (a2W c4T (pv 8) a7D (a1N _)) (pv 7) (a1N _)) (b1U (a2W (c1Y (K:=K) rfl hu) (pv 3) (a2A (a0A (pv 1) (a0A (pv 2) a0B))) (a1N _))))))))))))))))))),?_⟩
 refine ⟨_,rfl,a,ns,0,rfl,hS,h63,by decide,by decide,λ z0=>⟨_,_,rfl,rfl,(show (0:Int) < _ by decide),?_⟩⟩
 have m0:=Int.emod_nonneg z0 (show (7:Int) ≠ 0 by decide)
 have m1:=Int.emod_lt_of_pos z0 (show (0:Int) < 7 by decide)
 refine ⟨λ σ' H'=>∃ n:Nat,n <= 7/\σ' = [some (.ref a),some (.int (n:Int)),none,none,none,none,none,none,none]/\H' = H,?_,?_⟩
 ·refine ⟨_,rfl,a,ns,22,rfl,hS,h63,by decide,by decide,λ z1=>⟨_,_,rfl,rfl,(show (0:Int) < _ by decide),rfl,_,rfl,ite2 (λ c=>?_) (λ c=>?_)⟩⟩
  ·exact ⟨7,Nat.le_refl _,rfl,rfl⟩
  ·refine ⟨(z0 % 7).toNat,by omega,?_,rfl⟩
   rw [show (((z0 % 7).toNat:Nat):Int) = z0 % 7 by omega]
   rfl
 rintro σ' H' ⟨n,n7,rfl,rfl⟩
 have n10:n <= 10:=by omega
 refine ⟨_,rfl,_,rfl,a,ns,n,rfl,hS,h63,n7,λ rt xs ts H1 s1 f1 h1 p1 w1 z1=>?_⟩
 have lx:=Paired.length p1
 have okt:=w1.ok
 have nd:=w1.nd
 refine ⟨_,rfl,_,rfl,rt,_,rfl,.inl (SqL.of h1),λ rc H2 n2=>?_⟩
 refine ⟨(by show 2 <= 1000; decide),λ pg H3 n3=>?_⟩
 have s13:Same H1 H3:=n2.same.trans n3.same
 have p3:Paired (TieL H3) xs ts:=Paired.mapP p1 λ _ _ q=>TieL.same s13 q
 have g3:∀ {H':Hp},Same H3 H'->Paired (TieL H') xs ts:=λ {H'} s=>Paired.mapP p3 λ _ _ q=>TieL.same s q
 have hg3:GraphV K H3 (.ref pg) n ts:=⟨pg,rc,rfl,SqT.of n3.here,xs,SqL.of (n3.same _ _ n2.here),Paired.mapP p3 λ _ _ q=>q.v,by omega⟩
 have hrt3:=s13 _ _ h1
 have web:∀ {H' p},Same H3 H'->H' p = some (.tup [.int (n:Int),.ref rt])->GraphV K H' (.ref p) n ts:=λ {H' p} s h=>⟨p,rt,rfl,SqT.of h,xs,SqL.of (s _ _ hrt3),Paired.mapP (g3 s) λ _ _ q=>q.v,by omega⟩
 refine ⟨_,rfl,.ref pg,n,ts,rfl,hg3,okt,n10,λ cs H4 s4 C=>?_⟩
 have cge : -1 <= cs.getD (2 ^ n - 1) 0:=b7P C _ _ (Nat.le_refl _) (by have:=Nat.two_pow_pos n; omega)
 have lw1:cs.getD (2 ^ n - 1) 0 <= 1 ↔ Acy ts:=(c1F n10 C (by decide)).trans ⟨c3X okt nd,c3Y okt⟩
 have lw2:cs.getD (2 ^ n - 1) 0 <= 2 ↔ LW n ts 2:=c1F n10 C (by decide)
 generalize cs.getD (2 ^ n - 1) 0 = wd at lw1 lw2 cge
 refine ⟨_,rfl,_,_,_,_,_,rfl,rfl,TyOf.int _,c7Y,_,rfl,iteF ?_⟩
 refine ⟨_,rfl,_,_,_,_,_,rfl,rfl,TyOf.int _,c7Z,_,rfl,iteF ?_⟩
 refine ⟨_,rfl,_,rfl,_,rfl,(by show 2 <= 1000; decide),λ p5 H5 n5=>?_⟩
 have s35:=s4.trans n5.same
 refine ⟨_,_,(hg3.same s35).isD,(web s35 n5.here).isD,a1X _ _,a1X _ _,_,rfl,?_⟩
 rw [if_pos rfl,b2C (a1X _ _)]
 refine iteF ?_
 refine ⟨_,rfl,.ref pg,n,ts,rfl,hg3.same s35,okt,nd,n10,by omega,λ pw qw sm rg H6 s6 hw hsm hrg=>?_⟩
 have s36:=s35.trans s6
 refine ⟨_,rfl,pw,_,_,_,rfl,rfl,SqT.of hw,rfl,rfl,?_⟩
 have esm:decide (V.str (if sm = true then "wood" else "ring") = V.str "wood") = sm:=by
  cases sm with
  | true=>rfl
  | false=>rfl
 dsimp only
 rw [esm]
 refine andS (c1:=!sm) ?_ ?_ ?_
 ·exact λ Q h=>⟨_,rfl,_,rfl,h⟩
 ·intro e Q h
  have sf:sm = false:=by
   cases sm with
   | true=>cases e
   | false=>rfl
  obtain ⟨hq,R⟩:=hrg sf
  exact ⟨_,rfl,pw,_,_,_,rfl,rfl,SqT.of hw,rfl,_,rfl,n,qw,rt,rg,xs,ts,rfl,hq,R,n10,SqL.of (s36 _ _ hrt3),g3 s36,okt,by omega,λ H' s'=>⟨_,rfl,h H' s'⟩⟩
 intro H7 s7
 refine iteF ?_
 have s37:=s36.trans s7
 refine ⟨_,rfl,_,rfl,_,_,rfl,rfl,rfl,_,rfl,?_⟩
 have e1:decide (wd <= 1) = sm:=by
  cases sm with
  | true=>exact decide_eq_true (lw1.mpr (hsm.mp rfl))
  | false=>exact decide_eq_false λ z=>absurd (hsm.mpr (lw1.mp z)) (by decide)
 rw [show (!decide (V.bl sm = V.bl (decide (wd <= 1)))) = false by rw [e1]; simp]
 refine iteF ?_
 refine ⟨_,rfl,_,rfl,rt,_,rfl,.inl (SqL.of (s37 _ _ hrt3)),_,rfl,_,rfl,_,rfl,n,rt,xs,ts,rfl,n10,SqL.of (s37 _ _ hrt3),g3 s37,okt,λ h H8 s8 hac hn=>?_⟩
 refine ⟨_,_,rfl,rfl,rfl,rfl,_,rfl,?_⟩
 have e2:decide (V.int ((xs.length:Nat):Int) = V.int ((n:Int) - (h:Int))) = sm:=by
  cases sm with
  | true =>
   have:=hac.mpr (hsm.mp rfl)
   exact decide_eq_true (congrArg V.int (by omega))
  | false=>exact decide_eq_false λ z=>absurd (hsm.mpr (hac.mp (by have:=V.int.inj z; omega))) (by decide)
 rw [show (!decide (V.bl sm = V.bl (decide (V.int ((xs.length:Nat):Int) = V.int ((n:Int) - (h:Int)))))) = false by rw [e2]; simp]
 refine iteF ?_
 have s38:=s37.trans s8
 refine ⟨_,rfl,.ref pg,n,ts,rfl,hg3.same s38,okt,n10,λ pf pst plf ps qs S H9 s9 hf9 _ _ hl9 FR st _ _=>?_⟩
 have s39:=s38.trans s9
 refine ⟨pf,_,_,_,rfl,rfl,SqT.of hf9,rfl,plf,_,rfl,.inl (SqL.of hl9),rfl,?_⟩
 have fo:a5S n S = [] ↔ FoG n ts:=(b6S FR st).trans (b2V okt)
 have e3:decide (V.int (((natV (a5S n S)).length:Nat):Int) = V.int 0) = decide (wd <= 2):=by
  refine decide_eq_decide.mpr ⟨λ z=>lw2.mpr (b2Y FR ?_),λ z=>?_⟩
  ·have:=V.int.inj z
   rw [List.length_map] at this
   exact List.length_eq_zero_iff.mp (by omega)
  ·rw [fo.mpr (c1G okt (lw2.mp z))]
   rfl
 have e4:FoG n ts ↔ wd <= 2:=⟨λ z=>lw2.mpr (b2Y FR (fo.mpr z)),λ z=>c1G okt (lw2.mp z)⟩
 dsimp only
 rw [e3]
 have webq:∀ (H10:Hp) (p:Addr) (H11:Hp),Same H9 H10->New H10 p (.tup [.int (n:Int),.ref rt]) H11->PyData.eqv (webD n ts) (webD n ts) = true/\GraphV K H11 (.ref pg) n ts/\GraphV K H11 (.ref p) n ts:=λ H10 p H11 s10 n11=>⟨b2C (a1X _ _),hg3.same (s39.trans (s10.trans n11.same)),web (s39.trans (s10.trans n11.same)) n11.here⟩
 refine ⟨_,rfl,.ref pg,n,ts,rfl,hg3.same s39,n10,by omega,okt,λ F H10 s10=>?_,λ nF l ys F H10 s10 fl hl pF G l4 tr=>?_⟩
 ·rw [decide_eq_true (e4.mp F)]
  refine ⟨_,rfl,_,rfl,_,_,rfl,rfl,rfl,_,rfl,?_⟩
  dsimp only
  rw [show decide (V.bl true = V.bl (decide (wd <= 2))) = true from decide_eq_true (by rw [decide_eq_true (e4.mp F)])]
  refine iteT ?_
  refine ⟨_,rfl,rfl,_,rfl,rfl,_,rfl,iteT ?_⟩
  refine ⟨_,rfl,_,rfl,_,rfl,(by show 2 <= 1000; decide),λ p11 H11 n11=>?_⟩
  obtain ⟨w1',w2',w3'⟩:=webq H10 p11 H11 s10 n11
  refine ⟨_,_,w2'.isD,w3'.isD,a1X _ _,a1X _ _,?_⟩
  rw [if_neg Bool.false_ne_true,w1']
  exact q _
 ·have nw:¬ wd <= 2:=λ z=>nF (e4.mpr z)
  rw [decide_eq_false nw]
  refine ⟨_,rfl,_,rfl,_,_,rfl,rfl,rfl,_,rfl,?_⟩
  dsimp only
  rw [show decide (V.bl false = V.bl (decide (wd <= 2))) = true from decide_eq_true (by rw [decide_eq_false nw])]
  refine iteT ?_
  refine ⟨_,rfl,rfl,_,rfl,rfl,_,rfl,iteT ?_⟩
  refine ⟨_,rfl,_,rfl,_,rfl,(by show 2 <= 1000; decide),λ p11 H11 n11=>?_⟩
  obtain ⟨w1',w2',w3'⟩:=webq H10 p11 H11 s10 n11
  refine ⟨_,_,w2'.isD,w3'.isD,a1X _ _,a1X _ _,?_⟩
  rw [if_neg Bool.false_ne_true,w1']
  exact q _
end
end K
open PySem PySem.W PyProof.Rows
def PySem.W.Fast.tw3612834187442866399 : Unit := ()
def PySem.W.Fast.tw5932764685505064645 : Unit := ()
def PySem.W.Fast.tw10642407067331421594 : Unit := ()
def PySem.W.Fast.tw4087885606287687231 : Unit := ()
def PySem.W.Fast.tw190011552534634003 : Unit := ()
def PySem.W.Fast.tw9311305002206971028 : Unit := ()
def PySem.W.Fast.tw695955186119783543 : Unit := ()
def PySem.W.Fast.tw16120335684865365266 : Unit := ()
def PySem.W.Fast.tw8453329010312471022 : Unit := ()
def PySem.W.Fast.tw9516227203327752154 : Unit := ()
def PySem.W.Fast.tw4073991612781978805 : Unit := ()
def PySem.W.Fast.tw10395428560494427765 : Unit := ()
def PySem.W.Fast.tw13512073645611516847 : Unit := ()
def PySem.W.Fast.tw8657060054486690726 : Unit := ()
def PySem.W.Fast.tw16093601033195348557 : Unit := ()
def PySem.W.Fast.tw7141313929062111862 : Unit := ()
def PySem.W.Fast.tw18434592688916106179 : Unit := ()
def PySem.W.Fast.tw9901084015509756714 : Unit := ()
def PySem.W.Fast.tw11660009142322243795 : Unit := ()
set_option maxRecDepth 100000 in
set_option maxHeartbeats 0 in
theorem PySem.Challenge.cw_bagwood_k49_whole_low_widths_holds : PySem.Challenge.rw_bagwood_k49_whole_low_widths.Holds := by
 w_on; o_law; k_head; (case hw => w_witness2)
 k_fill
 refine L2.walk_ofK (l := PySem.Challenge.rw_bagwood_k49_whole_low_widths) (n := 63) (k := 10) (x := "_law_script") (CX := L2.CX0) (sp := Lw.spLaw) rfl (by decide) rfl ⟨rfl, by decide, by decide⟩ (fun w h Y => PySem.W.kIn_of Y) ?F ?S ?C
 case F =>
  intro w mg fa h KX G hmg
  have B : L2.Bl mg := by
   refine' L2.bl_mk KX G ?z1 ?z2 ?z3 ?z4 ?z5 ?z6 ?z7 ?z8 ?z9 ?z10 ?z11 ?z12 ?z13 ?z14 ?z15 ?z16 ?z17
   all_goals k_is
  have dZ17 : Nonempty (L2.Dn (L2.KOf KX) mg "is_whole" K.a7N ["thing"]) := by
   dsimp only [L2.KOf]
   refine' L2.dn_mk1 KX G ?a ?l ?c ?k rfl (fun _ _ _ _ _ _ _ => rfl)
   (case a => k_is); (case l => k_is); (case c => k_is); (case k => k_is)
  obtain ⟨dZ17⟩ := dZ17
  have dZ15 : Nonempty (L2.Dn (L2.KOf KX) mg "is_below" K.a7O ["n", "thing"]) := by
   dsimp only [L2.KOf]
   refine' L2.dn_mk2 KX G ?a ?l ?c ?k rfl (fun _ _ _ _ _ _ _ _ => rfl)
   (case a => k_is); (case l => k_is); (case c => k_is); (case k => k_is)
  obtain ⟨dZ15⟩ := dZ15
  have dZ7 : Nonempty (L2.Dn (L2.KOf KX) mg "common" K.a8G ["one", "other"]) := by
   dsimp only [L2.KOf]
   refine' L2.dn_mk2 KX G ?a ?l ?c ?k rfl (fun _ _ _ _ _ _ _ _ => rfl)
   (case a => k_is); (case l => k_is); (case c => k_is); (case k => k_is)
  obtain ⟨dZ7⟩ := dZ7
  have dZ18 : Nonempty (L2.Dn (L2.KOf KX) mg "joint" K.b6C ["one", "other"]) := by
   dsimp only [L2.KOf]
   refine' L2.dn_mk2 KX G ?a ?l ?c ?k rfl (fun _ _ _ _ _ _ _ _ => rfl)
   (case a => k_is); (case l => k_is); (case c => k_is); (case k => k_is)
  obtain ⟨dZ18⟩ := dZ18
  have dZ21 : Nonempty (L2.Dn (L2.KOf KX) mg "less" K.b2K ["one", "other"]) := by
   dsimp only [L2.KOf]
   refine' L2.dn_mk2 KX G ?a ?l ?c ?k rfl (fun _ _ _ _ _ _ _ _ => rfl)
   (case a => k_is); (case l => k_is); (case c => k_is); (case k => k_is)
  obtain ⟨dZ21⟩ := dZ21
  have dZ6 : Nonempty (L2.Dn (L2.KOf KX) mg "around" K.b2L ["graph", "v"]) := by
   dsimp only [L2.KOf]
   refine' L2.dn_mk2 KX G ?a ?l ?c ?k rfl (fun _ _ _ _ _ _ _ _ => rfl)
   (case a => k_is); (case l => k_is); (case c => k_is); (case k => k_is)
  obtain ⟨dZ6⟩ := dZ6
  have dZ26 : Nonempty (L2.Dn (L2.KOf KX) mg "pieces" K.b2S ["graph", "places"]) := by
   dsimp only [L2.KOf]
   refine' L2.dn_mk2 KX G ?a ?l ?c ?k rfl (fun _ _ _ _ _ _ _ _ => rfl)
   (case a => k_is); (case l => k_is); (case c => k_is); (case k => k_is)
  obtain ⟨dZ26⟩ := dZ26
  have dZ25 : Nonempty (L2.Dn (L2.KOf KX) mg "piece_from" K.a5Q ["graph", "places", "v"]) := by
   dsimp only [L2.KOf]
   refine' L2.dn_mk3 KX G ?a ?l ?c ?k rfl (fun _ _ _ _ _ _ _ _ _ => rfl)
   (case a => k_is); (case l => k_is); (case c => k_is); (case k => k_is)
  obtain ⟨dZ25⟩ := dZ25
  have dZ28 : Nonempty (L2.Dn (L2.KOf KX) mg "rim" K.c5W ["graph", "places"]) := by
   dsimp only [L2.KOf]
   refine' L2.dn_mk2 KX G ?a ?l ?c ?k rfl (fun _ _ _ _ _ _ _ _ => rfl)
   (case a => k_is); (case l => k_is); (case c => k_is); (case k => k_is)
  obtain ⟨dZ28⟩ := dZ28
  have dZ32 : Nonempty (L2.Dn (L2.KOf KX) mg "touch" K.b6D ["graph", "one", "other"]) := by
   dsimp only [L2.KOf]
   refine' L2.dn_mk3 KX G ?a ?l ?c ?k rfl (fun _ _ _ _ _ _ _ _ _ => rfl)
   (case a => k_is); (case l => k_is); (case c => k_is); (case k => k_is)
  obtain ⟨dZ32⟩ := dZ32
  have dZ27 : Nonempty (L2.Dn (L2.KOf KX) mg "places_of" K.a6O ["mask"]) := by
   dsimp only [L2.KOf]
   refine' L2.dn_mk1 KX G ?a ?l ?c ?k rfl (fun _ _ _ _ _ _ _ => rfl)
   (case a => k_is); (case l => k_is); (case c => k_is); (case k => k_is)
  obtain ⟨dZ27⟩ := dZ27
  have dZ24 : Nonempty (L2.Dn (L2.KOf KX) mg "mask_sizes" K.a5P ["n"]) := by
   dsimp only [L2.KOf]
   refine' L2.dn_mk1 KX G ?a ?l ?c ?k rfl (fun _ _ _ _ _ _ _ => rfl)
   (case a => k_is); (case l => k_is); (case c => k_is); (case k => k_is)
  obtain ⟨dZ24⟩ := dZ24
  have dZ11 : Nonempty (L2.Dn (L2.KOf KX) mg "first_bags" K.a5N ["graph"]) := by
   dsimp only [L2.KOf]
   refine' L2.dn_mk1 KX G ?a ?l ?c ?k rfl (fun _ _ _ _ _ _ _ => rfl)
   (case a => k_is); (case l => k_is); (case c => k_is); (case k => k_is)
  obtain ⟨dZ11⟩ := dZ11
  have dZ31 : Nonempty (L2.Dn (L2.KOf KX) mg "taken_out" K.a6P ["bags", "v"]) := by
   dsimp only [L2.KOf]
   refine' L2.dn_mk2 KX G ?a ?l ?c ?k rfl (fun _ _ _ _ _ _ _ _ => rfl)
   (case a => k_is); (case l => k_is); (case c => k_is); (case k => k_is)
  obtain ⟨dZ31⟩ := dZ31
  have dZ5 : Nonempty (L2.Dn (L2.KOf KX) mg "all_bags" K.a7U ["graph"]) := by
   dsimp only [L2.KOf]
   refine' L2.dn_mk1 KX G ?a ?l ?c ?k rfl (fun _ _ _ _ _ _ _ => rfl)
   (case a => k_is); (case l => k_is); (case c => k_is); (case k => k_is)
  obtain ⟨dZ5⟩ := dZ5
  have dZ8 : Nonempty (L2.Dn (L2.KOf KX) mg "costs" K.b7I ["graph"]) := by
   dsimp only [L2.KOf]
   refine' L2.dn_mk1 KX G ?a ?l ?c ?k rfl (fun _ _ _ _ _ _ _ => rfl)
   (case a => k_is); (case l => k_is); (case c => k_is); (case k => k_is)
  obtain ⟨dZ8⟩ := dZ8
  have dZ9 : Nonempty (L2.Dn (L2.KOf KX) mg "costs_along" K.a4S ["bags"]) := by
   dsimp only [L2.KOf]
   refine' L2.dn_mk1 KX G ?a ?l ?c ?k rfl (fun _ _ _ _ _ _ _ => rfl)
   (case a => k_is); (case l => k_is); (case c => k_is); (case k => k_is)
  obtain ⟨dZ9⟩ := dZ9
  have dZ20 : Nonempty (L2.Dn (L2.KOf KX) mg "least_width" K.a4T ["graph"]) := by
   dsimp only [L2.KOf]
   refine' L2.dn_mk1 KX G ?a ?l ?c ?k rfl (fun _ _ _ _ _ _ _ => rfl)
   (case a => k_is); (case l => k_is); (case c => k_is); (case k => k_is)
  obtain ⟨dZ20⟩ := dZ20
  have dZ34 : Nonempty (L2.Dn (L2.KOf KX) mg "wood" K.c1C ["graph"]) := by
   dsimp only [L2.KOf]
   refine' L2.dn_mk1 KX G ?a ?l ?c ?k rfl (fun _ _ _ _ _ _ _ => rfl)
   (case a => k_is); (case l => k_is); (case c => k_is); (case k => k_is)
  obtain ⟨dZ34⟩ := dZ34
  have dZ30 : Nonempty (L2.Dn (L2.KOf KX) mg "ringed" K.b2T ["graph"]) := by
   dsimp only [L2.KOf]
   refine' L2.dn_mk1 KX G ?a ?l ?c ?k rfl (fun _ _ _ _ _ _ _ => rfl)
   (case a => k_is); (case l => k_is); (case c => k_is); (case k => k_is)
  obtain ⟨dZ30⟩ := dZ30
  have dZ22 : Nonempty (L2.Dn (L2.KOf KX) mg "loose_among" K.a4Q ["graph", "left"]) := by
   dsimp only [L2.KOf]
   refine' L2.dn_mk2 KX G ?a ?l ?c ?k rfl (fun _ _ _ _ _ _ _ _ => rfl)
   (case a => k_is); (case l => k_is); (case c => k_is); (case k => k_is)
  obtain ⟨dZ22⟩ := dZ22
  have dZ29 : Nonempty (L2.Dn (L2.KOf KX) mg "ring_among" K.a3N ["graph", "left"]) := by
   dsimp only [L2.KOf]
   refine' L2.dn_mk2 KX G ?a ?l ?c ?k rfl (fun _ _ _ _ _ _ _ _ => rfl)
   (case a => k_is); (case l => k_is); (case c => k_is); (case k => k_is)
  obtain ⟨dZ29⟩ := dZ29
  have dZ33 : Nonempty (L2.Dn (L2.KOf KX) mg "up_to" K.b7C ["graph", "piece", "v"]) := by
   dsimp only [L2.KOf]
   refine' L2.dn_mk3 KX G ?a ?l ?c ?k rfl (fun _ _ _ _ _ _ _ _ _ => rfl)
   (case a => k_is); (case l => k_is); (case c => k_is); (case k => k_is)
  obtain ⟨dZ33⟩ := dZ33
  have dZ13 : Nonempty (L2.Dn (L2.KOf KX) mg "folds" K.b6L ["graph"]) := by
   dsimp only [L2.KOf]
   refine' L2.dn_mk1 KX G ?a ?l ?c ?k rfl (fun _ _ _ _ _ _ _ => rfl)
   (case a => k_is); (case l => k_is); (case c => k_is); (case k => k_is)
  obtain ⟨dZ13⟩ := dZ13
  have dZ12 : Nonempty (L2.Dn (L2.KOf KX) mg "first_to_fold" K.a3L ["bags", "sizes"]) := by
   dsimp only [L2.KOf]
   refine' L2.dn_mk2 KX G ?a ?l ?c ?k rfl (fun _ _ _ _ _ _ _ _ => rfl)
   (case a => k_is); (case l => k_is); (case c => k_is); (case k => k_is)
  obtain ⟨dZ12⟩ := dZ12
  have dZ14 : Nonempty (L2.Dn (L2.KOf KX) mg "four" K.c1A ["graph"]) := by
   dsimp only [L2.KOf]
   refine' L2.dn_mk1 KX G ?a ?l ?c ?k rfl (fun _ _ _ _ _ _ _ => rfl)
   (case a => k_is); (case l => k_is); (case c => k_is); (case k => k_is)
  obtain ⟨dZ14⟩ := dZ14
  have dZ16 : Nonempty (L2.Dn (L2.KOf KX) mg "is_firm" K.b0B ["graph", "parts"]) := by
   dsimp only [L2.KOf]
   refine' L2.dn_mk2 KX G ?a ?l ?c ?k rfl (fun _ _ _ _ _ _ _ _ => rfl)
   (case a => k_is); (case l => k_is); (case c => k_is); (case k => k_is)
  obtain ⟨dZ16⟩ := dZ16
  have dZ10 : Nonempty (L2.Dn (L2.KOf KX) mg "firm_of" K.b0C ["graph", "fewer", "parts"]) := by
   dsimp only [L2.KOf]
   refine' L2.dn_mk3 KX G ?a ?l ?c ?k rfl (fun _ _ _ _ _ _ _ _ _ => rfl)
   (case a => k_is); (case l => k_is); (case c => k_is); (case k => k_is)
  obtain ⟨dZ10⟩ := dZ10
  have dZ23 : Nonempty (L2.Dn (L2.KOf KX) mg "made_one" K.a5D ["parts", "a", "b"]) := by
   dsimp only [L2.KOf]
   refine' L2.dn_mk3 KX G ?a ?l ?c ?k rfl (fun _ _ _ _ _ _ _ _ _ => rfl)
   (case a => k_is); (case l => k_is); (case c => k_is); (case k => k_is)
  obtain ⟨dZ23⟩ := dZ23
  have dZ0 : Nonempty (L2.Dn (L2.KOf KX) mg "_law_cell" K.a6U ["_law_script", "_law_k"]) := by
   dsimp only [L2.KOf]
   refine' L2.dn_mk2 KX G ?a ?l ?c ?k rfl (fun _ _ _ _ _ _ _ _ => rfl)
   (case a => k_is); (case l => k_is); (case c => k_is); (case k => k_is)
  obtain ⟨dZ0⟩ := dZ0
  have dZ4 : Nonempty (L2.Dn (L2.KOf KX) mg "_law_turned" K.a4U ["_law_script", "_law_n"]) := by
   dsimp only [L2.KOf]
   refine' L2.dn_mk2 KX G ?a ?l ?c ?k rfl (fun _ _ _ _ _ _ _ _ => rfl)
   (case a => k_is); (case l => k_is); (case c => k_is); (case k => k_is)
  obtain ⟨dZ4⟩ := dZ4
  have dZ3 : Nonempty (L2.Dn (L2.KOf KX) mg "_law_ties" K.a6V ["_law_script", "_law_n"]) := by
   dsimp only [L2.KOf]
   refine' L2.dn_mk2 KX G ?a ?l ?c ?k rfl (fun _ _ _ _ _ _ _ _ => rfl)
   (case a => k_is); (case l => k_is); (case c => k_is); (case k => k_is)
  obtain ⟨dZ3⟩ := dZ3
  have dZ1 : Nonempty (L2.Dn (L2.KOf KX) mg "_law_heaps" K.a5R ["_law_n", "_law_ties_here"]) := by
   dsimp only [L2.KOf]
   refine' L2.dn_mk2 KX G ?a ?l ?c ?k rfl (fun _ _ _ _ _ _ _ _ => rfl)
   (case a => k_is); (case l => k_is); (case c => k_is); (case k => k_is)
  obtain ⟨dZ1⟩ := dZ1
  have dZ2 : Nonempty (L2.Dn (L2.KOf KX) mg "_law_ring" K.a3B ["_law_ring_here", "_law_ties_here"]) := by
   dsimp only [L2.KOf]
   refine' L2.dn_mk2 KX G ?a ?l ?c ?k rfl (fun _ _ _ _ _ _ _ _ => rfl)
   (case a => k_is); (case l => k_is); (case c => k_is); (case k => k_is)
  obtain ⟨dZ2⟩ := dZ2
  have dZ19 : Nonempty (L2.Dn (L2.KOf KX) mg "law" K.c4F ["_law_script"]) := by
   dsimp only [L2.KOf]
   refine' L2.dn_mk1 KX G ?a ?l ?c ?k rfl (fun _ _ _ _ _ _ _ => rfl)
   (case a => k_is); (case l => k_is); (case c => k_is); (case k => k_is)
  obtain ⟨dZ19⟩ := dZ19
  exact L2.law_at hmg dZ19 fun base => K.c8B B dZ17 dZ15 dZ7 dZ18 dZ21 dZ6 dZ26 dZ25 dZ28 dZ32 dZ27 dZ24 dZ11 dZ31 dZ5 dZ8 dZ9 dZ20 dZ34 dZ30 dZ22 dZ29 dZ33 dZ13 dZ12 dZ14 dZ16 dZ10 dZ23 dZ0 dZ4 dZ3 dZ1 dZ2 dZ19
 case S => exact fun K H a ns hl hO hS => ⟨a, ns, rfl, Lw.Scr.of hO hS, hl, fun _ => rfl⟩
 case C => exact fun _ _ _ _ z => z
